/- Contract of package arm: LinkDirections. -/
import Derived.Test.YtceejjamngplkaaDoorAmN
import Derived.Test.YtceejjamngplkaaDoorAmC
namespace Go.Proofs.YtceejjamngplkaaDoor
open Go.ChangeShapes Go.WideShapes Go.ChangeAt Go.RowKit
set_option linter.unusedVariables false
set_option linter.unusedSimpArgs false
set_option maxRecDepth 100000

theorem vd_gm (a : Int × Int) (q N : Int) (h : vdB a.1 a.2 N = true) (hN : N ≤ 2) : vdB (gm a (rE q)).1 (gm a (rE q)).2 (N + 1) = true := vd_step _ _ _ _ _ h hN (rE_len q)
theorem vd_one (q x y : Int) (h : Hid (rE q = (x, y))) : vdB x y 1 = true := by
  have := vd_gm (1, 0) q 0 (by decide) (by omega)
  have e : gm (1, 0) (rE q) = rE q := by unfold gm; exact Prod.ext (by simp only; omega) (by simp only; omega)
  rwa [e, h.out] at this
theorem vd_two (a : Int × Int) (q x y N M : Int) (ha : vdB a.1 a.2 N = true) (hN : N ≤ 2) (hM : N + 1 = M) (h : Hid (gm a (rE q) = (x, y))) : vdB x y M = true := by
  have := vd_gm a q N ha hN
  rwa [h.out, hM] at this
set_option maxHeartbeats 2000000 in
theorem ldirs_is (X Y n0 n1 n2 W l0 l1 l2 h0 h1 h2 : Int) (q0 q1 q2 : Int) (x1 y1 x2 y2 x3 y3 : Int) (w : World) (hT : Tab w) (k0 : -1000 ≤ q0 ∧ q0 ≤ 1000) (k1 : -1000 ≤ q1 ∧ q1 ≤ 1000) (k2 : -1000 ≤ q2 ∧ q2 ≤ 1000)
    (H1 : Hid (rE q0 = (x1, y1))) (H2 : Hid (gm (x1, y1) (rE q1) = (x2, y2))) (H3 : Hid (gm (x2, y2) (rE q2) = (x3, y3))) :
    Calls Tryd.prog 22 #[.agg #[.int .i64 X, .int .i64 Y, .int .i64 n0, .int .i64 n1, .int .i64 n2, .int .i64 W, .int .i64 l0, .int .i64 l1, .int .i64 l2, .int .i64 h0, .int .i64 h1, .int .i64 h2], .agg #[.int .i64 q0, .int .i64 q1, .int .i64 q2]] w fun e w' => e = .returned (.agg #[.int .i64 x1, .int .i64 y1, .int .i64 1, .int .i64 x2, .int .i64 y2, .int .i64 2, .int .i64 x3, .int .i64 y3, .int .i64 3]) ∧ Below w.heap.size w w' := by
  have U1 : Hid (1 * (csF (q0 % 36).toNat).1 - 0 * (csF (q0 % 36).toNat).2 = x1) := Lib.hid (by have := congrArg Prod.fst H1.out; unfold rE at this; simp only at this; omega)
  have V1 : Hid (1 * (csF (q0 % 36).toNat).2 + 0 * (csF (q0 % 36).toNat).1 = y1) := Lib.hid (by have := congrArg Prod.snd H1.out; unfold rE at this; simp only at this; omega)
  have U2 : Hid (x1 * (csF (q1 % 36).toNat).1 - y1 * (csF (q1 % 36).toNat).2 = x2) := Lib.hid (congrArg Prod.fst H2.out)
  have V2 : Hid (x1 * (csF (q1 % 36).toNat).2 + y1 * (csF (q1 % 36).toNat).1 = y2) := Lib.hid (congrArg Prod.snd H2.out)
  have U3 : Hid (x2 * (csF (q2 % 36).toNat).1 - y2 * (csF (q2 % 36).toNat).2 = x3) := Lib.hid (congrArg Prod.fst H3.out)
  have V3 : Hid (x2 * (csF (q2 % 36).toNat).2 + y2 * (csF (q2 % 36).toNat).1 = y3) := Lib.hid (congrArg Prod.snd H3.out)
  have D1 := Lib.hid (vd_one q0 x1 y1 H1)
  have D2 := Lib.hid (vd_two (x1, y1) q1 x2 y2 1 2 D1.out (by omega) rfl H2)
  clear H1 H2 H3
  have I0 := fun w => (ixJ q0 q1 q2 w).1
  have I1 := fun w => (ixJ q0 q1 q2 w).2.1
  have I2 := fun w => (ixJ q0 q1 q2 w).2.2
  go_enter Tryd.func22, Tryd.ntmps22
  go_upto_region 3 with fail
  obtain ⟨W0, hW⟩ : ∃ x, (((((w.alloc (.cells #[.int .i64 X, .int .i64 Y, .int .i64 n0, .int .i64 n1, .int .i64 n2, .int .i64 W, .int .i64 l0, .int .i64 l1, .int .i64 l2, .int .i64 h0, .int .i64 h1, .int .i64 h2] 27)).alloc (.cells #[.int .i64 q0, .int .i64 q1, .int .i64 q2] 25)).alloc (.cells #[.int .i64 0, .int .i64 0, .int .i64 0, .int .i64 0, .int .i64 0, .int .i64 0, .int .i64 0, .int .i64 0, .int .i64 0] 46)).alloc (.cells #[.int .i64 0, .int .i64 0, .int .i64 0, .int .i64 0, .int .i64 0, .int .i64 0, .int .i64 0, .int .i64 0, .int .i64 0] 46)).alloc (.cells #[.int .i64 1, .int .i64 0, .int .i64 0] 29)) = x := ⟨_, rfl⟩
  have HD : Hid (W0.heap[w.heap.size + 1 + 1 + 1 + 1]? = some (.cells #[.int .i64 1, .int .i64 0, .int .i64 0] 29 (0, 0))) := Lib.hid (by rw [← hW]; exact blk_new _ _ _ (by simp))
  have HE : Hid (W0.heap[w.heap.size + 1 + 1 + 1]? = some (.cells #[.int .i64 0, .int .i64 0, .int .i64 0, .int .i64 0, .int .i64 0, .int .i64 0, .int .i64 0, .int .i64 0, .int .i64 0] 46 (0, 0))) := Lib.hid (by rw [← hW]; exact blk_alloc (blk_new _ _ _ (by simp)) _)
  have HR : Hid (W0.heap[w.heap.size + 1 + 1]? = some (.cells #[.int .i64 0, .int .i64 0, .int .i64 0, .int .i64 0, .int .i64 0, .int .i64 0, .int .i64 0, .int .i64 0, .int .i64 0] 46 (0, 0))) := Lib.hid (by rw [← hW]; exact blk_alloc (blk_alloc (blk_new _ _ _ (by simp)) _) _)
  have HQ : Hid (W0.heap[w.heap.size + 1]? = some (.cells #[.int .i64 q0, .int .i64 q1, .int .i64 q2] 25 (0, 0))) := Lib.hid (by rw [← hW]; exact blk_alloc (blk_alloc (blk_alloc (blk_new _ _ _ (by simp)) _) _) _)
  have B : Hid (Below w.heap.size w W0) := Lib.hid (by rw [← hW]; go_grown)
  have T : Hid (Tab W0) := Lib.hid (by rw [← hW]; repeat (first | exact hT | apply Tab.alloc))
  have TP := Lib.hid (Tab.pos hT)
  rw [hW]
  clear hW hT
  generalize hd : w.heap.size + 1 + 1 + 1 + 1 = d at *
  generalize he : w.heap.size + 1 + 1 + 1 = g at *
  generalize hr : w.heap.size + 1 + 1 = r at *
  generalize hq : w.heap.size + 1 = q at *
  have NE := Lib.hid (show d ≠ g ∧ w.heap.size ≤ d ∧ w.heap.size ≤ g ∧ w.heap.size ≤ r ∧ r ≠ g ∧ r ≠ d by omega)
  have m1 : d ≠ g := NE.out.1
  have m2 : g ≠ d := fun h => m1 h.symm
  have m3 : r ≠ g := NE.out.2.2.2.2.1
  have m4 : g ≠ r := fun h => m3 h.symm
  have m5 : r ≠ d := NE.out.2.2.2.2.2
  have m6 : d ≠ r := fun h => m5 h.symm
  clear hd he hr hq
  have z0 := blk_cell HQ.out 0 _ rfl
  have z1 := blk_cell HQ.out 1 _ rfl
  have z2 := blk_cell HQ.out 2 _ rfl
  go_wp2_with fail
  clear z0 z1 z2
  refine wp_loop_rounds 4 ?_
  rw [rounds_succ]
  have c0 := blk_cell HD.out 0 _ rfl
  have c1 := blk_cell HD.out 1 _ rfl
  have c2 := blk_cell HD.out 2 _ rfl
  go_wp2_with fail
  refine (compose_is 1 0 0 q0 x1 y1 _ T.out (by decide) (by omega) (by omega) U1 V1).mono ?_
  rintro e A0 ⟨rfl, hb⟩
  clear c0 c1 c2
  replace HD := Lib.hid (blk_call HD.out hb)
  replace HE := Lib.hid (blk_call HE.out hb)
  replace HR := Lib.hid (blk_call HR.out hb)
  replace T := Lib.hid (T.out.below hb)
  replace B := Lib.hid (belT B.out hb)
  clear hb
  have c0 := blk_cell HD.out 0 _ rfl
  have f0 := blk_fz HD.out 0
  have e0 := blk_cell HE.out 0 _ rfl
  have j0 := blk_fz HE.out 0
  have c1 := blk_cell HD.out 1 _ rfl
  have f1 := blk_fz HD.out 1
  have e1 := blk_cell HE.out 1 _ rfl
  have j1 := blk_fz HE.out 1
  have c2 := blk_cell HD.out 2 _ rfl
  have f2 := blk_fz HD.out 2
  have e2 := blk_cell HE.out 2 _ rfl
  have j2 := blk_fz HE.out 2
  go_wp2_with fail
  clear c0 f0 e0 j0
  clear c1 f1 e1 j1
  clear c2 f2 e2 j2
  obtain ⟨W1, hW⟩ : ∃ x, ((((((A0.setCell ⟨d, 0, none⟩ (.int .i64 x1)).setCell ⟨d, 1, none⟩ (.int .i64 y1)).setCell ⟨d, 2, none⟩ (.int .i64 1)).setCell ⟨g, 0, none⟩ (.int .i64 x1)).setCell ⟨g, 1, none⟩ (.int .i64 y1)).setCell ⟨g, 2, none⟩ (.int .i64 1)) = x := ⟨_, rfl⟩
  replace HD : Hid (W1.heap[d]? = some (.cells #[.int .i64 x1, .int .i64 y1, .int .i64 1] 29 (0, 0))) := Lib.hid (by rw [← hW]; exact (blk_other (blk_other (blk_other (blk_set (blk_set (blk_set HD.out _) _) _) m2 _) m2 _) m2 _))
  replace HE : Hid (W1.heap[g]? = some (.cells #[.int .i64 x1, .int .i64 y1, .int .i64 1, .int .i64 0, .int .i64 0, .int .i64 0, .int .i64 0, .int .i64 0, .int .i64 0] 46 (0, 0))) := Lib.hid (by rw [← hW]; exact (blk_set (blk_set (blk_set (blk_other (blk_other (blk_other HE.out m1 _) m1 _) m1 _) _) _) _))
  replace HR : Hid (W1.heap[r]? = some (.cells #[.int .i64 0, .int .i64 0, .int .i64 0, .int .i64 0, .int .i64 0, .int .i64 0, .int .i64 0, .int .i64 0, .int .i64 0] 46 (0, 0))) := Lib.hid (by rw [← hW]; exact (blk_other (blk_other (blk_other (blk_other (blk_other (blk_other HR.out m6 _) m6 _) m6 _) m4 _) m4 _) m4 _))
  replace T : Hid (Tab W1) := Lib.hid (by rw [← hW]; exact (Tab.setCell (Tab.setCell (Tab.setCell (Tab.setCell (Tab.setCell (Tab.setCell T.out (Nat.lt_of_lt_of_le TP.out NE.out.2.1) _) (Nat.lt_of_lt_of_le TP.out NE.out.2.1) _) (Nat.lt_of_lt_of_le TP.out NE.out.2.1) _) (Nat.lt_of_lt_of_le TP.out NE.out.2.2.1) _) (Nat.lt_of_lt_of_le TP.out NE.out.2.2.1) _) (Nat.lt_of_lt_of_le TP.out NE.out.2.2.1) _))
  replace B : Hid (Below w.heap.size w W1) := Lib.hid (by rw [← hW]; exact (belS (belS (belS (belS (belS (belS B.out NE.out.2.1 _) NE.out.2.1 _) NE.out.2.1 _) NE.out.2.2.1 _) NE.out.2.2.1 _) NE.out.2.2.1 _))
  rw [hW]
  clear hW
  rw [rounds_succ]
  have c0 := blk_cell HD.out 0 _ rfl
  have c1 := blk_cell HD.out 1 _ rfl
  have c2 := blk_cell HD.out 2 _ rfl
  go_wp2_with fail
  refine (compose_is x1 y1 1 q1 x2 y2 _ T.out D1.out (by omega) (by omega) U2 V2).mono ?_
  rintro e A1 ⟨rfl, hb⟩
  clear c0 c1 c2
  replace HD := Lib.hid (blk_call HD.out hb)
  replace HE := Lib.hid (blk_call HE.out hb)
  replace HR := Lib.hid (blk_call HR.out hb)
  replace T := Lib.hid (T.out.below hb)
  replace B := Lib.hid (belT B.out hb)
  clear hb
  have c0 := blk_cell HD.out 0 _ rfl
  have f0 := blk_fz HD.out 0
  have e0 := blk_cell HE.out 3 _ rfl
  have j0 := blk_fz HE.out 3
  have c1 := blk_cell HD.out 1 _ rfl
  have f1 := blk_fz HD.out 1
  have e1 := blk_cell HE.out 4 _ rfl
  have j1 := blk_fz HE.out 4
  have c2 := blk_cell HD.out 2 _ rfl
  have f2 := blk_fz HD.out 2
  have e2 := blk_cell HE.out 5 _ rfl
  have j2 := blk_fz HE.out 5
  go_wp2_with fail
  clear c0 f0 e0 j0
  clear c1 f1 e1 j1
  clear c2 f2 e2 j2
  obtain ⟨W2, hW⟩ : ∃ x, ((((((A1.setCell ⟨d, 0, none⟩ (.int .i64 x2)).setCell ⟨d, 1, none⟩ (.int .i64 y2)).setCell ⟨d, 2, none⟩ (.int .i64 2)).setCell ⟨g, 3, none⟩ (.int .i64 x2)).setCell ⟨g, 4, none⟩ (.int .i64 y2)).setCell ⟨g, 5, none⟩ (.int .i64 2)) = x := ⟨_, rfl⟩
  replace HD : Hid (W2.heap[d]? = some (.cells #[.int .i64 x2, .int .i64 y2, .int .i64 2] 29 (0, 0))) := Lib.hid (by rw [← hW]; exact (blk_other (blk_other (blk_other (blk_set (blk_set (blk_set HD.out _) _) _) m2 _) m2 _) m2 _))
  replace HE : Hid (W2.heap[g]? = some (.cells #[.int .i64 x1, .int .i64 y1, .int .i64 1, .int .i64 x2, .int .i64 y2, .int .i64 2, .int .i64 0, .int .i64 0, .int .i64 0] 46 (0, 0))) := Lib.hid (by rw [← hW]; exact (blk_set (blk_set (blk_set (blk_other (blk_other (blk_other HE.out m1 _) m1 _) m1 _) _) _) _))
  replace HR : Hid (W2.heap[r]? = some (.cells #[.int .i64 0, .int .i64 0, .int .i64 0, .int .i64 0, .int .i64 0, .int .i64 0, .int .i64 0, .int .i64 0, .int .i64 0] 46 (0, 0))) := Lib.hid (by rw [← hW]; exact (blk_other (blk_other (blk_other (blk_other (blk_other (blk_other HR.out m6 _) m6 _) m6 _) m4 _) m4 _) m4 _))
  replace T : Hid (Tab W2) := Lib.hid (by rw [← hW]; exact (Tab.setCell (Tab.setCell (Tab.setCell (Tab.setCell (Tab.setCell (Tab.setCell T.out (Nat.lt_of_lt_of_le TP.out NE.out.2.1) _) (Nat.lt_of_lt_of_le TP.out NE.out.2.1) _) (Nat.lt_of_lt_of_le TP.out NE.out.2.1) _) (Nat.lt_of_lt_of_le TP.out NE.out.2.2.1) _) (Nat.lt_of_lt_of_le TP.out NE.out.2.2.1) _) (Nat.lt_of_lt_of_le TP.out NE.out.2.2.1) _))
  replace B : Hid (Below w.heap.size w W2) := Lib.hid (by rw [← hW]; exact (belS (belS (belS (belS (belS (belS B.out NE.out.2.1 _) NE.out.2.1 _) NE.out.2.1 _) NE.out.2.2.1 _) NE.out.2.2.1 _) NE.out.2.2.1 _))
  rw [hW]
  clear hW
  rw [rounds_succ]
  have c0 := blk_cell HD.out 0 _ rfl
  have c1 := blk_cell HD.out 1 _ rfl
  have c2 := blk_cell HD.out 2 _ rfl
  go_wp2_with fail
  refine (compose_is x2 y2 2 q2 x3 y3 _ T.out D2.out (by omega) (by omega) U3 V3).mono ?_
  rintro e A2 ⟨rfl, hb⟩
  clear c0 c1 c2
  replace HD := Lib.hid (blk_call HD.out hb)
  replace HE := Lib.hid (blk_call HE.out hb)
  replace HR := Lib.hid (blk_call HR.out hb)
  replace T := Lib.hid (T.out.below hb)
  replace B := Lib.hid (belT B.out hb)
  clear hb
  have c0 := blk_cell HD.out 0 _ rfl
  have f0 := blk_fz HD.out 0
  have e0 := blk_cell HE.out 6 _ rfl
  have j0 := blk_fz HE.out 6
  have c1 := blk_cell HD.out 1 _ rfl
  have f1 := blk_fz HD.out 1
  have e1 := blk_cell HE.out 7 _ rfl
  have j1 := blk_fz HE.out 7
  have c2 := blk_cell HD.out 2 _ rfl
  have f2 := blk_fz HD.out 2
  have e2 := blk_cell HE.out 8 _ rfl
  have j2 := blk_fz HE.out 8
  go_wp2_with fail
  clear c0 f0 e0 j0
  clear c1 f1 e1 j1
  clear c2 f2 e2 j2
  obtain ⟨W3, hW⟩ : ∃ x, ((((((A2.setCell ⟨d, 0, none⟩ (.int .i64 x3)).setCell ⟨d, 1, none⟩ (.int .i64 y3)).setCell ⟨d, 2, none⟩ (.int .i64 3)).setCell ⟨g, 6, none⟩ (.int .i64 x3)).setCell ⟨g, 7, none⟩ (.int .i64 y3)).setCell ⟨g, 8, none⟩ (.int .i64 3)) = x := ⟨_, rfl⟩
  replace HD : Hid (W3.heap[d]? = some (.cells #[.int .i64 x3, .int .i64 y3, .int .i64 3] 29 (0, 0))) := Lib.hid (by rw [← hW]; exact (blk_other (blk_other (blk_other (blk_set (blk_set (blk_set HD.out _) _) _) m2 _) m2 _) m2 _))
  replace HE : Hid (W3.heap[g]? = some (.cells #[.int .i64 x1, .int .i64 y1, .int .i64 1, .int .i64 x2, .int .i64 y2, .int .i64 2, .int .i64 x3, .int .i64 y3, .int .i64 3] 46 (0, 0))) := Lib.hid (by rw [← hW]; exact (blk_set (blk_set (blk_set (blk_other (blk_other (blk_other HE.out m1 _) m1 _) m1 _) _) _) _))
  replace HR : Hid (W3.heap[r]? = some (.cells #[.int .i64 0, .int .i64 0, .int .i64 0, .int .i64 0, .int .i64 0, .int .i64 0, .int .i64 0, .int .i64 0, .int .i64 0] 46 (0, 0))) := Lib.hid (by rw [← hW]; exact (blk_other (blk_other (blk_other (blk_other (blk_other (blk_other HR.out m6 _) m6 _) m6 _) m4 _) m4 _) m4 _))
  replace T : Hid (Tab W3) := Lib.hid (by rw [← hW]; exact (Tab.setCell (Tab.setCell (Tab.setCell (Tab.setCell (Tab.setCell (Tab.setCell T.out (Nat.lt_of_lt_of_le TP.out NE.out.2.1) _) (Nat.lt_of_lt_of_le TP.out NE.out.2.1) _) (Nat.lt_of_lt_of_le TP.out NE.out.2.1) _) (Nat.lt_of_lt_of_le TP.out NE.out.2.2.1) _) (Nat.lt_of_lt_of_le TP.out NE.out.2.2.1) _) (Nat.lt_of_lt_of_le TP.out NE.out.2.2.1) _))
  replace B : Hid (Below w.heap.size w W3) := Lib.hid (by rw [← hW]; exact (belS (belS (belS (belS (belS (belS B.out NE.out.2.1 _) NE.out.2.1 _) NE.out.2.1 _) NE.out.2.2.1 _) NE.out.2.2.1 _) NE.out.2.2.1 _))
  rw [hW]
  clear hW
  rw [rounds_succ]
  have e0 := blk_cell HE.out 0 _ rfl
  have r0 := blk_cell HR.out 0 _ rfl
  have j0 := blk_fz HR.out 0
  have e1 := blk_cell HE.out 1 _ rfl
  have r1 := blk_cell HR.out 1 _ rfl
  have j1 := blk_fz HR.out 1
  have e2 := blk_cell HE.out 2 _ rfl
  have r2 := blk_cell HR.out 2 _ rfl
  have j2 := blk_fz HR.out 2
  have e3 := blk_cell HE.out 3 _ rfl
  have r3 := blk_cell HR.out 3 _ rfl
  have j3 := blk_fz HR.out 3
  have e4 := blk_cell HE.out 4 _ rfl
  have r4 := blk_cell HR.out 4 _ rfl
  have j4 := blk_fz HR.out 4
  have e5 := blk_cell HE.out 5 _ rfl
  have r5 := blk_cell HR.out 5 _ rfl
  have j5 := blk_fz HR.out 5
  have e6 := blk_cell HE.out 6 _ rfl
  have r6 := blk_cell HR.out 6 _ rfl
  have j6 := blk_fz HR.out 6
  have e7 := blk_cell HE.out 7 _ rfl
  have r7 := blk_cell HR.out 7 _ rfl
  have j7 := blk_fz HR.out 7
  have e8 := blk_cell HE.out 8 _ rfl
  have r8 := blk_cell HR.out 8 _ rfl
  have j8 := blk_fz HR.out 8
  go_wp2_with fail
  clear e0 r0 j0
  clear e1 r1 j1
  clear e2 r2 j2
  clear e3 r3 j3
  clear e4 r4 j4
  clear e5 r5 j5
  clear e6 r6 j6
  clear e7 r7 j7
  clear e8 r8 j8
  have HZ0 : Hid ((((W3.setCell ⟨r, 0, none⟩ (.int .i64 x1)).setCell ⟨r, 1, none⟩ (.int .i64 y1)).setCell ⟨r, 2, none⟩ (.int .i64 1)).heap[r]? = some (.cells #[.int .i64 x1, .int .i64 y1, .int .i64 1, .int .i64 0, .int .i64 0, .int .i64 0, .int .i64 0, .int .i64 0, .int .i64 0] 46 (0, 0))) := Lib.hid (blk_set (blk_set (blk_set HR.out _) _) _)
  have HZ1 : Hid (((((((W3.setCell ⟨r, 0, none⟩ (.int .i64 x1)).setCell ⟨r, 1, none⟩ (.int .i64 y1)).setCell ⟨r, 2, none⟩ (.int .i64 1)).setCell ⟨r, 3, none⟩ (.int .i64 x2)).setCell ⟨r, 4, none⟩ (.int .i64 y2)).setCell ⟨r, 5, none⟩ (.int .i64 2)).heap[r]? = some (.cells #[.int .i64 x1, .int .i64 y1, .int .i64 1, .int .i64 x2, .int .i64 y2, .int .i64 2, .int .i64 0, .int .i64 0, .int .i64 0] 46 (0, 0))) := Lib.hid (blk_set (blk_set (blk_set HZ0.out _) _) _)
  have HZ2 : Hid ((((((((((W3.setCell ⟨r, 0, none⟩ (.int .i64 x1)).setCell ⟨r, 1, none⟩ (.int .i64 y1)).setCell ⟨r, 2, none⟩ (.int .i64 1)).setCell ⟨r, 3, none⟩ (.int .i64 x2)).setCell ⟨r, 4, none⟩ (.int .i64 y2)).setCell ⟨r, 5, none⟩ (.int .i64 2)).setCell ⟨r, 6, none⟩ (.int .i64 x3)).setCell ⟨r, 7, none⟩ (.int .i64 y3)).setCell ⟨r, 8, none⟩ (.int .i64 3)).heap[r]? = some (.cells #[.int .i64 x1, .int .i64 y1, .int .i64 1, .int .i64 x2, .int .i64 y2, .int .i64 2, .int .i64 x3, .int .i64 y3, .int .i64 3] 46 (0, 0))) := Lib.hid (blk_set (blk_set (blk_set HZ1.out _) _) _)
  obtain ⟨W4, hW⟩ : ∃ x, (((((((((W3.setCell ⟨r, 0, none⟩ (.int .i64 x1)).setCell ⟨r, 1, none⟩ (.int .i64 y1)).setCell ⟨r, 2, none⟩ (.int .i64 1)).setCell ⟨r, 3, none⟩ (.int .i64 x2)).setCell ⟨r, 4, none⟩ (.int .i64 y2)).setCell ⟨r, 5, none⟩ (.int .i64 2)).setCell ⟨r, 6, none⟩ (.int .i64 x3)).setCell ⟨r, 7, none⟩ (.int .i64 y3)).setCell ⟨r, 8, none⟩ (.int .i64 3)) = x := ⟨_, rfl⟩
  replace B : Hid (Below w.heap.size w (((((((((W3.setCell ⟨r, 0, none⟩ (.int .i64 x1)).setCell ⟨r, 1, none⟩ (.int .i64 y1)).setCell ⟨r, 2, none⟩ (.int .i64 1)).setCell ⟨r, 3, none⟩ (.int .i64 x2)).setCell ⟨r, 4, none⟩ (.int .i64 y2)).setCell ⟨r, 5, none⟩ (.int .i64 2)).setCell ⟨r, 6, none⟩ (.int .i64 x3)).setCell ⟨r, 7, none⟩ (.int .i64 y3)).setCell ⟨r, 8, none⟩ (.int .i64 3))) := Lib.hid (belS (belS (belS (belS (belS (belS (belS (belS (belS B.out NE.out.2.2.2.1 _) NE.out.2.2.2.1 _) NE.out.2.2.2.1 _) NE.out.2.2.2.1 _) NE.out.2.2.2.1 _) NE.out.2.2.2.1 _) NE.out.2.2.2.1 _) NE.out.2.2.2.1 _) NE.out.2.2.2.1 _)
  rw [hW] at B HZ2 ⊢
  clear hW HZ0 HZ1
  have r0 := blk_cell HZ2.out 0 _ rfl
  have r1 := blk_cell HZ2.out 1 _ rfl
  have r2 := blk_cell HZ2.out 2 _ rfl
  have r3 := blk_cell HZ2.out 3 _ rfl
  have r4 := blk_cell HZ2.out 4 _ rfl
  have r5 := blk_cell HZ2.out 5 _ rfl
  have r6 := blk_cell HZ2.out 6 _ rfl
  have r7 := blk_cell HZ2.out 7 _ rfl
  have r8 := blk_cell HZ2.out 8 _ rfl
  refine bodyPost_ret (v := .agg #[.int .i64 x1, .int .i64 y1, .int .i64 1, .int .i64 x2, .int .i64 y2, .int .i64 2, .int .i64 x3, .int .i64 y3, .int .i64 3]) (by simp [results, Tryd.results22, go_sem, r0, r1, r2, r3, r4, r5, r6, r7, r8]) rfl ?_
  exact ⟨rfl, B.out⟩
end Go.Proofs.YtceejjamngplkaaDoor
