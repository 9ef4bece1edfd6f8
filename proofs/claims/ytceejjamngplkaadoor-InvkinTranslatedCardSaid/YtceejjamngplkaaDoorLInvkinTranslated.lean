/- For every valid arm, translating the base and the target by the same vector does not change the solutions, as long as the translated arm is valid.
Conditions: none on the arguments; the table of rotations lies as the program's text lays it (the card's tie). -/
import Derived.Test.YtceejjamngplkaaDoorIkR
import Derived.Test.YtceejjamngplkaaDoorIkW
import Derived.Test.YtceejjamngplkaaDoorIkT
import Derived.Test.YtceejjamngplkaaDoorAmO
import Derived.Test.YtceejjamngplkaaDoorIkU
import Derived.Test.YtceejjamngplkaaDoorBase
import Derived.Test.YtceejjamngplkaaDoorTie
import Derived.Test.YtceejjamngplkaaDoorCards
import Derived.SevenTiedAt
namespace Go.Proofs.YtceejjamngplkaaDoor.invkinTranslated
open Go.ChangeShapes Go.WideShapes Go.ChangeAt Go.RowKit
set_option linter.unusedVariables false
set_option linter.unusedSimpArgs false
set_option maxRecDepth 100000

set_option maxHeartbeats 8000000 in
theorem walk (X Y n0 n1 n2 W l0 l1 l2 h0 h1 h2 : Int) (r0 r1 r2 : Int) (hr0 : 0 ≤ r0 ∧ r0 ≤ 255) (hr1 : 0 ≤ r1 ∧ r1 ≤ 255) (hr2 : 0 ≤ r2 ∧ r2 ≤ 255) (m0 m1 : Int) (hm0 : -32768 ≤ m0 ∧ m0 ≤ 32767) (hm1 : -32768 ≤ m1 ∧ m1 ≤ 32767) (w : World) (hT : Tab w) :
    Calls Tryd.prog 6 #[.agg #[.int .i64 X, .int .i64 Y, .int .i64 n0, .int .i64 n1, .int .i64 n2, .int .i64 W, .int .i64 l0, .int .i64 l1, .int .i64 l2, .int .i64 h0, .int .i64 h1, .int .i64 h2], .agg #[.int .u8 r0, .int .u8 r1, .int .u8 r2], .agg #[.int .i16 m0, .int .i16 m1]] w fun e w' => e = .returned (.bool true) ∧ Below w.heap.size w w' := by
  go_enter Tryd.func6, Tryd.ntmps6
  go_upto_region 1 with fail
  obtain ⟨W0, hW0⟩ : ∃ z, (((w.alloc (.cells #[.int .i64 X, .int .i64 Y, .int .i64 n0, .int .i64 n1, .int .i64 n2, .int .i64 W, .int .i64 l0, .int .i64 l1, .int .i64 l2, .int .i64 h0, .int .i64 h1, .int .i64 h2] 27)).alloc (.cells #[.int .u8 r0, .int .u8 r1, .int .u8 r2] 30)).alloc (.cells #[.int .i16 m0, .int .i16 m1] 55)) = z := ⟨_, rfl⟩
  have HA : Hid (W0.heap[w.heap.size]? = some (.cells #[.int .i64 X, .int .i64 Y, .int .i64 n0, .int .i64 n1, .int .i64 n2, .int .i64 W, .int .i64 l0, .int .i64 l1, .int .i64 l2, .int .i64 h0, .int .i64 h1, .int .i64 h2] 27 (0, 0))) := Lib.hid (by rw [← hW0]; exact blk_alloc (blk_alloc (blk_new _ _ _ rfl) _) _)
  have HR : Hid (W0.heap[w.heap.size + 1]? = some (.cells #[.int .u8 r0, .int .u8 r1, .int .u8 r2] 30 (0, 0))) := Lib.hid (by rw [← hW0]; exact blk_alloc (blk_new _ _ _ (by simp)) _)
  have HM : Hid (W0.heap[w.heap.size + 1 + 1]? = some (.cells #[.int .i16 m0, .int .i16 m1] 55 (0, 0))) := Lib.hid (by rw [← hW0]; exact blk_new _ _ _ (by simp))
  have B : Hid (Below w.heap.size w W0) := Lib.hid (by rw [← hW0]; go_grown)
  have TT := Lib.hid hT
  rw [hW0]
  clear hW0 hT
  obtain ⟨ba, eba⟩ : ∃ a, w.heap.size = a := ⟨_, rfl⟩
  obtain ⟨br, ebr⟩ : ∃ a, w.heap.size + 1 = a := ⟨_, rfl⟩
  obtain ⟨bm, ebm⟩ : ∃ a, w.heap.size + 1 + 1 = a := ⟨_, rfl⟩
  have NE := Lib.hid (show w.heap.size ≤ ba ∧ w.heap.size ≤ br ∧ w.heap.size ≤ bm ∧ ba ≠ br ∧ ba ≠ bm ∧ br ≠ ba ∧ br ≠ bm ∧ bm ≠ ba ∧ bm ≠ br by omega)
  rw [ebm, ebr, eba]
  rw [eba] at HA
  rw [ebr] at HR
  rw [ebm] at HM
  clear eba ebr ebm
  go_upto_region 2 with (go_at_call 10; refine (head8_is _ (Tab.below TT.out B.out)).mono ?_; rintro e W1 ⟨rfl, hb⟩)
  replace HA := Lib.hid (blk_call HA.out hb)
  replace HR := Lib.hid (blk_call HR.out hb)
  replace HM := Lib.hid (blk_call HM.out hb)
  replace B := Lib.hid (belT B.out hb)
  clear hb
  have c0 := blk_cell HA.out 0 _ rfl
  have c1 := blk_cell HA.out 1 _ rfl
  have c2 := blk_cell HA.out 2 _ rfl
  have c3 := blk_cell HA.out 3 _ rfl
  have c4 := blk_cell HA.out 4 _ rfl
  have c5 := blk_cell HA.out 5 _ rfl
  have c6 := blk_cell HA.out 6 _ rfl
  have c7 := blk_cell HA.out 7 _ rfl
  have c8 := blk_cell HA.out 8 _ rfl
  have c9 := blk_cell HA.out 9 _ rfl
  have c10 := blk_cell HA.out 10 _ rfl
  have c11 := blk_cell HA.out 11 _ rfl
  have la := blk_lt HA.out
  go_upto_region 3 with fail
  clear c0 c1 c2 c3 c4 c5 c6 c7 c8 c9 c10 c11
  clear la
  have lHAbb := Lib.hid (Nat.ne_of_lt (blk_lt HA.out))
  have lHRbb := Lib.hid (Nat.ne_of_lt (blk_lt HR.out))
  have lHMbb := Lib.hid (Nat.ne_of_lt (blk_lt HM.out))
  replace HA := Lib.hid (blk_alloc HA.out (.cells #[.int .i64 X, .int .i64 Y, .int .i64 n0, .int .i64 n1, .int .i64 n2, .int .i64 W, .int .i64 l0, .int .i64 l1, .int .i64 l2, .int .i64 h0, .int .i64 h1, .int .i64 h2] 27))
  replace HR := Lib.hid (blk_alloc HR.out (.cells #[.int .i64 X, .int .i64 Y, .int .i64 n0, .int .i64 n1, .int .i64 n2, .int .i64 W, .int .i64 l0, .int .i64 l1, .int .i64 l2, .int .i64 h0, .int .i64 h1, .int .i64 h2] 27))
  replace HM := Lib.hid (blk_alloc HM.out (.cells #[.int .i64 X, .int .i64 Y, .int .i64 n0, .int .i64 n1, .int .i64 n2, .int .i64 W, .int .i64 l0, .int .i64 l1, .int .i64 l2, .int .i64 h0, .int .i64 h1, .int .i64 h2] 27))
  have HB := Lib.hid (blk_new W1 (.cells #[.int .i64 X, .int .i64 Y, .int .i64 n0, .int .i64 n1, .int .i64 n2, .int .i64 W, .int .i64 l0, .int .i64 l1, .int .i64 l2, .int .i64 h0, .int .i64 h1, .int .i64 h2] 27) _ rfl)
  have Nbb := Lib.hid (B.out.size)
  replace B := Lib.hid (belA B.out (.cells #[.int .i64 X, .int .i64 Y, .int .i64 n0, .int .i64 n1, .int .i64 n2, .int .i64 W, .int .i64 l0, .int .i64 l1, .int .i64 l2, .int .i64 h0, .int .i64 h1, .int .i64 h2] 27))
  obtain ⟨bb, ebb⟩ : ∃ x, W1.heap.size = x := ⟨_, rfl⟩
  rw [ebb] at HB Nbb lHAbb lHRbb lHMbb ⊢
  clear ebb
  generalize W1.alloc (.cells #[.int .i64 X, .int .i64 Y, .int .i64 n0, .int .i64 n1, .int .i64 n2, .int .i64 W, .int .i64 l0, .int .i64 l1, .int .i64 l2, .int .i64 h0, .int .i64 h1, .int .i64 h2] 27) = W2 at *
  obtain ⟨t, ht⟩ : ∃ t, armB X Y n0 n1 n2 W l0 l1 l2 h0 h1 h2 = t := ⟨_, rfl⟩
  have HT := Lib.hid ht
  clear ht
  have c0 := blk_cell HA.out 0 _ rfl
  have c1 := blk_cell HA.out 1 _ rfl
  have c2 := blk_cell HA.out 2 _ rfl
  have c3 := blk_cell HA.out 3 _ rfl
  have c4 := blk_cell HA.out 4 _ rfl
  have c5 := blk_cell HA.out 5 _ rfl
  have c6 := blk_cell HA.out 6 _ rfl
  have c7 := blk_cell HA.out 7 _ rfl
  have c8 := blk_cell HA.out 8 _ rfl
  have c9 := blk_cell HA.out 9 _ rfl
  have c10 := blk_cell HA.out 10 _ rfl
  have c11 := blk_cell HA.out 11 _ rfl
  go_upto_region 4 with (go_at_call 11; refine (right7_is X Y n0 n1 n2 W l0 l1 l2 h0 h1 h2 t _ HT).mono ?_; rintro e W3 ⟨rfl, hb⟩)
  clear c0 c1 c2 c3 c4 c5 c6 c7 c8 c9 c10 c11
  replace HA := Lib.hid (blk_call HA.out hb)
  replace HR := Lib.hid (blk_call HR.out hb)
  replace HM := Lib.hid (blk_call HM.out hb)
  replace HB := Lib.hid (blk_call HB.out hb)
  replace B := Lib.hid (belT B.out hb)
  clear hb
  cases t
  · go_wp2_with fail
    go_ret
    exact ⟨rfl, B.out⟩
  have V := HT
  have vr := Lib.hid ((armB_iff X Y n0 n1 n2 W l0 l1 l2 h0 h1 h2).1 V.out)
  have bX : -439400000 ≤ X ∧ X ≤ 439400000 := by have := vr.out; omega
  have bY : -439400000 ≤ Y ∧ Y ≤ 439400000 := by have := vr.out; omega
  have m_0 := blk_cell HM.out 0 _ rfl
  have m_1 := blk_cell HM.out 1 _ rfl
  have lm := blk_lt HM.out
  go_upto_region 7 with fail
  clear m_0 m_1 lm
  have lHAbw := Lib.hid (Nat.ne_of_lt (blk_lt HA.out))
  have lHRbw := Lib.hid (Nat.ne_of_lt (blk_lt HR.out))
  have lHMbw := Lib.hid (Nat.ne_of_lt (blk_lt HM.out))
  have lHBbw := Lib.hid (Nat.ne_of_lt (blk_lt HB.out))
  replace HA := Lib.hid (blk_alloc HA.out (.cells #[.int .i64 (16000 * m0), .int .i64 (16000 * m1)] 23))
  replace HR := Lib.hid (blk_alloc HR.out (.cells #[.int .i64 (16000 * m0), .int .i64 (16000 * m1)] 23))
  replace HM := Lib.hid (blk_alloc HM.out (.cells #[.int .i64 (16000 * m0), .int .i64 (16000 * m1)] 23))
  replace HB := Lib.hid (blk_alloc HB.out (.cells #[.int .i64 (16000 * m0), .int .i64 (16000 * m1)] 23))
  have HV := Lib.hid (blk_new W3 (.cells #[.int .i64 (16000 * m0), .int .i64 (16000 * m1)] 23) _ rfl)
  have Nbw := Lib.hid (B.out.size)
  replace B := Lib.hid (belA B.out (.cells #[.int .i64 (16000 * m0), .int .i64 (16000 * m1)] 23))
  obtain ⟨bw, ebw⟩ : ∃ x, W3.heap.size = x := ⟨_, rfl⟩
  rw [ebw] at HV Nbw lHAbw lHRbw lHMbw lHBbw ⊢
  clear ebw
  generalize W3.alloc (.cells #[.int .i64 (16000 * m0), .int .i64 (16000 * m1)] 23) = W4 at *
  obtain ⟨u, hu⟩ : ∃ u, 16000 * m0 = u := ⟨_, rfl⟩
  obtain ⟨v, hv⟩ : ∃ v, 16000 * m1 = v := ⟨_, rfl⟩
  have ub : -524288000 ≤ u ∧ u ≤ 524272000 := by omega
  have vb : -524288000 ≤ v ∧ v ≤ 524272000 := by omega
  rw [hu, hv] at HV ⊢
  clear hu hv hm0 hm1
  have c0 := blk_cell HA.out 0 _ rfl
  have c1 := blk_cell HA.out 1 _ rfl
  have d0 := blk_cell HV.out 0 _ rfl
  have d1 := blk_cell HV.out 1 _ rfl
  have e0 := blk_cell HB.out 0 _ rfl
  have e1 := blk_cell HB.out 1 _ rfl
  have f0 := blk_fz HB.out 0
  have f1 := blk_fz HB.out 1
  go_upto_region 8 with fail
  clear c0 c1 d0 d1 e0 e1 f0 f1
  replace HA := Lib.hid (blk_other (j := 1) (blk_other (j := 0) HA.out (fun e => lHAbb.out e.symm) (.int .i64 (X + u))) (fun e => lHAbb.out e.symm) (.int .i64 (Y + v)))
  replace HR := Lib.hid (blk_other (j := 1) (blk_other (j := 0) HR.out (fun e => lHRbb.out e.symm) (.int .i64 (X + u))) (fun e => lHRbb.out e.symm) (.int .i64 (Y + v)))
  replace HM := Lib.hid (blk_other (j := 1) (blk_other (j := 0) HM.out (fun e => lHMbb.out e.symm) (.int .i64 (X + u))) (fun e => lHMbb.out e.symm) (.int .i64 (Y + v)))
  replace HV := Lib.hid (blk_other (j := 1) (blk_other (j := 0) HV.out lHBbw.out (.int .i64 (X + u))) lHBbw.out (.int .i64 (Y + v)))
  replace HB : Hid (((W4.setCell ⟨bb, 0, none⟩ (.int .i64 (X + u))).setCell ⟨bb, 1, none⟩ (.int .i64 (Y + v))).heap[bb]? = some (.cells #[.int .i64 (X + u), .int .i64 (Y + v), .int .i64 n0, .int .i64 n1, .int .i64 n2, .int .i64 W, .int .i64 l0, .int .i64 l1, .int .i64 l2, .int .i64 h0, .int .i64 h1, .int .i64 h2] 27 (0, 0))) := Lib.hid (blk_set (j := 1) (blk_set (j := 0) HB.out (.int .i64 (X + u))) (.int .i64 (Y + v)))
  replace B := Lib.hid (belS (p := ⟨bb, 1, none⟩) (belS (p := ⟨bb, 0, none⟩) B.out Nbb.out (.int .i64 (X + u))) Nbb.out (.int .i64 (Y + v)))
  generalize ((W4.setCell ⟨bb, 0, none⟩ (.int .i64 (X + u))).setCell ⟨bb, 1, none⟩ (.int .i64 (Y + v))) = W5 at *
  obtain ⟨t, ht⟩ : ∃ t, armB (X + u) (Y + v) n0 n1 n2 W l0 l1 l2 h0 h1 h2 = t := ⟨_, rfl⟩
  have HT := Lib.hid ht
  clear ht
  have c0 := blk_cell HB.out 0 _ rfl
  have c1 := blk_cell HB.out 1 _ rfl
  have c2 := blk_cell HB.out 2 _ rfl
  have c3 := blk_cell HB.out 3 _ rfl
  have c4 := blk_cell HB.out 4 _ rfl
  have c5 := blk_cell HB.out 5 _ rfl
  have c6 := blk_cell HB.out 6 _ rfl
  have c7 := blk_cell HB.out 7 _ rfl
  have c8 := blk_cell HB.out 8 _ rfl
  have c9 := blk_cell HB.out 9 _ rfl
  have c10 := blk_cell HB.out 10 _ rfl
  have c11 := blk_cell HB.out 11 _ rfl
  go_upto_region 9 with (go_at_call 11; refine (right7_is (X + u) (Y + v) n0 n1 n2 W l0 l1 l2 h0 h1 h2 t _ HT).mono ?_; rintro e W6 ⟨rfl, hb⟩)
  clear c0 c1 c2 c3 c4 c5 c6 c7 c8 c9 c10 c11
  replace HA := Lib.hid (blk_call HA.out hb)
  replace HR := Lib.hid (blk_call HR.out hb)
  replace HM := Lib.hid (blk_call HM.out hb)
  replace HB := Lib.hid (blk_call HB.out hb)
  replace HV := Lib.hid (blk_call HV.out hb)
  replace B := Lib.hid (belT B.out hb)
  clear hb
  cases t
  · go_wp2_with fail
    go_ret
    exact ⟨rfl, B.out⟩
  have V2 := HT
  go_upto_region 11 with fail
  have VR := Lib.hid ((armB_iff X Y n0 n1 n2 W l0 l1 l2 h0 h1 h2).1 V.out)
  have JB0 := Lib.hid (jq_bd (l := l0) (h := h0) (by have := VR.out; omega) hr0.1)
  obtain ⟨q0, hq0⟩ : ∃ q, jq l0 h0 r0 = q := ⟨_, rfl⟩
  rw [hq0] at JB0
  have k0 : -1000 ≤ q0 ∧ q0 ≤ 1000 := by have := VR.out; have := JB0.out; omega
  replace hq0 := Lib.hid hq0
  have JB1 := Lib.hid (jq_bd (l := l1) (h := h1) (by have := VR.out; omega) hr1.1)
  obtain ⟨q1, hq1⟩ : ∃ q, jq l1 h1 r1 = q := ⟨_, rfl⟩
  rw [hq1] at JB1
  have k1 : -1000 ≤ q1 ∧ q1 ≤ 1000 := by have := VR.out; have := JB1.out; omega
  replace hq1 := Lib.hid hq1
  have JB2 := Lib.hid (jq_bd (l := l2) (h := h2) (by have := VR.out; omega) hr2.1)
  obtain ⟨q2, hq2⟩ : ∃ q, jq l2 h2 r2 = q := ⟨_, rfl⟩
  rw [hq2] at JB2
  have k2 : -1000 ≤ q2 ∧ q2 ≤ 1000 := by have := VR.out; have := JB2.out; omega
  replace hq2 := Lib.hid hq2
  have JQ : Hid (∀ w : World, Calls Tryd.prog 17 #[.agg #[.int .i64 X, .int .i64 Y, .int .i64 n0, .int .i64 n1, .int .i64 n2, .int .i64 W, .int .i64 l0, .int .i64 l1, .int .i64 l2, .int .i64 h0, .int .i64 h1, .int .i64 h2], .agg #[.int .u8 r0, .int .u8 r1, .int .u8 r2]] w fun e w' => e = .returned (.agg #[.int .i64 q0, .int .i64 q1, .int .i64 q2]) ∧ Below w.heap.size w w') := Lib.hid (fun w => by rw [← hq0.out, ← hq1.out, ← hq2.out]; exact joint_is X Y n0 n1 n2 W l0 l1 l2 h0 h1 h2 r0 r1 r2 w V hr0 hr1 hr2)
  obtain ⟨x1, x2, x3, y1, y2, y3, u1, u2, u3, v1, v2, v3, a1, a2, a3, b1, b2, b3, PP⟩ := pose_ex X Y n0 n1 n2 q0 q1 q2
  replace PP := Lib.hid PP
  have D1 := Lib.hid (vd_one q0 x1 y1 (Lib.hid PP.out.e1))
  have D2 := Lib.hid (vd_two (x1, y1) q1 x2 y2 1 2 D1.out (by omega) rfl (Lib.hid PP.out.e2))
  have D3 := Lib.hid (vd_two (x2, y2) q2 x3 y3 2 3 D2.out (by omega) rfl (Lib.hid PP.out.e3))
  have PB := Lib.hid (show (-439400000 ≤ a3 ∧ a3 ≤ 439400000) ∧ -439400000 ≤ b3 ∧ b3 ≤ 439400000 by have := pose_bd PP.out V.out; have := VR.out; omega)
  have PB0 := PB.out.1
  have PB1 := PB.out.2
  obtain ⟨L, hL⟩ : ∃ L, solL X Y n0 n1 n2 l0 l1 l2 h0 h1 h2 a3 b3 x3 y3 = L := ⟨_, rfl⟩
  obtain ⟨N, hN⟩ : ∃ N, L.length = N := ⟨_, rfl⟩
  have LB := Lib.hid (show L.length ≤ 36 by rw [← hL]; exact solL_36 (by have := VR.out; omega) (by have := VR.out; omega) (by have := VR.out; omega) (by have := VR.out; omega))
  have HL := Lib.hid hL
  have HN := Lib.hid hN
  clear hL hN
  have TW := Lib.hid (Tab.below TT.out B.out)
  refine (wpIn_wide (n := 0)).1 (region_tip [51, 52, 53, 54, 55, 50, 56, 57, 12, 13] [(0, 51), (1, 52), (2, 53), (3, 54), (4, 55), (5, 50), (6, 56), (7, 57)] (fun t => match t with | 51 => .agg #[.int .i64 X, .int .i64 Y, .int .i64 n0, .int .i64 n1, .int .i64 n2, .int .i64 W, .int .i64 l0, .int .i64 l1, .int .i64 l2, .int .i64 h0, .int .i64 h1, .int .i64 h2] | 52 => .agg #[.int .i64 X, .int .i64 Y, .int .i64 n0, .int .i64 n1, .int .i64 n2, .int .i64 W, .int .i64 l0, .int .i64 l1, .int .i64 l2, .int .i64 h0, .int .i64 h1, .int .i64 h2] | 53 => .agg #[.int .u8 r0, .int .u8 r1, .int .u8 r2] | 54 => .agg #[.int .i64 q0, .int .i64 q1, .int .i64 q2] | 55 => .tuple #[.agg #[.int .i64 a3, .int .i64 b3], .agg #[.int .i64 x3, .int .i64 y3, .int .i64 3]] | 50 => .tuple #[.agg #[.int .i64 a3, .int .i64 b3], .agg #[.int .i64 x3, .int .i64 y3, .int .i64 3]] | 56 => .agg #[.int .i64 a3, .int .i64 b3] | 57 => .agg #[.int .i64 x3, .int .i64 y3, .int .i64 3] | _ => undef) 12 13 8 9 10 11 #[.int .i64 0, .int .i64 0] #[.int .i64 a3, .int .i64 b3] #[.int .i64 0, .int .i64 0, .int .i64 0] #[.int .i64 x3, .int .i64 y3, .int .i64 3] 23 29 rfl rfl rfl (by kernel_rfl) (by kernel_rfl) (by kernel_rfl) (by kernel_rfl) (by kernel_rfl) ?_ ?_)
  · intro s T w i o K ho hs hpre hJ hK
    have hi := (Array.getElem?_eq_some_iff.1 ho).1
    have hi' : i = 0 ∨ i = 1 ∨ i = 2 ∨ i = 3 ∨ i = 4 ∨ i = 5 ∨ i = 6 ∨ i = 7 ∨ i = 8 ∨ i = 9 ∨ i = 10 ∨ i = 11 := by simp at hi; omega
    clear hi
    rcases hi' with rfl | rfl | rfl | rfl | rfl | rfl | rfl | rfl | rfl | rfl | rfl | rfl
    · obtain rfl := Option.some.inj ho
      have g : T[3]? = some (.pointer (some ⟨ba, 0, none⟩)) := hJ.frame 3 (by decide)
      exact wp_load_row 27 (.tmp 3) rfl _ (eval_tmp g) _ _ _ _ (blk_call HA.out hJ.bel) Tryd.underlying27 rfl (by kernel_rfl) (hK _ _ (hJ.pure (i := 0) (q := 51) (by decide) (by decide) (by decide) (by simp) (by decide) hJ.bel.size (Below.refl _ _)))
    · obtain rfl := Option.some.inj ho
      have g : T[3]? = some (.pointer (some ⟨ba, 0, none⟩)) := hJ.frame 3 (by decide)
      exact wp_load_row 27 (.tmp 3) rfl _ (eval_tmp g) _ _ _ _ (blk_call HA.out hJ.bel) Tryd.underlying27 rfl (by kernel_rfl) (hK _ _ (hJ.pure (i := 1) (q := 52) (by decide) (by decide) (by decide) (by simp) (by decide) hJ.bel.size (Below.refl _ _)))
    · obtain rfl := Option.some.inj ho
      have g : T[4]? = some (.pointer (some ⟨br, 0, none⟩)) := hJ.frame 4 (by decide)
      exact wp_load_row 30 (.tmp 4) rfl _ (eval_tmp g) _ _ _ _ (blk_call HR.out hJ.bel) Tryd.underlying30 rfl (by kernel_rfl) (hK _ _ (hJ.pure (i := 2) (q := 53) (by decide) (by decide) (by decide) (by simp) (by decide) hJ.bel.size (Below.refl _ _)))
    · obtain rfl := Option.some.inj ho
      have g52 := hJ.told (1, 52) (by decide) (hpre 1 (by simp [Region.binds]))
      have g53 := hJ.told (2, 53) (by decide) (hpre 2 (by simp [Region.binds]))
      go_simp
      refine (JQ.out _).mono ?_; rintro e w9 ⟨rfl, hb⟩
      exact hK _ _ (hJ.pure (i := 3) (q := 54) (by decide) (by decide) (by decide) (by simp) (by decide) hJ.bel.size (hb))
    · obtain rfl := Option.some.inj ho
      have g51 := hJ.told (0, 51) (by decide) (hpre 0 (by simp [Region.binds]))
      have g54 := hJ.told (3, 54) (by decide) (hpre 3 (by simp [Region.binds]))
      go_simp
      refine (tip_is X Y n0 n1 n2 W l0 l1 l2 h0 h1 h2 q0 q1 q2 x1 x2 x3 y1 y2 y3 u1 u2 u3 v1 v2 v3 a1 a2 a3 b1 b2 b3 _ (Tab.below TW.out hJ.bel) k0 k1 k2 V PP).mono ?_; rintro e w9 ⟨rfl, hb⟩
      exact hK _ _ (hJ.pure (i := 4) (q := 55) (by decide) (by decide) (by decide) (by simp) (by decide) hJ.bel.size (hb))
    · obtain rfl := Option.some.inj ho
      have g55 := hJ.told (4, 55) (by decide) (hpre 4 (by simp [Region.binds]))
      go_simp
      exact hK _ _ (hJ.pure (i := 5) (q := 50) (by decide) (by decide) (by decide) (by simp) (by decide) hJ.bel.size (Below.refl _ _))
    · obtain rfl := Option.some.inj ho
      have g50 := hJ.told (5, 50) (by decide) (hpre 5 (by simp [Region.binds]))
      go_simp
      exact hK _ _ (hJ.pure (i := 6) (q := 56) (by decide) (by decide) (by decide) (by simp) (by decide) hJ.bel.size (Below.refl _ _))
    · obtain rfl := Option.some.inj ho
      have g50 := hJ.told (5, 50) (by decide) (hpre 5 (by simp [Region.binds]))
      go_simp
      exact hK _ _ (hJ.pure (i := 7) (q := 57) (by decide) (by decide) (by decide) (by simp) (by decide) hJ.bel.size (Below.refl _ _))
    · obtain rfl := Option.some.inj ho
      go_simp
      exact hK _ _ (hJ.allocP hs (by decide) (by decide) (by simp) (by decide) hJ.bel.size)
    · obtain rfl := Option.some.inj ho
      go_simp
      exact hK _ _ (hJ.swap.allocP hs (by decide) (by decide) (by simp) (by decide) hJ.bel.size).swap
    · obtain rfl := Option.some.inj ho
      obtain ⟨b, hb, hnb, hh⟩ := hJ.fp (hpre 8 (by simp [Region.binds]))
      rw [if_neg (by rw [hs]; decide)] at hh
      have g56 := hJ.told (6, 56) (by decide) (hpre 6 (by simp [Region.binds]))
      exact wp_store_row 23 (.tmp 12) (.tmp 56) rfl b #[.int .i64 a3, .int .i64 b3] (eval_tmp hb) (eval_tmp g56) _ _ hh (by kernel_rfl) rfl (by kernel_rfl) (hK _ _ (hJ.storeP (by decide) (by decide) (hpre 8 (by simp [Region.binds])) hb hnb hh))
    · obtain rfl := Option.some.inj ho
      obtain ⟨b, hb, hnb, hh⟩ := hJ.fd (hpre 9 (by simp [Region.binds]))
      rw [if_neg (by rw [hs]; decide)] at hh
      have g57 := hJ.told (7, 57) (by decide) (hpre 7 (by simp [Region.binds]))
      exact wp_store_row 29 (.tmp 13) (.tmp 57) rfl b #[.int .i64 x3, .int .i64 y3, .int .i64 3] (eval_tmp hb) (eval_tmp g57) _ _ hh (by kernel_rfl) rfl (by kernel_rfl) (hK _ _ (hJ.swap.storeP (by decide) (by decide) (hpre 9 (by simp [Region.binds])) hb hnb hh).swap)
  · intro s T W9 hall hJ hfr
    have g51 := hJ.told (0, 51) (by decide) (hall 0 (by decide))
    have g52 := hJ.told (1, 52) (by decide) (hall 1 (by decide))
    have g53 := hJ.told (2, 53) (by decide) (hall 2 (by decide))
    have g54 := hJ.told (3, 54) (by decide) (hall 3 (by decide))
    have g55 := hJ.told (4, 55) (by decide) (hall 4 (by decide))
    have g50 := hJ.told (5, 50) (by decide) (hall 5 (by decide))
    have g56 := hJ.told (6, 56) (by decide) (hall 6 (by decide))
    have g57 := hJ.told (7, 57) (by decide) (hall 7 (by decide))
    obtain ⟨bp, g12, np, hp⟩ := hJ.fp (hall 8 (by decide))
    rw [if_pos (hall 10 (by decide))] at hp
    obtain ⟨bv, g13, nv, hv⟩ := hJ.fd (hall 9 (by decide))
    rw [if_pos (hall 11 (by decide))] at hv
    have hne := hJ.ne (hall 8 (by decide)) (hall 9 (by decide))
    rw [g12, g13] at hne
    have hT9 := conc [(51, .agg #[.int .i64 X, .int .i64 Y, .int .i64 n0, .int .i64 n1, .int .i64 n2, .int .i64 W, .int .i64 l0, .int .i64 l1, .int .i64 l2, .int .i64 h0, .int .i64 h1, .int .i64 h2]), (52, .agg #[.int .i64 X, .int .i64 Y, .int .i64 n0, .int .i64 n1, .int .i64 n2, .int .i64 W, .int .i64 l0, .int .i64 l1, .int .i64 l2, .int .i64 h0, .int .i64 h1, .int .i64 h2]), (53, .agg #[.int .u8 r0, .int .u8 r1, .int .u8 r2]), (54, .agg #[.int .i64 q0, .int .i64 q1, .int .i64 q2]), (55, .tuple #[.agg #[.int .i64 a3, .int .i64 b3], .agg #[.int .i64 x3, .int .i64 y3, .int .i64 3]]), (50, .tuple #[.agg #[.int .i64 a3, .int .i64 b3], .agg #[.int .i64 x3, .int .i64 y3, .int .i64 3]]), (56, .agg #[.int .i64 a3, .int .i64 b3]), (57, .agg #[.int .i64 x3, .int .i64 y3, .int .i64 3]), (12, .pointer (some ⟨bp, 0, none⟩)), (13, .pointer (some ⟨bv, 0, none⟩))] hJ.size hfr (by simp only [List.forall_mem_cons]; exact ⟨g51, g52, g53, g54, g55, g50, g56, g57, g12, g13, fun p hp => absurd hp List.not_mem_nil⟩) (by kernel_rfl)
    simp only [List.foldl, List.setIfInBounds_toArray, List.set_cons_succ, List.set_cons_zero] at hT9
    subst hT9
    have hb8 := hJ.bel
    clear hJ hall hfr g51 g52 g53 g54 g55 g50 g56 g57 g12 g13
    have Hp := Lib.hid hp
    have Hv := Lib.hid hv
    clear hp hv
    clear TW
    replace HA := Lib.hid (blk_call HA.out hb8)
    replace HR := Lib.hid (blk_call HR.out hb8)
    replace HM := Lib.hid (blk_call HM.out hb8)
    replace HB := Lib.hid (blk_call HB.out hb8)
    replace HV := Lib.hid (blk_call HV.out hb8)
    replace B := Lib.hid (belT B.out hb8)
    clear hb8
    have TW := Lib.hid (Tab.below TT.out B.out)
    have HL2 : Hid (solL (X + u) (Y + v) n0 n1 n2 l0 l1 l2 h0 h1 h2 (a3 + u) (b3 + v) x3 y3 = L) := Lib.hid (by rw [solL_moved]; exact HL.out)
    go_upto_region 12 with fail
    obtain ⟨sp, hsp⟩ : ∃ sp : ToldS, sp = [none, none, none, none, none, none, none, none, none, none, none, none, none, none, some (eqS (.bool true)), none, none, none, none, none, none, none, none, none, none, none, none, none, none, none, none, none, none, none, none, none, none, none, none, none, none, none, none, none, none, none, none, none, none, none, none, none, none, none, none, none, none, none, some (eqS (.agg #[.int .i64 X, .int .i64 Y, .int .i64 n0, .int .i64 n1, .int .i64 n2, .int .i64 W, .int .i64 l0, .int .i64 l1, .int .i64 l2, .int .i64 h0, .int .i64 h1, .int .i64 h2])), some (eqS (.agg #[.int .i64 a3, .int .i64 b3])), some (eqS (.agg #[.int .i64 x3, .int .i64 y3, .int .i64 3])), some (rowN N L), some (eqS (.agg #[.int .i64 (X + u), .int .i64 (Y + v), .int .i64 n0, .int .i64 n1, .int .i64 n2, .int .i64 W, .int .i64 l0, .int .i64 l1, .int .i64 l2, .int .i64 h0, .int .i64 h1, .int .i64 h2])), some (eqS (.pointer (some ⟨bp, 0, none⟩))), some (eqS (.int .i64 a3)), some (eqS (.pointer (some ⟨bw, 0, none⟩))), some (eqS (.int .i64 u)), some (eqS (.int .i64 (a3 + u))), some (eqS (.pointer (some ⟨bp, 1, none⟩))), some (eqS (.int .i64 b3)), some (eqS (.pointer (some ⟨bw, 1, none⟩))), some (eqS (.int .i64 v)), some (eqS (.int .i64 (b3 + v))), some (eqS (.agg #[.int .i64 (a3 + u), .int .i64 (b3 + v)])), some (eqS (.agg #[.int .i64 x3, .int .i64 y3, .int .i64 3])), some (rowN N L), some (eqS (.bool true))] := ⟨_, rfl⟩
    have s14 : sp.getD 14 none = some (eqS (.bool true)) := by rw [hsp]; rfl
    have s58 : sp.getD 58 none = some (eqS (.agg #[.int .i64 X, .int .i64 Y, .int .i64 n0, .int .i64 n1, .int .i64 n2, .int .i64 W, .int .i64 l0, .int .i64 l1, .int .i64 l2, .int .i64 h0, .int .i64 h1, .int .i64 h2])) := by rw [hsp]; rfl
    have s59 : sp.getD 59 none = some (eqS (.agg #[.int .i64 a3, .int .i64 b3])) := by rw [hsp]; rfl
    have s60 : sp.getD 60 none = some (eqS (.agg #[.int .i64 x3, .int .i64 y3, .int .i64 3])) := by rw [hsp]; rfl
    have s61 : sp.getD 61 none = some (rowN N L) := by rw [hsp]; rfl
    have s62 : sp.getD 62 none = some (eqS (.agg #[.int .i64 (X + u), .int .i64 (Y + v), .int .i64 n0, .int .i64 n1, .int .i64 n2, .int .i64 W, .int .i64 l0, .int .i64 l1, .int .i64 l2, .int .i64 h0, .int .i64 h1, .int .i64 h2])) := by rw [hsp]; rfl
    have s63 : sp.getD 63 none = some (eqS (.pointer (some ⟨bp, 0, none⟩))) := by rw [hsp]; rfl
    have s64 : sp.getD 64 none = some (eqS (.int .i64 a3)) := by rw [hsp]; rfl
    have s65 : sp.getD 65 none = some (eqS (.pointer (some ⟨bw, 0, none⟩))) := by rw [hsp]; rfl
    have s66 : sp.getD 66 none = some (eqS (.int .i64 u)) := by rw [hsp]; rfl
    have s67 : sp.getD 67 none = some (eqS (.int .i64 (a3 + u))) := by rw [hsp]; rfl
    have s68 : sp.getD 68 none = some (eqS (.pointer (some ⟨bp, 1, none⟩))) := by rw [hsp]; rfl
    have s69 : sp.getD 69 none = some (eqS (.int .i64 b3)) := by rw [hsp]; rfl
    have s70 : sp.getD 70 none = some (eqS (.pointer (some ⟨bw, 1, none⟩))) := by rw [hsp]; rfl
    have s71 : sp.getD 71 none = some (eqS (.int .i64 v)) := by rw [hsp]; rfl
    have s72 : sp.getD 72 none = some (eqS (.int .i64 (b3 + v))) := by rw [hsp]; rfl
    have s73 : sp.getD 73 none = some (eqS (.agg #[.int .i64 (a3 + u), .int .i64 (b3 + v)])) := by rw [hsp]; rfl
    have s74 : sp.getD 74 none = some (eqS (.agg #[.int .i64 x3, .int .i64 y3, .int .i64 3])) := by rw [hsp]; rfl
    have s75 : sp.getD 75 none = some (rowN N L) := by rw [hsp]; rfl
    have s76 : sp.getD 76 none = some (eqS (.bool true)) := by rw [hsp]; rfl
    clear hsp
    refine (wpIn_wide (n := 0)).1 (region_allR (RtS sp) (rtS_keep sp) rfl rfl rfl (by kernel_rfl) (by kernel_rfl) (by kernel_rfl) ?_ ?_)
    · intro Q'
      refine obsR_cons ?_ ?_
      · intro T wx K hB hF hD hK
        have g3 : T[3]? = some (.pointer (some ⟨ba, 0, none⟩)) := hF 3 (freeM_of (by kernel_rfl))
        refine ob_yes (wanted_none rfl) ?_
        clear hF hD
        exact wp_load_row 27 (.tmp 3) rfl _ (eval_tmp g3) _ _ _ _ (blk_call HA.out hB) Tryd.underlying27 rfl (by kernel_rfl) (hK _ _ (Below.refl _ _) (rt_eqS s58))
      refine obsR_cons ?_ ?_
      · intro T wx K hB hF hD hK
        have g12 : T[12]? = some (.pointer (some ⟨bp, 0, none⟩)) := hF 12 (freeM_of (by kernel_rfl))
        refine ob_yes (wanted_none rfl) ?_
        clear hF hD
        exact wp_load_row 23 (.tmp 12) rfl _ (eval_tmp g12) _ _ _ _ (blk_call Hp.out hB) Tryd.underlying23 rfl (by kernel_rfl) (hK _ _ (Below.refl _ _) (rt_eqS s59))
      refine obsR_cons ?_ ?_
      · intro T wx K hB hF hD hK
        have g13 : T[13]? = some (.pointer (some ⟨bv, 0, none⟩)) := hF 13 (freeM_of (by kernel_rfl))
        refine ob_yes (wanted_none rfl) ?_
        clear hF hD
        exact wp_load_row 29 (.tmp 13) rfl _ (eval_tmp g13) _ _ _ _ (blk_call Hv.out hB) Tryd.underlying29 rfl (by kernel_rfl) (hK _ _ (Below.refl _ _) (rt_eqS s60))
      refine obsR_cons ?_ ?_
      · intro T wx K hB hF hD hK
        have g58 := get_eqS (hD 0 58 (by simp [Region.binds]) (by kernel_rfl)) s58
        have g59 := get_eqS (hD 1 59 (by simp [Region.binds]) (by kernel_rfl)) s59
        have g60 := get_eqS (hD 2 60 (by simp [Region.binds]) (by kernel_rfl)) s60
        refine ob_yes (wanted_none rfl) ?_
        clear hF hD
        go_simp
        refine (solve_any X Y n0 n1 n2 W l0 l1 l2 h0 h1 h2 a3 b3 x3 y3 _ (TW.out.below hB) V D3 (Lib.hid (by omega)) L N HL HN).mono ?_; rintro e w9 ⟨⟨ao, cp, rfl, hp⟩, hb⟩
        exact hK _ _ hb (rt_S s61 ⟨_, _, rfl, hp⟩)
      refine obsR_cons ?_ ?_
      · intro T wx K hB hF hD hK
        have g8 : T[8]? = some (.pointer (some ⟨bb, 0, none⟩)) := hF 8 (freeM_of (by kernel_rfl))
        refine ob_yes (wanted_none rfl) ?_
        clear hF hD
        exact wp_load_row 27 (.tmp 8) rfl _ (eval_tmp g8) _ _ _ _ (blk_call HB.out hB) Tryd.underlying27 rfl (by kernel_rfl) (hK _ _ (Below.refl _ _) (rt_eqS s62))
      refine obsR_cons ?_ ?_
      · intro T wx K hB hF hD hK
        have g12 : T[12]? = some (.pointer (some ⟨bp, 0, none⟩)) := hF 12 (freeM_of (by kernel_rfl))
        refine ob_yes (wanted_none rfl) ?_
        clear hF hD
        go_simp
        exact hK _ _ (Below.refl _ _) (rt_eqS s63)
      refine obsR_cons ?_ ?_
      · intro T wx K hB hF hD hK
        have g63 := get_eqS (hD 5 63 (by simp [Region.binds]) (by kernel_rfl)) s63
        refine ob_yes (wanted_none rfl) ?_
        clear hF hD
        have c := blk_cell (blk_call Hp.out hB) 0 _ rfl
        go_simp
        exact hK _ _ (Below.refl _ _) (rt_eqS s64)
      refine obsR_cons ?_ ?_
      · intro T wx K hB hF hD hK
        have g10 : T[10]? = some (.pointer (some ⟨bw, 0, none⟩)) := hF 10 (freeM_of (by kernel_rfl))
        refine ob_yes (wanted_none rfl) ?_
        clear hF hD
        go_simp
        exact hK _ _ (Below.refl _ _) (rt_eqS s65)
      refine obsR_cons ?_ ?_
      · intro T wx K hB hF hD hK
        have g65 := get_eqS (hD 7 65 (by simp [Region.binds]) (by kernel_rfl)) s65
        refine ob_yes (wanted_none rfl) ?_
        clear hF hD
        have c := blk_cell (blk_call HV.out hB) 0 _ rfl
        go_simp
        exact hK _ _ (Below.refl _ _) (rt_eqS s66)
      refine obsR_cons ?_ ?_
      · intro T wx K hB hF hD hK
        have g64 := get_eqS (hD 6 64 (by simp [Region.binds]) (by kernel_rfl)) s64
        have g66 := get_eqS (hD 8 66 (by simp [Region.binds]) (by kernel_rfl)) s66
        refine ob_yes (wanted_none rfl) ?_
        clear hF hD
        go_simp
        exact hK _ _ (Below.refl _ _) (rt_eqS' s67 (congrArg (Value.int .i64) (wrap_k _ (by omega))))
      refine obsR_cons ?_ ?_
      · intro T wx K hB hF hD hK
        have g12 : T[12]? = some (.pointer (some ⟨bp, 0, none⟩)) := hF 12 (freeM_of (by kernel_rfl))
        refine ob_yes (wanted_none rfl) ?_
        clear hF hD
        go_simp
        exact hK _ _ (Below.refl _ _) (rt_eqS s68)
      refine obsR_cons ?_ ?_
      · intro T wx K hB hF hD hK
        have g68 := get_eqS (hD 10 68 (by simp [Region.binds]) (by kernel_rfl)) s68
        refine ob_yes (wanted_none rfl) ?_
        clear hF hD
        have c := blk_cell (blk_call Hp.out hB) 1 _ rfl
        go_simp
        exact hK _ _ (Below.refl _ _) (rt_eqS s69)
      refine obsR_cons ?_ ?_
      · intro T wx K hB hF hD hK
        have g10 : T[10]? = some (.pointer (some ⟨bw, 0, none⟩)) := hF 10 (freeM_of (by kernel_rfl))
        refine ob_yes (wanted_none rfl) ?_
        clear hF hD
        go_simp
        exact hK _ _ (Below.refl _ _) (rt_eqS s70)
      refine obsR_cons ?_ ?_
      · intro T wx K hB hF hD hK
        have g70 := get_eqS (hD 12 70 (by simp [Region.binds]) (by kernel_rfl)) s70
        refine ob_yes (wanted_none rfl) ?_
        clear hF hD
        have c := blk_cell (blk_call HV.out hB) 1 _ rfl
        go_simp
        exact hK _ _ (Below.refl _ _) (rt_eqS s71)
      refine obsR_cons ?_ ?_
      · intro T wx K hB hF hD hK
        have g69 := get_eqS (hD 11 69 (by simp [Region.binds]) (by kernel_rfl)) s69
        have g71 := get_eqS (hD 13 71 (by simp [Region.binds]) (by kernel_rfl)) s71
        refine ob_yes (wanted_none rfl) ?_
        clear hF hD
        go_simp
        exact hK _ _ (Below.refl _ _) (rt_eqS' s72 (congrArg (Value.int .i64) (wrap_k _ (by omega))))
      refine obsR_cons ?_ ?_
      · intro T wx K hB hF hD hK
        have g67 := get_eqS (hD 9 67 (by simp [Region.binds]) (by kernel_rfl)) s67
        have g72 := get_eqS (hD 14 72 (by simp [Region.binds]) (by kernel_rfl)) s72
        refine ob_yes (wanted_none rfl) ?_
        clear hF hD
        go_simp
        exact hK _ _ (Below.refl _ _) (rt_eqS s73)
      refine obsR_cons ?_ ?_
      · intro T wx K hB hF hD hK
        have g13 : T[13]? = some (.pointer (some ⟨bv, 0, none⟩)) := hF 13 (freeM_of (by kernel_rfl))
        refine ob_yes (wanted_none rfl) ?_
        clear hF hD
        exact wp_load_row 29 (.tmp 13) rfl _ (eval_tmp g13) _ _ _ _ (blk_call Hv.out hB) Tryd.underlying29 rfl (by kernel_rfl) (hK _ _ (Below.refl _ _) (rt_eqS s74))
      refine obsR_cons ?_ ?_
      · intro T wx K hB hF hD hK
        have g62 := get_eqS (hD 4 62 (by simp [Region.binds]) (by kernel_rfl)) s62
        have g73 := get_eqS (hD 15 73 (by simp [Region.binds]) (by kernel_rfl)) s73
        have g74 := get_eqS (hD 16 74 (by simp [Region.binds]) (by kernel_rfl)) s74
        refine ob_yes (wanted_none rfl) ?_
        clear hF hD
        go_simp
        refine (solve_any (X + u) (Y + v) n0 n1 n2 W l0 l1 l2 h0 h1 h2 (a3 + u) (b3 + v) x3 y3 _ (TW.out.below hB) V2 D3 (Lib.hid (by omega)) L N HL2 HN).mono ?_; rintro e w9 ⟨⟨ao, cp, rfl, hp⟩, hb⟩
        exact hK _ _ hb (rt_S s75 ⟨_, _, rfl, hp⟩)
      refine obsR_cons ?_ ?_
      · intro T wx K hB hF hD hK
        obtain ⟨v61, g61, p61⟩ := getS (hD 3 61 (by simp [Region.binds]) (by kernel_rfl)) s61
        obtain ⟨v75, g75, p75⟩ := getS (hD 17 75 (by simp [Region.binds]) (by kernel_rfl)) s75
        refine ob_yes (wanted_none rfl) ?_
        clear hF hD
        obtain ⟨aoa, ca, rfl, hpa⟩ := p61
        obtain ⟨aob, cb, rfl, hpb⟩ := p75
        go_simp
        refine (same3_is aoa aob N N ca cb L L true _ HN.out HN.out (Lib.hid (by simp)) (by have := LB.out; omega) (by have := LB.out; omega) hpa hpb).mono ?_; rintro e w9 ⟨rfl, hb⟩
        exact hK _ _ hb (rt_eqS s76)
      refine obsR_cons ?_ ?_
      · intro T wx K hB hF hD hK
        have g76 := get_eqS (hD 18 76 (by simp [Region.binds]) (by kernel_rfl)) s76
        refine ob_yes (wanted_none rfl) ?_
        clear hF hD
        go_simp
        exact hK _ _ (Below.refl _ _) (rt_eqS s14)
      exact obsR_nil
    · intro Ta Wa hb8 hF hs hD
      have g58 := get_eqS (hD 0 58 (by decide) (by kernel_rfl)) s58
      have g59 := get_eqS (hD 1 59 (by decide) (by kernel_rfl)) s59
      have g60 := get_eqS (hD 2 60 (by decide) (by kernel_rfl)) s60
      obtain ⟨v61, g61, p61⟩ := getS (hD 3 61 (by decide) (by kernel_rfl)) s61
      have g62 := get_eqS (hD 4 62 (by decide) (by kernel_rfl)) s62
      have g63 := get_eqS (hD 5 63 (by decide) (by kernel_rfl)) s63
      have g64 := get_eqS (hD 6 64 (by decide) (by kernel_rfl)) s64
      have g65 := get_eqS (hD 7 65 (by decide) (by kernel_rfl)) s65
      have g66 := get_eqS (hD 8 66 (by decide) (by kernel_rfl)) s66
      have g67 := get_eqS (hD 9 67 (by decide) (by kernel_rfl)) s67
      have g68 := get_eqS (hD 10 68 (by decide) (by kernel_rfl)) s68
      have g69 := get_eqS (hD 11 69 (by decide) (by kernel_rfl)) s69
      have g70 := get_eqS (hD 12 70 (by decide) (by kernel_rfl)) s70
      have g71 := get_eqS (hD 13 71 (by decide) (by kernel_rfl)) s71
      have g72 := get_eqS (hD 14 72 (by decide) (by kernel_rfl)) s72
      have g73 := get_eqS (hD 15 73 (by decide) (by kernel_rfl)) s73
      have g74 := get_eqS (hD 16 74 (by decide) (by kernel_rfl)) s74
      obtain ⟨v75, g75, p75⟩ := getS (hD 17 75 (by decide) (by kernel_rfl)) s75
      have g76 := get_eqS (hD 18 76 (by decide) (by kernel_rfl)) s76
      have g14 := get_eqS (hD 19 14 (by decide) (by kernel_rfl)) s14
      have hT9 := conc [(58, .agg #[.int .i64 X, .int .i64 Y, .int .i64 n0, .int .i64 n1, .int .i64 n2, .int .i64 W, .int .i64 l0, .int .i64 l1, .int .i64 l2, .int .i64 h0, .int .i64 h1, .int .i64 h2]), (59, .agg #[.int .i64 a3, .int .i64 b3]), (60, .agg #[.int .i64 x3, .int .i64 y3, .int .i64 3]), (61, v61), (62, .agg #[.int .i64 (X + u), .int .i64 (Y + v), .int .i64 n0, .int .i64 n1, .int .i64 n2, .int .i64 W, .int .i64 l0, .int .i64 l1, .int .i64 l2, .int .i64 h0, .int .i64 h1, .int .i64 h2]), (63, .pointer (some ⟨bp, 0, none⟩)), (64, .int .i64 a3), (65, .pointer (some ⟨bw, 0, none⟩)), (66, .int .i64 u), (67, .int .i64 (a3 + u)), (68, .pointer (some ⟨bp, 1, none⟩)), (69, .int .i64 b3), (70, .pointer (some ⟨bw, 1, none⟩)), (71, .int .i64 v), (72, .int .i64 (b3 + v)), (73, .agg #[.int .i64 (a3 + u), .int .i64 (b3 + v)]), (74, .agg #[.int .i64 x3, .int .i64 y3, .int .i64 3]), (75, v75), (76, .bool true), (14, .bool true)] hs hF (by simp only [List.forall_mem_cons]; exact ⟨g58, g59, g60, g61, g62, g63, g64, g65, g66, g67, g68, g69, g70, g71, g72, g73, g74, g75, g76, g14, fun p hp => absurd hp List.not_mem_nil⟩) (by kernel_rfl)
      simp only [List.foldl, List.setIfInBounds_toArray, List.set_cons_succ, List.set_cons_zero] at hT9
      subst hT9
      clear hF hD hs g58 g59 g60 g61 g62 g63 g64 g65 g66 g67 g68 g69 g70 g71 g72 g73 g74 g75 g76 g14 s14 s58 s59 s60 s61 s62 s63 s64 s65 s66 s67 s68 s69 s70 s71 s72 s73 s74 s75 s76
      replace HA := Lib.hid (blk_call HA.out hb8)
      replace HR := Lib.hid (blk_call HR.out hb8)
      replace HM := Lib.hid (blk_call HM.out hb8)
      replace HB := Lib.hid (blk_call HB.out hb8)
      replace HV := Lib.hid (blk_call HV.out hb8)
      replace Hp := Lib.hid (blk_call Hp.out hb8)
      replace Hv := Lib.hid (blk_call Hv.out hb8)
      replace B := Lib.hid (belT B.out hb8)
      clear hb8
      go_wp2_with fail
      go_ret
      exact ⟨rfl, B.out⟩

set_option maxRecDepth 100000 in
theorem lifted (os : Os) (started : os.Started) (H : Type) (enc : TypeId × Value → H) :
    ReturnsInHanded {} Tryd.checked os 6 .any (fun w args => (Rows.invkinTranslatedSpec.pre enc Tryd.prog Tryd.f6 [] false w args ∧ laidMetH Tryd.prog Rows.invkinTranslatedRow.laid w) ∧ sizedMet enc Tryd.prog Tryd.f6 (OpenSpec.ofChange Rows.invkinTranslatedSpec) false w args)
      (Rows.invkinTranslatedSpec.post enc Tryd.prog Tryd.f6 false true false false) := by
  refine returnsInHanded_of_change_and (C := Tryd.checked) (X := fun w _ => laidMetH Tryd.prog Rows.invkinTranslatedRow.laid w) (fun _ _ _ hh h => h.of_heap hh) own started (by kernel_rfl) Tryd.func6
    (ChangeSpec.witness_shaped (enc := enc) (C := Tryd.checked) (os := os) (X := fun w _ => laidMetH Tryd.prog Rows.invkinTranslatedRow.laid w) false (World.doorLaid Tryd.prog 600 os) #[.agg #[.int .i64 0, .int .i64 0, .int .i64 0, .int .i64 0, .int .i64 0, .int .i64 0, .int .i64 0, .int .i64 0, .int .i64 0, .int .i64 0, .int .i64 0, .int .i64 0], .agg #[.int .u8 0, .int .u8 0, .int .u8 0], .agg #[.int .i16 0, .int .i16 0]] 8 rfl (World.shaped_of_RefB (by kernel_rfl) (by kernel_rfl)) (by kernel_rfl) (by kernel_rfl) (by kernel_rfl) (show laidMetH Tryd.prog [(qn, Rows.laid_ambidexter_rotation_quadrant)] _ from door_met os _)) ?_
  intro W base args ds gs before hval0 hW _ _ hL _
  have hval : ∀ (j : Nat) t v, Tryd.f6.params[j]? = some t → args[j]? = some v → Value.okWide Tryd.prog W .any base t v := hval0
  have hW' := hW
  obtain ⟨p, q, hA0, hV, rfl, hfz, hnd⟩ := hW
  have hA : DataW.TrodAll enc Tryd.prog W 0 (fun _ => true) true Tryd.f6.params.toList args.toList ds p := hA0
  rw [Tryd.params6] at hA hval
  obtain ⟨v0, vs0, d0, ds0, p0, q0, hargs, rfl, rfl, h0, r0⟩ := trodAll_cons hA
  obtain ⟨v1, vs1, d1, ds1, p1, q1, rfl, rfl, rfl, h1, r1⟩ := trodAll_cons r0
  obtain ⟨v2, vs2, d2, ds2, p2, q2, rfl, rfl, rfl, h2, r2⟩ := trodAll_cons r1
  obtain ⟨rfl, rfl, rfl⟩ := trodAll_nil r2
  obtain rfl : args = #[v0, v1, v2] := by cases args; simp_all
  obtain ⟨rfl, rfl⟩ := trodVars_none hV
  have k0 := h0
  have lt0 : ∀ x ∈ p0, x.block < W.heap.size := by obtain ⟨m, hm⟩ := k0; exact DataW.trod_lt m _ _ _ hm
  obtain ⟨c0_0, c0_1, c0_2, c0_3, c0_4, c0_5, c0_6, c0_7, c0_8, c0_9, c0_10, c0_11, rfl⟩ := AFr.open_arm (hval 0 27 v0 rfl rfl) h0
  have k1 := h1
  have lt1 : ∀ x ∈ p1, x.block < W.heap.size := by obtain ⟨m, hm⟩ := k1; exact DataW.trod_lt m _ _ _ hm
  obtain ⟨c1_0, c1_1, c1_2, rfl, b1_0, b1_1, b1_2⟩ := AFr.open_raw (hval 1 30 v1 rfl rfl) h1
  have k2 := h2
  have lt2 : ∀ x ∈ p2, x.block < W.heap.size := by obtain ⟨m, hm⟩ := k2; exact DataW.trod_lt m _ _ _ hm
  obtain ⟨c2_0, c2_1, rfl, b2_0, b2_1⟩ := AFr.open_pair16 (hval 2 55 v2 rfl rfl) h2
  clear hA0 hval0
  simp only [List.append_nil] at hW'
  refine (walk c0_0 c0_1 c0_2 c0_3 c0_4 c0_5 c0_6 c0_7 c0_8 c0_9 c0_10 c0_11 c1_0 c1_1 c1_2 b1_0 b1_1 b1_2 c2_0 c2_1 b2_0 b2_1 W (tab_of_laid hL)).mono fun e W' ⟨he, bel⟩ => ?_
  subst he
  exact ⟨_, rfl, _, _, _, [], _, [], hW', trodAll_mk1 (shut_bool Tryd.underlying4 _), (trodAll_cons_mk (Below.trod HFr.laidOut (by kernel_rfl) (of_decide_eq_true (by kernel_rfl)) k0 bel lt0) (trodAll_cons_mk (Below.trod HFr.laidOut (by kernel_rfl) (of_decide_eq_true (by kernel_rfl)) k1 bel lt1) (trodAll_cons_mk (Below.trod HFr.laidOut (by kernel_rfl) (of_decide_eq_true (by kernel_rfl)) k2 bel lt2) trodAll_mk0))), rfl, bel.frame _, fun h => by cases h⟩

theorem holds : Rows.InvkinTranslatedSaid :=
  OpenClaim.holds_of_wide 6 Tryd.f6 rfl rfl rfl rfl rfl rfl rfl ⟨rfl, rfl, rfl, rfl, rfl⟩ rfl rfl rfl rfl rfl (by kernel_rfl) Tryd.func6 (by kernel_rfl)
    (of_decide_eq_true (by kernel_rfl)) (by unfold Func.isWrapper; first | (rw [if_pos (by decide +kernel)]; kernel_rfl) | (rw [if_neg (by decide +kernel)]; exact ⟨rfl, rfl⟩))
    (fun os started H enc _ => lifted os started H enc)

/-- THE STATEMENT: the tied card. -/
theorem card_holds : Rows.InvkinTranslatedCardSaid :=
  Claim7.holds_tied_plain_at .later [] [.data] true Rows.invkinTranslatedCard.stood.harness false
    holds (fun _ h => by cases h) (by kernel_rfl) (fun _ h => by cases h) invkinTranslated_row_tie rfl ⟨rfl, rfl⟩ (by kernel_rfl) rfl
    (fun f fn hf hfn => by
      obtain rfl : f = 6 := Option.some.inj ((show Tryd.prog.funcNamed Rows.invkinTranslatedRow.func = some 6 by kernel_rfl).symm.trans hf) |>.symm
      obtain rfl : fn = Tryd.f6 := (Option.some.inj (Tryd.func6.symm.trans hfn)).symm
      exact ⟨by kernel_rfl, fun j t ht => by
        rw [Tryd.params6] at ht
        have hm : t ∈ [27, 30, 55] := by have := Array.mem_of_getElem? ht; simp only [List.mem_toArray, List.mem_cons, List.not_mem_nil, or_false] at this ⊢; grind
        have hall : ([27, 30, 55].all fun u => !Tryd.prog.wantsStandIn u) = true := by kernel_rfl
        exact (show Tryd.prog.wantsStandIn t = false by simpa using List.all_eq_true.1 hall t hm)⟩)
    (by kernel_rfl)
#print axioms card_holds
end Go.Proofs.YtceejjamngplkaaDoor.invkinTranslated
