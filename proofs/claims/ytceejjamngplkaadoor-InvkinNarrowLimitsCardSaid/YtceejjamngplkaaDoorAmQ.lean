/- Contracts of the reference of layer 7: plus, Dirs, Points. -/
import Derived.Test.YtceejjamngplkaaDoorRgh
namespace Go.Proofs.YtceejjamngplkaaDoor
open Go.ChangeShapes Go.WideShapes Go.ChangeAt Go.RowKit
set_option linter.unusedVariables false
set_option linter.unusedSimpArgs false
set_option maxRecDepth 100000

theorem plus_is (a b c d u v : Int) (w : World) (hu : Hid (a + c = u)) (hv : Hid (b + d = v)) (h1 : -1000000000000 ≤ u ∧ u ≤ 1000000000000) (h2 : -1000000000000 ≤ v ∧ v ≤ 1000000000000) :
    Calls Tryd.prog 50 #[.agg #[.int .i64 a, .int .i64 b], .agg #[.int .i64 c, .int .i64 d]] w fun e w' => e = .returned (.agg #[.int .i64 u, .int .i64 v]) ∧ Below w.heap.size w w' := by
  have e1 := hu.out
  have e2 := hv.out
  go_enter Tryd.func50, Tryd.ntmps50
  go_wp2_with fail
  go_returns
  exact ⟨rfl, by go_grown⟩
theorem fine7_is (x y N n U V : Int) (w : World) (hd : vdB x y N = true) (hn : -200 ≤ n ∧ n ≤ 200) (hU : Hid (n * 16 * p65 (3 - N) * x = U)) (hV : Hid (n * 16 * p65 (3 - N) * y = V)) :
    Calls Tryd.prog 26 #[.agg #[.int .i64 x, .int .i64 y, .int .i64 N], .int .i64 n] w fun e w' => e = .returned (.agg #[.int .i64 U, .int .i64 V]) ∧ Below w.heap.size w w' := by
  rw [← hU.out, ← hV.out]
  exact fine_is x y N n w hd hn
theorem add7_is (x y N q U V M : Int) (w : World) (h : vdB x y N = true) (hN : N ≤ 2) (hq : -1000 ≤ q ∧ q ≤ 1000) (hM : N + 1 = M) (E : Hid (gm (x, y) (rE q) = (U, V))) :
    Calls Tryd.prog 51 #[.agg #[.int .i64 x, .int .i64 y, .int .i64 N], .int .i64 q] w fun e w' => e = .returned (.agg #[.int .i64 U, .int .i64 V, .int .i64 M]) ∧ Below w.heap.size w w' := by
  have hU : x * (rE q).1 - y * (rE q).2 = U := congrArg Prod.fst E.out
  have hV : x * (rE q).2 + y * (rE q).1 = V := congrArg Prod.snd E.out
  rw [← hU, ← hV, ← hM]
  exact add_is x y N q _ _ w h hN (by omega) (Lib.hid rfl)

set_option maxHeartbeats 2000000 in
theorem dirs_is (X Y n0 n1 n2 W l0 l1 l2 h0 h1 h2 : Int) (q0 q1 q2 : Int) (x1 y1 x2 y2 x3 y3 : Int) (w : World) (hT : Tab w) (k0 : -1000 ≤ q0 ∧ q0 ≤ 1000) (k1 : -1000 ≤ q1 ∧ q1 ≤ 1000) (k2 : -1000 ≤ q2 ∧ q2 ≤ 1000)
    (H1 : Hid (gm (1, 0) (rE q0) = (x1, y1))) (H2 : Hid (gm (x1, y1) (rE q1) = (x2, y2))) (H3 : Hid (gm (x2, y2) (rE q2) = (x3, y3))) :
    Calls Tryd.prog 39 #[.agg #[.int .i64 X, .int .i64 Y, .int .i64 n0, .int .i64 n1, .int .i64 n2, .int .i64 W, .int .i64 l0, .int .i64 l1, .int .i64 l2, .int .i64 h0, .int .i64 h1, .int .i64 h2], .agg #[.int .i64 q0, .int .i64 q1, .int .i64 q2]] w fun e w' => e = .returned (.agg #[.int .i64 x1, .int .i64 y1, .int .i64 1, .int .i64 x2, .int .i64 y2, .int .i64 2, .int .i64 x3, .int .i64 y3, .int .i64 3]) ∧ Below w.heap.size w w' := by
  have e0 : rE q0 = (x1, y1) := by rw [← H1.out]; unfold gm; exact Prod.ext (by simp only; omega) (by simp only; omega)
  have D1 := Lib.hid (vd_one q0 x1 y1 (Lib.hid e0))
  have D2 := Lib.hid (vd_two (x1, y1) q1 x2 y2 1 2 D1.out (by omega) rfl H2)
  clear e0
  go_enter Tryd.func39, Tryd.ntmps39
  have B := Lib.hid (Below.refl w.heap.size w)
  have TT := Lib.hid hT
  clear hT
  go_upto_region 1 with fail
  have HQ := Lib.hid (blk_alloc (blk_new (w.alloc (.cells #[.int .i64 X, .int .i64 Y, .int .i64 n0, .int .i64 n1, .int .i64 n2, .int .i64 W, .int .i64 l0, .int .i64 l1, .int .i64 l2, .int .i64 h0, .int .i64 h1, .int .i64 h2] 27)) (.cells #[.int .i64 q0, .int .i64 q1, .int .i64 q2] 25) (w.heap.size + 1) (by simp)) (.cells #[.int .i64 0, .int .i64 0, .int .i64 0, .int .i64 0, .int .i64 0, .int .i64 0, .int .i64 0, .int .i64 0, .int .i64 0] 46))
  have HR := Lib.hid (blk_new ((w.alloc (.cells #[.int .i64 X, .int .i64 Y, .int .i64 n0, .int .i64 n1, .int .i64 n2, .int .i64 W, .int .i64 l0, .int .i64 l1, .int .i64 l2, .int .i64 h0, .int .i64 h1, .int .i64 h2] 27)).alloc (.cells #[.int .i64 q0, .int .i64 q1, .int .i64 q2] 25)) (.cells #[.int .i64 0, .int .i64 0, .int .i64 0, .int .i64 0, .int .i64 0, .int .i64 0, .int .i64 0, .int .i64 0, .int .i64 0] 46) (w.heap.size + 1 + 1) (by simp))
  replace B := Lib.hid (belA (belA (belA B.out (.cells #[.int .i64 X, .int .i64 Y, .int .i64 n0, .int .i64 n1, .int .i64 n2, .int .i64 W, .int .i64 l0, .int .i64 l1, .int .i64 l2, .int .i64 h0, .int .i64 h1, .int .i64 h2] 27)) (.cells #[.int .i64 q0, .int .i64 q1, .int .i64 q2] 25)) (.cells #[.int .i64 0, .int .i64 0, .int .i64 0, .int .i64 0, .int .i64 0, .int .i64 0, .int .i64 0, .int .i64 0, .int .i64 0] 46))
  replace TT := Lib.hid (Tab.alloc (Tab.alloc (Tab.alloc TT.out (.cells #[.int .i64 X, .int .i64 Y, .int .i64 n0, .int .i64 n1, .int .i64 n2, .int .i64 W, .int .i64 l0, .int .i64 l1, .int .i64 l2, .int .i64 h0, .int .i64 h1, .int .i64 h2] 27)) (.cells #[.int .i64 q0, .int .i64 q1, .int .i64 q2] 25)) (.cells #[.int .i64 0, .int .i64 0, .int .i64 0, .int .i64 0, .int .i64 0, .int .i64 0, .int .i64 0, .int .i64 0, .int .i64 0] 46))
  generalize (((w.alloc (.cells #[.int .i64 X, .int .i64 Y, .int .i64 n0, .int .i64 n1, .int .i64 n2, .int .i64 W, .int .i64 l0, .int .i64 l1, .int .i64 l2, .int .i64 h0, .int .i64 h1, .int .i64 h2] 27)).alloc (.cells #[.int .i64 q0, .int .i64 q1, .int .i64 q2] 25)).alloc (.cells #[.int .i64 0, .int .i64 0, .int .i64 0, .int .i64 0, .int .i64 0, .int .i64 0, .int .i64 0, .int .i64 0, .int .i64 0] 46)) = W0 at *
  generalize hr : w.heap.size + 1 + 1 = r at *
  generalize hq : w.heap.size + 1 = q at *
  have NR : Hid (w.heap.size ≤ r ∧ q ≠ r) := Lib.hid (by omega)
  clear hr hq
  have d0 := blk_cell HQ.out 0 _ rfl
  have d1 := blk_cell HQ.out 1 _ rfl
  have d2 := blk_cell HQ.out 2 _ rfl
  go_wp2_with fail
  refine (add7_is 1 0 0 q0 x1 y1 1 _ (by decide) (by omega) k0 rfl H1).mono ?_
  rintro e w1 ⟨rfl, hb1⟩
  clear d0 d1 d2
  replace HQ := Lib.hid (blk_call HQ.out hb1)
  replace HR := Lib.hid (blk_call HR.out hb1)
  replace B := Lib.hid (belT B.out hb1)
  replace TT := Lib.hid (Tab.below TT.out hb1)
  clear hb1
  go_upto_region 2 with fail
  replace HQ := Lib.hid (blk_alloc HQ.out (.cells #[.int .i64 x1, .int .i64 y1, .int .i64 1] 29))
  replace HR := Lib.hid (blk_alloc HR.out (.cells #[.int .i64 x1, .int .i64 y1, .int .i64 1] 29))
  have H5 := Lib.hid (blk_new w1 (.cells #[.int .i64 x1, .int .i64 y1, .int .i64 1] 29) (w1.heap.size) rfl)
  replace B := Lib.hid (belA B.out (.cells #[.int .i64 x1, .int .i64 y1, .int .i64 1] 29))
  replace TT := Lib.hid (Tab.alloc TT.out (.cells #[.int .i64 x1, .int .i64 y1, .int .i64 1] 29))
  generalize (w1.alloc (.cells #[.int .i64 x1, .int .i64 y1, .int .i64 1] 29)) = W1 at *
  obtain ⟨s5, e5⟩ : ∃ z, w1.heap.size = z := ⟨_, rfl⟩
  rw [e5] at H5 ⊢
  clear e5
  have d0 := blk_cell HQ.out 0 _ rfl
  have d1 := blk_cell HQ.out 1 _ rfl
  have d2 := blk_cell HQ.out 2 _ rfl
  have e0 := blk_cell H5.out 0 _ rfl
  have e1 := blk_cell H5.out 1 _ rfl
  have e2 := blk_cell H5.out 2 _ rfl
  go_wp2_with fail
  refine (add7_is x1 y1 1 q1 x2 y2 2 _ D1.out (by omega) k1 rfl H2).mono ?_
  rintro e w2 ⟨rfl, hb2⟩
  clear d0 d1 d2 e0 e1 e2
  replace HQ := Lib.hid (blk_call HQ.out hb2)
  replace HR := Lib.hid (blk_call HR.out hb2)
  replace H5 := Lib.hid (blk_call H5.out hb2)
  replace B := Lib.hid (belT B.out hb2)
  replace TT := Lib.hid (Tab.below TT.out hb2)
  clear hb2
  go_upto_region 3 with fail
  replace HQ := Lib.hid (blk_alloc HQ.out (.cells #[.int .i64 x2, .int .i64 y2, .int .i64 2] 29))
  replace HR := Lib.hid (blk_alloc HR.out (.cells #[.int .i64 x2, .int .i64 y2, .int .i64 2] 29))
  replace H5 := Lib.hid (blk_alloc H5.out (.cells #[.int .i64 x2, .int .i64 y2, .int .i64 2] 29))
  have H6 := Lib.hid (blk_new w2 (.cells #[.int .i64 x2, .int .i64 y2, .int .i64 2] 29) (w2.heap.size) rfl)
  replace B := Lib.hid (belA B.out (.cells #[.int .i64 x2, .int .i64 y2, .int .i64 2] 29))
  replace TT := Lib.hid (Tab.alloc TT.out (.cells #[.int .i64 x2, .int .i64 y2, .int .i64 2] 29))
  generalize (w2.alloc (.cells #[.int .i64 x2, .int .i64 y2, .int .i64 2] 29)) = W2 at *
  obtain ⟨s6, e6⟩ : ∃ z, w2.heap.size = z := ⟨_, rfl⟩
  rw [e6] at H6 ⊢
  clear e6
  obtain ⟨sp, hsp⟩ : ∃ sp : ToldS, sp = [none, none, none, none, none, none, none, none, none, none, none, none, none, none, none, some (eqS (.agg #[.int .i64 x1, .int .i64 y1, .int .i64 1])), some (eqS (.agg #[.int .i64 x2, .int .i64 y2, .int .i64 2])), some (eqS (.agg #[.int .i64 x2, .int .i64 y2, .int .i64 2])), some (eqS (.pointer (some ⟨q, 2, none⟩))), some (eqS (.int .i64 q2)), some (eqS (.agg #[.int .i64 x3, .int .i64 y3, .int .i64 3])), some (eqS (.agg #[.int .i64 x1, .int .i64 y1, .int .i64 1, .int .i64 x2, .int .i64 y2, .int .i64 2, .int .i64 x3, .int .i64 y3, .int .i64 3]))] := ⟨_, rfl⟩
  have s15 : sp.getD 15 none = some (eqS (.agg #[.int .i64 x1, .int .i64 y1, .int .i64 1])) := by rw [hsp]; rfl
  have s16 : sp.getD 16 none = some (eqS (.agg #[.int .i64 x2, .int .i64 y2, .int .i64 2])) := by rw [hsp]; rfl
  have s17 : sp.getD 17 none = some (eqS (.agg #[.int .i64 x2, .int .i64 y2, .int .i64 2])) := by rw [hsp]; rfl
  have s18 : sp.getD 18 none = some (eqS (.pointer (some ⟨q, 2, none⟩))) := by rw [hsp]; rfl
  have s19 : sp.getD 19 none = some (eqS (.int .i64 q2)) := by rw [hsp]; rfl
  have s20 : sp.getD 20 none = some (eqS (.agg #[.int .i64 x3, .int .i64 y3, .int .i64 3])) := by rw [hsp]; rfl
  have s21 : sp.getD 21 none = some (eqS (.agg #[.int .i64 x1, .int .i64 y1, .int .i64 1, .int .i64 x2, .int .i64 y2, .int .i64 2, .int .i64 x3, .int .i64 y3, .int .i64 3])) := by rw [hsp]; rfl
  clear hsp
  refine (wpIn_wide (n := 0)).1 (region_headR (RtS sp) (rtS_keep sp) 7 rfl rfl rfl (by kernel_rfl) (by decide) (by kernel_rfl) (by kernel_rfl) (by kernel_rfl) ?_ ?_)
  · intro Q'; show ObsR _ _ _ _ _ _ _ _ (List.take _ _); simp only [List.take_succ_cons, List.take_zero]
    refine obsR_cons ?_ ?_
    · intro T wx K hB hF hD hK
      have g5 : T[5]? = some (.pointer (some ⟨s5, 0, none⟩)) := hF 5 (freeM_of (by kernel_rfl))
      refine ob_yes (wanted_none rfl) ?_
      clear hF hD
      exact wp_load_row 29 (.tmp 5) rfl s5 (eval_tmp g5) _ _ _ _ (blk_call H5.out hB) Tryd.underlying29 rfl (by kernel_rfl) (hK _ _ (Below.refl _ _) (rt_eqS s15))
    refine obsR_cons ?_ ?_
    · intro T wx K hB hF hD hK
      have g6 : T[6]? = some (.pointer (some ⟨s6, 0, none⟩)) := hF 6 (freeM_of (by kernel_rfl))
      refine ob_yes (wanted_none rfl) ?_
      clear hF hD
      exact wp_load_row 29 (.tmp 6) rfl s6 (eval_tmp g6) _ _ _ _ (blk_call H6.out hB) Tryd.underlying29 rfl (by kernel_rfl) (hK _ _ (Below.refl _ _) (rt_eqS s16))
    refine obsR_cons ?_ ?_
    · intro T wx K hB hF hD hK
      have g6 : T[6]? = some (.pointer (some ⟨s6, 0, none⟩)) := hF 6 (freeM_of (by kernel_rfl))
      refine ob_yes (wanted_none rfl) ?_
      clear hF hD
      exact wp_load_row 29 (.tmp 6) rfl s6 (eval_tmp g6) _ _ _ _ (blk_call H6.out hB) Tryd.underlying29 rfl (by kernel_rfl) (hK _ _ (Below.refl _ _) (rt_eqS s17))
    refine obsR_cons ?_ ?_
    · intro T wx K hB hF hD hK
      have g3 : T[3]? = some (.pointer (some ⟨q, 0, none⟩)) := hF 3 (freeM_of (by kernel_rfl))
      refine ob_yes (wanted_none rfl) ?_
      clear hF hD
      go_simp
      exact hK _ _ (Below.refl _ _) (rt_eqS s18)
    refine obsR_cons ?_ ?_
    · intro T wx K hB hF hD hK
      have g18 := get_eqS (hD 3 18 (by simp [Region.binds]) (by kernel_rfl)) s18
      refine ob_yes (wanted_none rfl) ?_
      clear hF hD
      have c0 := blk_cell (blk_call HQ.out hB) 2 _ rfl
      go_simp
      exact hK _ _ (Below.refl _ _) (rt_eqS s19)
    refine obsR_cons ?_ ?_
    · intro T wx K hB hF hD hK
      have g17 := get_eqS (hD 2 17 (by simp [Region.binds]) (by kernel_rfl)) s17
      have g19 := get_eqS (hD 4 19 (by simp [Region.binds]) (by kernel_rfl)) s19
      refine ob_yes (wanted_none rfl) ?_
      clear hF hD
      go_simp
      refine (add7_is x2 y2 2 q2 x3 y3 3 _ D2.out (by omega) k2 rfl H3).mono ?_; rintro e w9 ⟨rfl, hb⟩
      exact hK _ _ hb (rt_eqS s20)
    refine obsR_cons ?_ ?_
    · intro T wx K hB hF hD hK
      have g15 := get_eqS (hD 0 15 (by simp [Region.binds]) (by kernel_rfl)) s15
      have g16 := get_eqS (hD 1 16 (by simp [Region.binds]) (by kernel_rfl)) s16
      have g20 := get_eqS (hD 5 20 (by simp [Region.binds]) (by kernel_rfl)) s20
      refine ob_yes (wanted_none rfl) ?_
      clear hF hD
      refine wp_build_to 46 #[(0, .tmp 15), (1, .tmp 16), (2, .tmp 20)] rfl #[.int .i64 x1, .int .i64 y1, .int .i64 1, .int .i64 x2, .int .i64 y2, .int .i64 2, .int .i64 x3, .int .i64 y3, .int .i64 3] ?_ (hK _ _ (Below.refl _ _) (rt_eqS s21))
      simp only [List.map_toArray, List.map_cons, List.map_nil, eval_tmp g15, eval_tmp g16, eval_tmp g20]
      kernel_rfl
    exact obsR_nil
  · intro T9 w8 hb8 hF hs hD
    have g15 := get_eqS (hD 0 15 (by decide) (by kernel_rfl)) s15
    have g16 := get_eqS (hD 1 16 (by decide) (by kernel_rfl)) s16
    have g17 := get_eqS (hD 2 17 (by decide) (by kernel_rfl)) s17
    have g18 := get_eqS (hD 3 18 (by decide) (by kernel_rfl)) s18
    have g19 := get_eqS (hD 4 19 (by decide) (by kernel_rfl)) s19
    have g20 := get_eqS (hD 5 20 (by decide) (by kernel_rfl)) s20
    have g21 := get_eqS (hD 6 21 (by decide) (by kernel_rfl)) s21
    have hT := conc [(15, .agg #[.int .i64 x1, .int .i64 y1, .int .i64 1]), (16, .agg #[.int .i64 x2, .int .i64 y2, .int .i64 2]), (17, .agg #[.int .i64 x2, .int .i64 y2, .int .i64 2]), (18, .pointer (some ⟨q, 2, none⟩)), (19, .int .i64 q2), (20, .agg #[.int .i64 x3, .int .i64 y3, .int .i64 3]), (21, .agg #[.int .i64 x1, .int .i64 y1, .int .i64 1, .int .i64 x2, .int .i64 y2, .int .i64 2, .int .i64 x3, .int .i64 y3, .int .i64 3])] hs hF (by simp only [List.forall_mem_cons]; exact ⟨g15, g16, g17, g18, g19, g20, g21, fun p hp => absurd hp List.not_mem_nil⟩) (by kernel_rfl)
    simp only [List.foldl, List.setIfInBounds_toArray, List.set_cons_succ, List.set_cons_zero] at hT
    subst hT
    clear hF hD hs g15 g16 g17 g18 g19 g20 g21 s15 s16 s17 s18 s19 s20 s21
    show wpOpsIn _ _ _ _ _ [7] _ _
    refine tail_store rfl rfl rfl rfl rfl 46 (.tmp 4) (.tmp 21) rfl rfl r #[.int .i64 x1, .int .i64 y1, .int .i64 1, .int .i64 x2, .int .i64 y2, .int .i64 2, .int .i64 x3, .int .i64 y3, .int .i64 3] rfl rfl _ _ (blk_call HR.out hb8) (by kernel_rfl) rfl (by kernel_rfl) ?_
    have HZ := Lib.hid (setRow_heap w8 r _ #[.int .i64 x1, .int .i64 y1, .int .i64 1, .int .i64 x2, .int .i64 y2, .int .i64 2, .int .i64 x3, .int .i64 y3, .int .i64 3] _ _ (blk_call HR.out hb8))
    replace B := Lib.hid (below_setRow7 (belT B.out hb8) NR.out.1 #[.int .i64 x1, .int .i64 y1, .int .i64 1, .int .i64 x2, .int .i64 y2, .int .i64 2, .int .i64 x3, .int .i64 y3, .int .i64 3])
    simp only [wpOpsIn]
    generalize w8.setRow r #[.int .i64 x1, .int .i64 y1, .int .i64 1, .int .i64 x2, .int .i64 y2, .int .i64 2, .int .i64 x3, .int .i64 y3, .int .i64 3] = W3 at *
    have z0 := blk_cell HZ.out 0 _ rfl
    have z1 := blk_cell HZ.out 1 _ rfl
    have z2 := blk_cell HZ.out 2 _ rfl
    have z3 := blk_cell HZ.out 3 _ rfl
    have z4 := blk_cell HZ.out 4 _ rfl
    have z5 := blk_cell HZ.out 5 _ rfl
    have z6 := blk_cell HZ.out 6 _ rfl
    have z7 := blk_cell HZ.out 7 _ rfl
    have z8 := blk_cell HZ.out 8 _ rfl
    go_wp2_with fail
    refine bodyPost_ret (v := .agg #[.int .i64 x1, .int .i64 y1, .int .i64 1, .int .i64 x2, .int .i64 y2, .int .i64 2, .int .i64 x3, .int .i64 y3, .int .i64 3]) (by simp [results, Tryd.results39, go_sem, z0, z1, z2, z3, z4, z5, z6, z7, z8]) rfl ?_
    exact ⟨rfl, B.out⟩

theorem gm_one {p : Int × Int} {q : Int} (h : rE q = p) : gm (1, 0) (rE q) = p := by rw [← h]; unfold gm; exact Prod.ext (by simp only; omega) (by simp only; omega)
theorem dirsP_is (X Y n0 n1 n2 W l0 l1 l2 h0 h1 h2 : Int) (q0 q1 q2 : Int) (x1 x2 x3 y1 y2 y3 u1 u2 u3 v1 v2 v3 a1 a2 a3 b1 b2 b3 : Int) (w : World) (hT : Tab w) (k0 : -1000 ≤ q0 ∧ q0 ≤ 1000) (k1 : -1000 ≤ q1 ∧ q1 ≤ 1000) (k2 : -1000 ≤ q2 ∧ q2 ≤ 1000) (P : Hid (Pose X Y n0 n1 n2 q0 q1 q2 x1 x2 x3 y1 y2 y3 u1 u2 u3 v1 v2 v3 a1 a2 a3 b1 b2 b3)) :
    Calls Tryd.prog 39 #[.agg #[.int .i64 X, .int .i64 Y, .int .i64 n0, .int .i64 n1, .int .i64 n2, .int .i64 W, .int .i64 l0, .int .i64 l1, .int .i64 l2, .int .i64 h0, .int .i64 h1, .int .i64 h2], .agg #[.int .i64 q0, .int .i64 q1, .int .i64 q2]] w fun e w' => e = .returned (.agg #[.int .i64 x1, .int .i64 y1, .int .i64 1, .int .i64 x2, .int .i64 y2, .int .i64 2, .int .i64 x3, .int .i64 y3, .int .i64 3]) ∧ Below w.heap.size w w' :=
  dirs_is X Y n0 n1 n2 W l0 l1 l2 h0 h1 h2 q0 q1 q2 x1 y1 x2 y2 x3 y3 w hT k0 k1 k2 (Lib.hid (gm_one P.out.e1)) (Lib.hid P.out.e2) (Lib.hid P.out.e3)
end Go.Proofs.YtceejjamngplkaaDoor
