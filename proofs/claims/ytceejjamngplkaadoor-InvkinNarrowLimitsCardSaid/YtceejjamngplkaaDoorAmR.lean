/- Contract of the reference of layer 7: Points. -/
import Derived.Test.YtceejjamngplkaaDoorAmQ
namespace Go.Proofs.YtceejjamngplkaaDoor
open Go.ChangeShapes Go.WideShapes Go.ChangeAt Go.RowKit
set_option linter.unusedVariables false
set_option linter.unusedSimpArgs false
set_option maxRecDepth 100000

set_option maxHeartbeats 4000000 in
theorem points_is (X Y n0 n1 n2 W l0 l1 l2 h0 h1 h2 : Int) (q0 q1 q2 : Int) (x1 x2 x3 y1 y2 y3 u1 u2 u3 v1 v2 v3 a1 a2 a3 b1 b2 b3 : Int) (w : World) (hT : Tab w) (k0 : -1000 ≤ q0 ∧ q0 ≤ 1000) (k1 : -1000 ≤ q1 ∧ q1 ≤ 1000) (k2 : -1000 ≤ q2 ∧ q2 ≤ 1000) (V : Hid (armB X Y n0 n1 n2 W l0 l1 l2 h0 h1 h2 = true)) (P : Hid (Pose X Y n0 n1 n2 q0 q1 q2 x1 x2 x3 y1 y2 y3 u1 u2 u3 v1 v2 v3 a1 a2 a3 b1 b2 b3)) :
    Calls Tryd.prog 38 #[.agg #[.int .i64 X, .int .i64 Y, .int .i64 n0, .int .i64 n1, .int .i64 n2, .int .i64 W, .int .i64 l0, .int .i64 l1, .int .i64 l2, .int .i64 h0, .int .i64 h1, .int .i64 h2], .agg #[.int .i64 q0, .int .i64 q1, .int .i64 q2]] w fun e w' => e = .returned (.agg #[.int .i64 X, .int .i64 Y, .int .i64 a1, .int .i64 b1, .int .i64 a2, .int .i64 b2, .int .i64 a3, .int .i64 b3]) ∧ Below w.heap.size w w' := by
  have N0 : Hid (-200 ≤ n0 ∧ n0 ≤ 200) := Lib.hid (by have := (armB_iff X Y n0 n1 n2 W l0 l1 l2 h0 h1 h2).1 V.out; omega)
  have N1 : Hid (-200 ≤ n1 ∧ n1 ≤ 200) := Lib.hid (by have := (armB_iff X Y n0 n1 n2 W l0 l1 l2 h0 h1 h2).1 V.out; omega)
  have N2 : Hid (-200 ≤ n2 ∧ n2 ≤ 200) := Lib.hid (by have := (armB_iff X Y n0 n1 n2 W l0 l1 l2 h0 h1 h2).1 V.out; omega)
  have Hu1 : Hid (n0 * 16 * p65 (3 - 1) * x1 = n0 * u1) := Lib.hid (by rw [← P.out.f1.1, show p65 (3 - 1) = 4225 by decide]; grind)
  have Hv1 : Hid (n0 * 16 * p65 (3 - 1) * y1 = n0 * v1) := Lib.hid (by rw [← P.out.f1.2, show p65 (3 - 1) = 4225 by decide]; grind)
  have D1 : Hid (vdB x1 y1 1 = true) := Lib.hid (vd_one q0 x1 y1 (Lib.hid P.out.e1))
  have Hu2 : Hid (n1 * 16 * p65 (3 - 2) * x2 = n1 * u2) := Lib.hid (by rw [← P.out.f2.1, show p65 (3 - 2) = 65 by decide]; grind)
  have Hv2 : Hid (n1 * 16 * p65 (3 - 2) * y2 = n1 * v2) := Lib.hid (by rw [← P.out.f2.2, show p65 (3 - 2) = 65 by decide]; grind)
  have D2 : Hid (vdB x2 y2 2 = true) := Lib.hid (vd_two (x1, y1) q1 x2 y2 1 2 D1.out (by omega) rfl (Lib.hid P.out.e2))
  have Hu3 : Hid (n2 * 16 * p65 (3 - 3) * x3 = n2 * u3) := Lib.hid (by rw [← P.out.f3.1, show p65 (3 - 3) = 1 by decide]; grind)
  have Hv3 : Hid (n2 * 16 * p65 (3 - 3) * y3 = n2 * v3) := Lib.hid (by rw [← P.out.f3.2, show p65 (3 - 3) = 1 by decide]; grind)
  have D3 : Hid (vdB x3 y3 3 = true) := Lib.hid (vd_two (x2, y2) q2 x3 y3 2 3 D2.out (by omega) rfl (Lib.hid P.out.e3))
  have R : Hid ((-1000000000000 ≤ a1 ∧ a1 ≤ 1000000000000) ∧ (-1000000000000 ≤ b1 ∧ b1 ≤ 1000000000000) ∧ (-1000000000000 ≤ a2 ∧ a2 ≤ 1000000000000) ∧ (-1000000000000 ≤ b2 ∧ b2 ≤ 1000000000000) ∧ (-1000000000000 ≤ a3 ∧ a3 ≤ 1000000000000) ∧ -1000000000000 ≤ b3 ∧ b3 ≤ 1000000000000) := Lib.hid (by have := pose_bd P.out V.out; have := (armB_iff X Y n0 n1 n2 W l0 l1 l2 h0 h1 h2).1 V.out; omega)
  go_enter Tryd.func38, Tryd.ntmps38
  have B := Lib.hid (Below.refl w.heap.size w)
  have TT := Lib.hid hT
  clear hT
  go_upto_region 1 with fail
  have HA := Lib.hid (blk_alloc (blk_alloc (blk_new w (.cells #[.int .i64 X, .int .i64 Y, .int .i64 n0, .int .i64 n1, .int .i64 n2, .int .i64 W, .int .i64 l0, .int .i64 l1, .int .i64 l2, .int .i64 h0, .int .i64 h1, .int .i64 h2] 27) (w.heap.size) rfl) (.cells #[.int .i64 q0, .int .i64 q1, .int .i64 q2] 25)) (.cells #[.int .i64 0, .int .i64 0, .int .i64 0, .int .i64 0, .int .i64 0, .int .i64 0, .int .i64 0, .int .i64 0] 44))
  have HQ := Lib.hid (blk_alloc (blk_new (w.alloc (.cells #[.int .i64 X, .int .i64 Y, .int .i64 n0, .int .i64 n1, .int .i64 n2, .int .i64 W, .int .i64 l0, .int .i64 l1, .int .i64 l2, .int .i64 h0, .int .i64 h1, .int .i64 h2] 27)) (.cells #[.int .i64 q0, .int .i64 q1, .int .i64 q2] 25) (w.heap.size + 1) (by simp)) (.cells #[.int .i64 0, .int .i64 0, .int .i64 0, .int .i64 0, .int .i64 0, .int .i64 0, .int .i64 0, .int .i64 0] 44))
  have HR := Lib.hid (blk_new ((w.alloc (.cells #[.int .i64 X, .int .i64 Y, .int .i64 n0, .int .i64 n1, .int .i64 n2, .int .i64 W, .int .i64 l0, .int .i64 l1, .int .i64 l2, .int .i64 h0, .int .i64 h1, .int .i64 h2] 27)).alloc (.cells #[.int .i64 q0, .int .i64 q1, .int .i64 q2] 25)) (.cells #[.int .i64 0, .int .i64 0, .int .i64 0, .int .i64 0, .int .i64 0, .int .i64 0, .int .i64 0, .int .i64 0] 44) (w.heap.size + 1 + 1) (by simp))
  replace B := Lib.hid (belA (belA (belA B.out (.cells #[.int .i64 X, .int .i64 Y, .int .i64 n0, .int .i64 n1, .int .i64 n2, .int .i64 W, .int .i64 l0, .int .i64 l1, .int .i64 l2, .int .i64 h0, .int .i64 h1, .int .i64 h2] 27)) (.cells #[.int .i64 q0, .int .i64 q1, .int .i64 q2] 25)) (.cells #[.int .i64 0, .int .i64 0, .int .i64 0, .int .i64 0, .int .i64 0, .int .i64 0, .int .i64 0, .int .i64 0] 44))
  replace TT := Lib.hid (Tab.alloc (Tab.alloc (Tab.alloc TT.out (.cells #[.int .i64 X, .int .i64 Y, .int .i64 n0, .int .i64 n1, .int .i64 n2, .int .i64 W, .int .i64 l0, .int .i64 l1, .int .i64 l2, .int .i64 h0, .int .i64 h1, .int .i64 h2] 27)) (.cells #[.int .i64 q0, .int .i64 q1, .int .i64 q2] 25)) (.cells #[.int .i64 0, .int .i64 0, .int .i64 0, .int .i64 0, .int .i64 0, .int .i64 0, .int .i64 0, .int .i64 0] 44))
  generalize (((w.alloc (.cells #[.int .i64 X, .int .i64 Y, .int .i64 n0, .int .i64 n1, .int .i64 n2, .int .i64 W, .int .i64 l0, .int .i64 l1, .int .i64 l2, .int .i64 h0, .int .i64 h1, .int .i64 h2] 27)).alloc (.cells #[.int .i64 q0, .int .i64 q1, .int .i64 q2] 25)).alloc (.cells #[.int .i64 0, .int .i64 0, .int .i64 0, .int .i64 0, .int .i64 0, .int .i64 0, .int .i64 0, .int .i64 0] 44)) = W0 at *
  obtain ⟨a, ha⟩ : ∃ z, w.heap.size = z := ⟨_, rfl⟩
  generalize hr : w.heap.size + 1 + 1 = r at *
  generalize hq : w.heap.size + 1 = q at *
  have NR : Hid (w.heap.size ≤ r ∧ a ≠ r) := Lib.hid (by omega)
  have LR := Lib.hid (blk_lt HR.out)
  rw [ha] at HA ⊢
  clear ha hr hq
  have c0 := blk_cell HA.out 0 _ rfl
  have c1 := blk_cell HA.out 1 _ rfl
  have c2 := blk_cell HA.out 2 _ rfl
  have c3 := blk_cell HA.out 3 _ rfl
  have c4 := blk_cell HA.out 4 _ rfl
  have c5 := blk_cell HA.out 5 _ rfl
  have c6 := blk_cell HA.out 6 _ rfl
  have c7 := blk_cell HA.out 7 _ rfl
  have c8 := blk_cell HA.out 8 _ rfl
  have c9 := blk_cell HA.out 9 _ rfl
  have c10 := blk_cell HA.out 10 _ rfl
  have c11 := blk_cell HA.out 11 _ rfl
  have d0 := blk_cell HQ.out 0 _ rfl
  have d1 := blk_cell HQ.out 1 _ rfl
  have d2 := blk_cell HQ.out 2 _ rfl
  go_wp2_with fail
  refine (dirsP_is X Y n0 n1 n2 W l0 l1 l2 h0 h1 h2 q0 q1 q2 x1 x2 x3 y1 y2 y3 u1 u2 u3 v1 v2 v3 a1 a2 a3 b1 b2 b3 _ TT.out k0 k1 k2 P).mono ?_
  rintro e w1 ⟨rfl, hb1⟩
  clear c0 c1 c2 c3 c4 c5 c6 c7 c8 c9 c10 c11 d0 d1 d2
  replace HA := Lib.hid (blk_call HA.out hb1)
  replace HQ := Lib.hid (blk_call HQ.out hb1)
  replace HR := Lib.hid (blk_call HR.out hb1)
  replace B := Lib.hid (belT B.out hb1)
  replace TT := Lib.hid (Tab.below TT.out hb1)
  clear hb1
  go_upto_region 2 with fail
  replace HA := Lib.hid (blk_alloc HA.out (.cells #[.int .i64 x1, .int .i64 y1, .int .i64 1, .int .i64 x2, .int .i64 y2, .int .i64 2, .int .i64 x3, .int .i64 y3, .int .i64 3] 46))
  replace HQ := Lib.hid (blk_alloc HQ.out (.cells #[.int .i64 x1, .int .i64 y1, .int .i64 1, .int .i64 x2, .int .i64 y2, .int .i64 2, .int .i64 x3, .int .i64 y3, .int .i64 3] 46))
  replace HR := Lib.hid (blk_alloc HR.out (.cells #[.int .i64 x1, .int .i64 y1, .int .i64 1, .int .i64 x2, .int .i64 y2, .int .i64 2, .int .i64 x3, .int .i64 y3, .int .i64 3] 46))
  have HD := Lib.hid (blk_new w1 (.cells #[.int .i64 x1, .int .i64 y1, .int .i64 1, .int .i64 x2, .int .i64 y2, .int .i64 2, .int .i64 x3, .int .i64 y3, .int .i64 3] 46) (w1.heap.size) rfl)
  replace B := Lib.hid (belA B.out (.cells #[.int .i64 x1, .int .i64 y1, .int .i64 1, .int .i64 x2, .int .i64 y2, .int .i64 2, .int .i64 x3, .int .i64 y3, .int .i64 3] 46))
  replace TT := Lib.hid (Tab.alloc TT.out (.cells #[.int .i64 x1, .int .i64 y1, .int .i64 1, .int .i64 x2, .int .i64 y2, .int .i64 2, .int .i64 x3, .int .i64 y3, .int .i64 3] 46))
  generalize (w1.alloc (.cells #[.int .i64 x1, .int .i64 y1, .int .i64 1, .int .i64 x2, .int .i64 y2, .int .i64 2, .int .i64 x3, .int .i64 y3, .int .i64 3] 46)) = W1 at *
  obtain ⟨d, e5⟩ : ∃ z, w1.heap.size = z := ⟨_, rfl⟩
  rw [e5] at HD ⊢
  clear e5
  have c0 := blk_cell HA.out 0 _ rfl
  have c1 := blk_cell HA.out 1 _ rfl
  go_upto_region 3 with fail
  clear c0 c1
  have LD := Lib.hid (blk_lt HD.out)
  have LA := Lib.hid (blk_lt HA.out)
  have LZ := Lib.hid (show w.heap.size ≤ W1.heap.size from B.out.size)
  have LR1 := Lib.hid (blk_lt HR.out)
  replace HA := Lib.hid (blk_alloc HA.out (.cells #[.int .i64 X, .int .i64 Y, .int .i64 0, .int .i64 0, .int .i64 0, .int .i64 0, .int .i64 0, .int .i64 0] 44))
  replace HQ := Lib.hid (blk_alloc HQ.out (.cells #[.int .i64 X, .int .i64 Y, .int .i64 0, .int .i64 0, .int .i64 0, .int .i64 0, .int .i64 0, .int .i64 0] 44))
  replace HR := Lib.hid (blk_alloc HR.out (.cells #[.int .i64 X, .int .i64 Y, .int .i64 0, .int .i64 0, .int .i64 0, .int .i64 0, .int .i64 0, .int .i64 0] 44))
  replace HD := Lib.hid (blk_alloc HD.out (.cells #[.int .i64 X, .int .i64 Y, .int .i64 0, .int .i64 0, .int .i64 0, .int .i64 0, .int .i64 0, .int .i64 0] 44))
  have HG := Lib.hid (blk_new W1 (.cells #[.int .i64 X, .int .i64 Y, .int .i64 0, .int .i64 0, .int .i64 0, .int .i64 0, .int .i64 0, .int .i64 0] 44) (W1.heap.size) rfl)
  replace B := Lib.hid (belA B.out (.cells #[.int .i64 X, .int .i64 Y, .int .i64 0, .int .i64 0, .int .i64 0, .int .i64 0, .int .i64 0, .int .i64 0] 44))
  replace TT := Lib.hid (Tab.alloc TT.out (.cells #[.int .i64 X, .int .i64 Y, .int .i64 0, .int .i64 0, .int .i64 0, .int .i64 0, .int .i64 0, .int .i64 0] 44))
  generalize (W1.alloc (.cells #[.int .i64 X, .int .i64 Y, .int .i64 0, .int .i64 0, .int .i64 0, .int .i64 0, .int .i64 0, .int .i64 0] 44)) = W2 at *
  generalize hg : W1.heap.size = g at *
  have NG : Hid (w.heap.size ≤ g ∧ g ≠ r ∧ g ≠ d ∧ g ≠ a) := Lib.hid (by have := LD.out; have := LA.out; have := LZ.out; have := LR1.out; omega)
  clear hg LD LA LZ LR1
  go_wp2_with fail
  refine wp_loop_rounds 4 ?_
  rw [rounds_succ]
  go_wp2_with fail
  obtain ⟨sp, hsp⟩ : ∃ sp : ToldS, sp = [none, none, none, none, none, none, none, none, none, none, none, none, none, none, none, none, none, none, some (eqS (.int .i64 0)), some (eqS (.int .i64 1)), some (eqS (.int .i64 0)), some (eqS (.pointer (some ⟨g, 0, none⟩))), some (eqS (.agg #[.int .i64 X, .int .i64 Y])), some (eqS (.int .i64 0)), some (eqS (.pointer (some ⟨d, 0, none⟩))), some (eqS (.agg #[.int .i64 x1, .int .i64 y1, .int .i64 1])), some (eqS (.int .i64 0)), some (eqS (.pointer (some ⟨a, 2, none⟩))), some (eqS (.pointer (some ⟨a, 2, none⟩))), some (eqS (.int .i64 n0)), some (eqS (.agg #[.int .i64 (n0 * u1), .int .i64 (n0 * v1)])), some (eqS (.agg #[.int .i64 a1, .int .i64 b1])), some (eqS (.pointer (some ⟨g, 2, none⟩)))] := ⟨_, rfl⟩
  have s18 : sp.getD 18 none = some (eqS (.int .i64 0)) := by rw [hsp]; rfl
  have s19 : sp.getD 19 none = some (eqS (.int .i64 1)) := by rw [hsp]; rfl
  have s20 : sp.getD 20 none = some (eqS (.int .i64 0)) := by rw [hsp]; rfl
  have s21 : sp.getD 21 none = some (eqS (.pointer (some ⟨g, 0, none⟩))) := by rw [hsp]; rfl
  have s22 : sp.getD 22 none = some (eqS (.agg #[.int .i64 X, .int .i64 Y])) := by rw [hsp]; rfl
  have s23 : sp.getD 23 none = some (eqS (.int .i64 0)) := by rw [hsp]; rfl
  have s24 : sp.getD 24 none = some (eqS (.pointer (some ⟨d, 0, none⟩))) := by rw [hsp]; rfl
  have s25 : sp.getD 25 none = some (eqS (.agg #[.int .i64 x1, .int .i64 y1, .int .i64 1])) := by rw [hsp]; rfl
  have s26 : sp.getD 26 none = some (eqS (.int .i64 0)) := by rw [hsp]; rfl
  have s27 : sp.getD 27 none = some (eqS (.pointer (some ⟨a, 2, none⟩))) := by rw [hsp]; rfl
  have s28 : sp.getD 28 none = some (eqS (.pointer (some ⟨a, 2, none⟩))) := by rw [hsp]; rfl
  have s29 : sp.getD 29 none = some (eqS (.int .i64 n0)) := by rw [hsp]; rfl
  have s30 : sp.getD 30 none = some (eqS (.agg #[.int .i64 (n0 * u1), .int .i64 (n0 * v1)])) := by rw [hsp]; rfl
  have s31 : sp.getD 31 none = some (eqS (.agg #[.int .i64 a1, .int .i64 b1])) := by rw [hsp]; rfl
  have s32 : sp.getD 32 none = some (eqS (.pointer (some ⟨g, 2, none⟩))) := by rw [hsp]; rfl
  clear hsp
  refine (wpIn_wide (n := 0)).1 (region_headR (RtS sp) (rtS_keep sp) 15 rfl rfl rfl (by kernel_rfl) (by decide) (by kernel_rfl) (by kernel_rfl) (by kernel_rfl) ?_ ?_)
  · intro Q'; show ObsR _ _ _ _ _ _ _ _ (List.take _ _); simp only [List.take_succ_cons, List.take_zero]
    refine obsR_cons ?_ ?_
    · intro T wx K hB hF hD hK
      have g7 : T[7]? = some (.int .i64 0) := hF 7 (freeM_of (by kernel_rfl))
      refine ob_yes (wanted_none rfl) ?_
      clear hF hD
      go_simp
      exact hK _ _ (Below.refl _ _) (rt_eqS s18)
    refine obsR_cons ?_ ?_
    · intro T wx K hB hF hD hK
      have g18 := get_eqS (hD 0 18 (by simp [Region.binds]) (by kernel_rfl)) s18
      refine ob_yes (wanted_none rfl) ?_
      clear hF hD
      go_simp
      exact hK _ _ (Below.refl _ _) (rt_eqS s19)
    refine obsR_cons ?_ ?_
    · intro T wx K hB hF hD hK
      have g7 : T[7]? = some (.int .i64 0) := hF 7 (freeM_of (by kernel_rfl))
      refine ob_yes (wanted_none rfl) ?_
      clear hF hD
      go_simp
      exact hK _ _ (Below.refl _ _) (rt_eqS s20)
    refine obsR_cons ?_ ?_
    · intro T wx K hB hF hD hK
      have g6 : T[6]? = some (.pointer (some ⟨g, 0, none⟩)) := hF 6 (freeM_of (by kernel_rfl))
      have g20 := get_eqS (hD 2 20 (by simp [Region.binds]) (by kernel_rfl)) s20
      refine ob_yes (wanted_none rfl) ?_
      clear hF hD
      go_simp
      exact hK _ _ (Below.refl _ _) (rt_eqS s21)
    refine obsR_cons ?_ ?_
    · intro T wx K hB hF hD hK
      have g21 := get_eqS (hD 3 21 (by simp [Region.binds]) (by kernel_rfl)) s21
      refine ob_yes (wanted_none rfl) ?_
      clear hF hD
      have c0 := blk_cell (blk_call HG.out hB) 0 _ rfl
      have c1 := blk_cell (blk_call HG.out hB) 1 _ rfl
      go_simp
      exact hK _ _ (Below.refl _ _) (rt_eqS s22)
    refine obsR_cons ?_ ?_
    · intro T wx K hB hF hD hK
      have g7 : T[7]? = some (.int .i64 0) := hF 7 (freeM_of (by kernel_rfl))
      refine ob_yes (wanted_none rfl) ?_
      clear hF hD
      go_simp
      exact hK _ _ (Below.refl _ _) (rt_eqS s23)
    refine obsR_cons ?_ ?_
    · intro T wx K hB hF hD hK
      have g5 : T[5]? = some (.pointer (some ⟨d, 0, none⟩)) := hF 5 (freeM_of (by kernel_rfl))
      have g23 := get_eqS (hD 5 23 (by simp [Region.binds]) (by kernel_rfl)) s23
      refine ob_yes (wanted_none rfl) ?_
      clear hF hD
      go_simp
      exact hK _ _ (Below.refl _ _) (rt_eqS s24)
    refine obsR_cons ?_ ?_
    · intro T wx K hB hF hD hK
      have g24 := get_eqS (hD 6 24 (by simp [Region.binds]) (by kernel_rfl)) s24
      refine ob_yes (wanted_none rfl) ?_
      clear hF hD
      have c0 := blk_cell (blk_call HD.out hB) 0 _ rfl
      have c1 := blk_cell (blk_call HD.out hB) 1 _ rfl
      have c2 := blk_cell (blk_call HD.out hB) 2 _ rfl
      go_simp
      exact hK _ _ (Below.refl _ _) (rt_eqS s25)
    refine obsR_cons ?_ ?_
    · intro T wx K hB hF hD hK
      have g7 : T[7]? = some (.int .i64 0) := hF 7 (freeM_of (by kernel_rfl))
      refine ob_yes (wanted_none rfl) ?_
      clear hF hD
      go_simp
      exact hK _ _ (Below.refl _ _) (rt_eqS s26)
    refine obsR_cons ?_ ?_
    · intro T wx K hB hF hD hK
      have g2 : T[2]? = some (.pointer (some ⟨a, 0, none⟩)) := hF 2 (freeM_of (by kernel_rfl))
      refine ob_yes (wanted_none rfl) ?_
      clear hF hD
      go_simp
      exact hK _ _ (Below.refl _ _) (rt_eqS s27)
    refine obsR_cons ?_ ?_
    · intro T wx K hB hF hD hK
      have g27 := get_eqS (hD 9 27 (by simp [Region.binds]) (by kernel_rfl)) s27
      have g26 := get_eqS (hD 8 26 (by simp [Region.binds]) (by kernel_rfl)) s26
      refine ob_yes (wanted_none rfl) ?_
      clear hF hD
      go_simp
      exact hK _ _ (Below.refl _ _) (rt_eqS s28)
    refine obsR_cons ?_ ?_
    · intro T wx K hB hF hD hK
      have g28 := get_eqS (hD 10 28 (by simp [Region.binds]) (by kernel_rfl)) s28
      refine ob_yes (wanted_none rfl) ?_
      clear hF hD
      have c0 := blk_cell (blk_call HA.out hB) 2 _ rfl
      go_simp
      exact hK _ _ (Below.refl _ _) (rt_eqS s29)
    refine obsR_cons ?_ ?_
    · intro T wx K hB hF hD hK
      have g25 := get_eqS (hD 7 25 (by simp [Region.binds]) (by kernel_rfl)) s25
      have g29 := get_eqS (hD 11 29 (by simp [Region.binds]) (by kernel_rfl)) s29
      refine ob_yes (wanted_none rfl) ?_
      clear hF hD
      go_simp
      refine (fine7_is x1 y1 1 n0 (n0 * u1) (n0 * v1) _ D1.out N0.out Hu1 Hv1).mono ?_; rintro e w9 ⟨rfl, hb⟩
      exact hK _ _ hb (rt_eqS s30)
    refine obsR_cons ?_ ?_
    · intro T wx K hB hF hD hK
      have g22 := get_eqS (hD 4 22 (by simp [Region.binds]) (by kernel_rfl)) s22
      have g30 := get_eqS (hD 12 30 (by simp [Region.binds]) (by kernel_rfl)) s30
      refine ob_yes (wanted_none rfl) ?_
      clear hF hD
      go_simp
      refine (plus_is X Y (n0 * u1) (n0 * v1) a1 b1 _ (Lib.hid P.out.g1.1) (Lib.hid P.out.g1.2) (by have := R.out; omega) (by have := R.out; omega)).mono ?_; rintro e w9 ⟨rfl, hb⟩
      exact hK _ _ hb (rt_eqS s31)
    refine obsR_cons ?_ ?_
    · intro T wx K hB hF hD hK
      have g6 : T[6]? = some (.pointer (some ⟨g, 0, none⟩)) := hF 6 (freeM_of (by kernel_rfl))
      have g19 := get_eqS (hD 1 19 (by simp [Region.binds]) (by kernel_rfl)) s19
      refine ob_yes (wanted_none rfl) ?_
      clear hF hD
      go_simp
      exact hK _ _ (Below.refl _ _) (rt_eqS s32)
    exact obsR_nil
  · intro T0 w8 hb8 hF hs hD
    have g18 := get_eqS (hD 0 18 (by decide) (by kernel_rfl)) s18
    have g19 := get_eqS (hD 1 19 (by decide) (by kernel_rfl)) s19
    have g20 := get_eqS (hD 2 20 (by decide) (by kernel_rfl)) s20
    have g21 := get_eqS (hD 3 21 (by decide) (by kernel_rfl)) s21
    have g22 := get_eqS (hD 4 22 (by decide) (by kernel_rfl)) s22
    have g23 := get_eqS (hD 5 23 (by decide) (by kernel_rfl)) s23
    have g24 := get_eqS (hD 6 24 (by decide) (by kernel_rfl)) s24
    have g25 := get_eqS (hD 7 25 (by decide) (by kernel_rfl)) s25
    have g26 := get_eqS (hD 8 26 (by decide) (by kernel_rfl)) s26
    have g27 := get_eqS (hD 9 27 (by decide) (by kernel_rfl)) s27
    have g28 := get_eqS (hD 10 28 (by decide) (by kernel_rfl)) s28
    have g29 := get_eqS (hD 11 29 (by decide) (by kernel_rfl)) s29
    have g30 := get_eqS (hD 12 30 (by decide) (by kernel_rfl)) s30
    have g31 := get_eqS (hD 13 31 (by decide) (by kernel_rfl)) s31
    have g32 := get_eqS (hD 14 32 (by decide) (by kernel_rfl)) s32
    have hT := conc [(18, .int .i64 0), (19, .int .i64 1), (20, .int .i64 0), (21, .pointer (some ⟨g, 0, none⟩)), (22, .agg #[.int .i64 X, .int .i64 Y]), (23, .int .i64 0), (24, .pointer (some ⟨d, 0, none⟩)), (25, .agg #[.int .i64 x1, .int .i64 y1, .int .i64 1]), (26, .int .i64 0), (27, .pointer (some ⟨a, 2, none⟩)), (28, .pointer (some ⟨a, 2, none⟩)), (29, .int .i64 n0), (30, .agg #[.int .i64 (n0 * u1), .int .i64 (n0 * v1)]), (31, .agg #[.int .i64 a1, .int .i64 b1]), (32, .pointer (some ⟨g, 2, none⟩))] hs hF (by simp only [List.forall_mem_cons]; exact ⟨g18, g19, g20, g21, g22, g23, g24, g25, g26, g27, g28, g29, g30, g31, g32, fun p hp => absurd hp List.not_mem_nil⟩) (by kernel_rfl)
    simp only [List.foldl, List.setIfInBounds_toArray, List.set_cons_succ, List.set_cons_zero] at hT
    subst hT
    clear hF hD hs g18 g19 g20 g21 g22 g23 g24 g25 g26 g27 g28 g29 g30 g31 g32 s18 s19 s20 s21 s22 s23 s24 s25 s26 s27 s28 s29 s30 s31 s32
    show wpOpsIn _ _ _ _ _ [15] _ _
    have f0 := blk_cell (blk_call HG.out hb8) 2 _ rfl
    have f1 := blk_cell (blk_call HG.out hb8) 3 _ rfl
    have f2 := blk_fz (blk_call HG.out hb8) 2
    have f3 := blk_fz (blk_call HG.out hb8) 3
    simp only [wpOpsIn]
    go_simp
    clear f0 f1 f2 f3
    replace HG := Lib.hid (blk_set (j := 3) (blk_set (j := 2) (blk_call HG.out hb8) (.int .i64 a1)) (.int .i64 b1))
    replace HR := Lib.hid (blk_other (j := 3) (blk_other (j := 2) (blk_call HR.out hb8) NG.out.2.1 (.int .i64 a1)) NG.out.2.1 (.int .i64 b1))
    replace HD := Lib.hid (blk_other (j := 3) (blk_other (j := 2) (blk_call HD.out hb8) NG.out.2.2.1 (.int .i64 a1)) NG.out.2.2.1 (.int .i64 b1))
    replace HA := Lib.hid (blk_other (j := 3) (blk_other (j := 2) (blk_call HA.out hb8) NG.out.2.2.2 (.int .i64 a1)) NG.out.2.2.2 (.int .i64 b1))
    replace B := Lib.hid (belS (p := ⟨g, 3, none⟩) (belS (p := ⟨g, 2, none⟩) (belT B.out hb8) NG.out.1 (.int .i64 a1)) NG.out.1 (.int .i64 b1))
    clear hb8
    generalize ((w8.setCell ⟨g, 2, none⟩ (.int .i64 a1)).setCell ⟨g, 3, none⟩ (.int .i64 b1)) = Z0 at *
    go_wp2_with fail
    rw [rounds_succ]
    go_wp2_with fail
    obtain ⟨sp, hsp⟩ : ∃ sp : ToldS, sp = [none, none, none, none, none, none, none, none, none, none, none, none, none, none, none, none, none, none, some (eqS (.int .i64 1)), some (eqS (.int .i64 2)), some (eqS (.int .i64 1)), some (eqS (.pointer (some ⟨g, 2, none⟩))), some (eqS (.agg #[.int .i64 a1, .int .i64 b1])), some (eqS (.int .i64 1)), some (eqS (.pointer (some ⟨d, 3, none⟩))), some (eqS (.agg #[.int .i64 x2, .int .i64 y2, .int .i64 2])), some (eqS (.int .i64 1)), some (eqS (.pointer (some ⟨a, 2, none⟩))), some (eqS (.pointer (some ⟨a, 3, none⟩))), some (eqS (.int .i64 n1)), some (eqS (.agg #[.int .i64 (n1 * u2), .int .i64 (n1 * v2)])), some (eqS (.agg #[.int .i64 a2, .int .i64 b2])), some (eqS (.pointer (some ⟨g, 4, none⟩)))] := ⟨_, rfl⟩
    have s18 : sp.getD 18 none = some (eqS (.int .i64 1)) := by rw [hsp]; rfl
    have s19 : sp.getD 19 none = some (eqS (.int .i64 2)) := by rw [hsp]; rfl
    have s20 : sp.getD 20 none = some (eqS (.int .i64 1)) := by rw [hsp]; rfl
    have s21 : sp.getD 21 none = some (eqS (.pointer (some ⟨g, 2, none⟩))) := by rw [hsp]; rfl
    have s22 : sp.getD 22 none = some (eqS (.agg #[.int .i64 a1, .int .i64 b1])) := by rw [hsp]; rfl
    have s23 : sp.getD 23 none = some (eqS (.int .i64 1)) := by rw [hsp]; rfl
    have s24 : sp.getD 24 none = some (eqS (.pointer (some ⟨d, 3, none⟩))) := by rw [hsp]; rfl
    have s25 : sp.getD 25 none = some (eqS (.agg #[.int .i64 x2, .int .i64 y2, .int .i64 2])) := by rw [hsp]; rfl
    have s26 : sp.getD 26 none = some (eqS (.int .i64 1)) := by rw [hsp]; rfl
    have s27 : sp.getD 27 none = some (eqS (.pointer (some ⟨a, 2, none⟩))) := by rw [hsp]; rfl
    have s28 : sp.getD 28 none = some (eqS (.pointer (some ⟨a, 3, none⟩))) := by rw [hsp]; rfl
    have s29 : sp.getD 29 none = some (eqS (.int .i64 n1)) := by rw [hsp]; rfl
    have s30 : sp.getD 30 none = some (eqS (.agg #[.int .i64 (n1 * u2), .int .i64 (n1 * v2)])) := by rw [hsp]; rfl
    have s31 : sp.getD 31 none = some (eqS (.agg #[.int .i64 a2, .int .i64 b2])) := by rw [hsp]; rfl
    have s32 : sp.getD 32 none = some (eqS (.pointer (some ⟨g, 4, none⟩))) := by rw [hsp]; rfl
    clear hsp
    refine (wpIn_wide (n := 0)).1 (region_headR (RtS sp) (rtS_keep sp) 15 rfl rfl rfl (by kernel_rfl) (by decide) (by kernel_rfl) (by kernel_rfl) (by kernel_rfl) ?_ ?_)
    · intro Q'; show ObsR _ _ _ _ _ _ _ _ (List.take _ _); simp only [List.take_succ_cons, List.take_zero]
      refine obsR_cons ?_ ?_
      · intro T wx K hB hF hD hK
        have g7 : T[7]? = some (.int .i64 1) := hF 7 (freeM_of (by kernel_rfl))
        refine ob_yes (wanted_none rfl) ?_
        clear hF hD
        go_simp
        exact hK _ _ (Below.refl _ _) (rt_eqS s18)
      refine obsR_cons ?_ ?_
      · intro T wx K hB hF hD hK
        have g18 := get_eqS (hD 0 18 (by simp [Region.binds]) (by kernel_rfl)) s18
        refine ob_yes (wanted_none rfl) ?_
        clear hF hD
        go_simp
        exact hK _ _ (Below.refl _ _) (rt_eqS s19)
      refine obsR_cons ?_ ?_
      · intro T wx K hB hF hD hK
        have g7 : T[7]? = some (.int .i64 1) := hF 7 (freeM_of (by kernel_rfl))
        refine ob_yes (wanted_none rfl) ?_
        clear hF hD
        go_simp
        exact hK _ _ (Below.refl _ _) (rt_eqS s20)
      refine obsR_cons ?_ ?_
      · intro T wx K hB hF hD hK
        have g6 : T[6]? = some (.pointer (some ⟨g, 0, none⟩)) := hF 6 (freeM_of (by kernel_rfl))
        have g20 := get_eqS (hD 2 20 (by simp [Region.binds]) (by kernel_rfl)) s20
        refine ob_yes (wanted_none rfl) ?_
        clear hF hD
        go_simp
        exact hK _ _ (Below.refl _ _) (rt_eqS s21)
      refine obsR_cons ?_ ?_
      · intro T wx K hB hF hD hK
        have g21 := get_eqS (hD 3 21 (by simp [Region.binds]) (by kernel_rfl)) s21
        refine ob_yes (wanted_none rfl) ?_
        clear hF hD
        have c0 := blk_cell (blk_call HG.out hB) 2 _ rfl
        have c1 := blk_cell (blk_call HG.out hB) 3 _ rfl
        go_simp
        exact hK _ _ (Below.refl _ _) (rt_eqS s22)
      refine obsR_cons ?_ ?_
      · intro T wx K hB hF hD hK
        have g7 : T[7]? = some (.int .i64 1) := hF 7 (freeM_of (by kernel_rfl))
        refine ob_yes (wanted_none rfl) ?_
        clear hF hD
        go_simp
        exact hK _ _ (Below.refl _ _) (rt_eqS s23)
      refine obsR_cons ?_ ?_
      · intro T wx K hB hF hD hK
        have g5 : T[5]? = some (.pointer (some ⟨d, 0, none⟩)) := hF 5 (freeM_of (by kernel_rfl))
        have g23 := get_eqS (hD 5 23 (by simp [Region.binds]) (by kernel_rfl)) s23
        refine ob_yes (wanted_none rfl) ?_
        clear hF hD
        go_simp
        exact hK _ _ (Below.refl _ _) (rt_eqS s24)
      refine obsR_cons ?_ ?_
      · intro T wx K hB hF hD hK
        have g24 := get_eqS (hD 6 24 (by simp [Region.binds]) (by kernel_rfl)) s24
        refine ob_yes (wanted_none rfl) ?_
        clear hF hD
        have c0 := blk_cell (blk_call HD.out hB) 3 _ rfl
        have c1 := blk_cell (blk_call HD.out hB) 4 _ rfl
        have c2 := blk_cell (blk_call HD.out hB) 5 _ rfl
        go_simp
        exact hK _ _ (Below.refl _ _) (rt_eqS s25)
      refine obsR_cons ?_ ?_
      · intro T wx K hB hF hD hK
        have g7 : T[7]? = some (.int .i64 1) := hF 7 (freeM_of (by kernel_rfl))
        refine ob_yes (wanted_none rfl) ?_
        clear hF hD
        go_simp
        exact hK _ _ (Below.refl _ _) (rt_eqS s26)
      refine obsR_cons ?_ ?_
      · intro T wx K hB hF hD hK
        have g2 : T[2]? = some (.pointer (some ⟨a, 0, none⟩)) := hF 2 (freeM_of (by kernel_rfl))
        refine ob_yes (wanted_none rfl) ?_
        clear hF hD
        go_simp
        exact hK _ _ (Below.refl _ _) (rt_eqS s27)
      refine obsR_cons ?_ ?_
      · intro T wx K hB hF hD hK
        have g27 := get_eqS (hD 9 27 (by simp [Region.binds]) (by kernel_rfl)) s27
        have g26 := get_eqS (hD 8 26 (by simp [Region.binds]) (by kernel_rfl)) s26
        refine ob_yes (wanted_none rfl) ?_
        clear hF hD
        go_simp
        exact hK _ _ (Below.refl _ _) (rt_eqS s28)
      refine obsR_cons ?_ ?_
      · intro T wx K hB hF hD hK
        have g28 := get_eqS (hD 10 28 (by simp [Region.binds]) (by kernel_rfl)) s28
        refine ob_yes (wanted_none rfl) ?_
        clear hF hD
        have c0 := blk_cell (blk_call HA.out hB) 3 _ rfl
        go_simp
        exact hK _ _ (Below.refl _ _) (rt_eqS s29)
      refine obsR_cons ?_ ?_
      · intro T wx K hB hF hD hK
        have g25 := get_eqS (hD 7 25 (by simp [Region.binds]) (by kernel_rfl)) s25
        have g29 := get_eqS (hD 11 29 (by simp [Region.binds]) (by kernel_rfl)) s29
        refine ob_yes (wanted_none rfl) ?_
        clear hF hD
        go_simp
        refine (fine7_is x2 y2 2 n1 (n1 * u2) (n1 * v2) _ D2.out N1.out Hu2 Hv2).mono ?_; rintro e w9 ⟨rfl, hb⟩
        exact hK _ _ hb (rt_eqS s30)
      refine obsR_cons ?_ ?_
      · intro T wx K hB hF hD hK
        have g22 := get_eqS (hD 4 22 (by simp [Region.binds]) (by kernel_rfl)) s22
        have g30 := get_eqS (hD 12 30 (by simp [Region.binds]) (by kernel_rfl)) s30
        refine ob_yes (wanted_none rfl) ?_
        clear hF hD
        go_simp
        refine (plus_is a1 b1 (n1 * u2) (n1 * v2) a2 b2 _ (Lib.hid P.out.g2.1) (Lib.hid P.out.g2.2) (by have := R.out; omega) (by have := R.out; omega)).mono ?_; rintro e w9 ⟨rfl, hb⟩
        exact hK _ _ hb (rt_eqS s31)
      refine obsR_cons ?_ ?_
      · intro T wx K hB hF hD hK
        have g6 : T[6]? = some (.pointer (some ⟨g, 0, none⟩)) := hF 6 (freeM_of (by kernel_rfl))
        have g19 := get_eqS (hD 1 19 (by simp [Region.binds]) (by kernel_rfl)) s19
        refine ob_yes (wanted_none rfl) ?_
        clear hF hD
        go_simp
        exact hK _ _ (Below.refl _ _) (rt_eqS s32)
      exact obsR_nil
    · intro T1 w8 hb8 hF hs hD
      have g18 := get_eqS (hD 0 18 (by decide) (by kernel_rfl)) s18
      have g19 := get_eqS (hD 1 19 (by decide) (by kernel_rfl)) s19
      have g20 := get_eqS (hD 2 20 (by decide) (by kernel_rfl)) s20
      have g21 := get_eqS (hD 3 21 (by decide) (by kernel_rfl)) s21
      have g22 := get_eqS (hD 4 22 (by decide) (by kernel_rfl)) s22
      have g23 := get_eqS (hD 5 23 (by decide) (by kernel_rfl)) s23
      have g24 := get_eqS (hD 6 24 (by decide) (by kernel_rfl)) s24
      have g25 := get_eqS (hD 7 25 (by decide) (by kernel_rfl)) s25
      have g26 := get_eqS (hD 8 26 (by decide) (by kernel_rfl)) s26
      have g27 := get_eqS (hD 9 27 (by decide) (by kernel_rfl)) s27
      have g28 := get_eqS (hD 10 28 (by decide) (by kernel_rfl)) s28
      have g29 := get_eqS (hD 11 29 (by decide) (by kernel_rfl)) s29
      have g30 := get_eqS (hD 12 30 (by decide) (by kernel_rfl)) s30
      have g31 := get_eqS (hD 13 31 (by decide) (by kernel_rfl)) s31
      have g32 := get_eqS (hD 14 32 (by decide) (by kernel_rfl)) s32
      have hT := conc [(18, .int .i64 1), (19, .int .i64 2), (20, .int .i64 1), (21, .pointer (some ⟨g, 2, none⟩)), (22, .agg #[.int .i64 a1, .int .i64 b1]), (23, .int .i64 1), (24, .pointer (some ⟨d, 3, none⟩)), (25, .agg #[.int .i64 x2, .int .i64 y2, .int .i64 2]), (26, .int .i64 1), (27, .pointer (some ⟨a, 2, none⟩)), (28, .pointer (some ⟨a, 3, none⟩)), (29, .int .i64 n1), (30, .agg #[.int .i64 (n1 * u2), .int .i64 (n1 * v2)]), (31, .agg #[.int .i64 a2, .int .i64 b2]), (32, .pointer (some ⟨g, 4, none⟩))] hs hF (by simp only [List.forall_mem_cons]; exact ⟨g18, g19, g20, g21, g22, g23, g24, g25, g26, g27, g28, g29, g30, g31, g32, fun p hp => absurd hp List.not_mem_nil⟩) (by kernel_rfl)
      simp only [List.foldl, List.setIfInBounds_toArray, List.set_cons_succ, List.set_cons_zero] at hT
      subst hT
      clear hF hD hs g18 g19 g20 g21 g22 g23 g24 g25 g26 g27 g28 g29 g30 g31 g32 s18 s19 s20 s21 s22 s23 s24 s25 s26 s27 s28 s29 s30 s31 s32
      show wpOpsIn _ _ _ _ _ [15] _ _
      have f0 := blk_cell (blk_call HG.out hb8) 4 _ rfl
      have f1 := blk_cell (blk_call HG.out hb8) 5 _ rfl
      have f2 := blk_fz (blk_call HG.out hb8) 4
      have f3 := blk_fz (blk_call HG.out hb8) 5
      simp only [wpOpsIn]
      go_simp
      clear f0 f1 f2 f3
      replace HG := Lib.hid (blk_set (j := 5) (blk_set (j := 4) (blk_call HG.out hb8) (.int .i64 a2)) (.int .i64 b2))
      replace HR := Lib.hid (blk_other (j := 5) (blk_other (j := 4) (blk_call HR.out hb8) NG.out.2.1 (.int .i64 a2)) NG.out.2.1 (.int .i64 b2))
      replace HD := Lib.hid (blk_other (j := 5) (blk_other (j := 4) (blk_call HD.out hb8) NG.out.2.2.1 (.int .i64 a2)) NG.out.2.2.1 (.int .i64 b2))
      replace HA := Lib.hid (blk_other (j := 5) (blk_other (j := 4) (blk_call HA.out hb8) NG.out.2.2.2 (.int .i64 a2)) NG.out.2.2.2 (.int .i64 b2))
      replace B := Lib.hid (belS (p := ⟨g, 5, none⟩) (belS (p := ⟨g, 4, none⟩) (belT B.out hb8) NG.out.1 (.int .i64 a2)) NG.out.1 (.int .i64 b2))
      clear hb8
      generalize ((w8.setCell ⟨g, 4, none⟩ (.int .i64 a2)).setCell ⟨g, 5, none⟩ (.int .i64 b2)) = Z1 at *
      go_wp2_with fail
      rw [rounds_succ]
      go_wp2_with fail
      obtain ⟨sp, hsp⟩ : ∃ sp : ToldS, sp = [none, none, none, none, none, none, none, none, none, none, none, none, none, none, none, none, none, none, some (eqS (.int .i64 2)), some (eqS (.int .i64 3)), some (eqS (.int .i64 2)), some (eqS (.pointer (some ⟨g, 4, none⟩))), some (eqS (.agg #[.int .i64 a2, .int .i64 b2])), some (eqS (.int .i64 2)), some (eqS (.pointer (some ⟨d, 6, none⟩))), some (eqS (.agg #[.int .i64 x3, .int .i64 y3, .int .i64 3])), some (eqS (.int .i64 2)), some (eqS (.pointer (some ⟨a, 2, none⟩))), some (eqS (.pointer (some ⟨a, 4, none⟩))), some (eqS (.int .i64 n2)), some (eqS (.agg #[.int .i64 (n2 * u3), .int .i64 (n2 * v3)])), some (eqS (.agg #[.int .i64 a3, .int .i64 b3])), some (eqS (.pointer (some ⟨g, 6, none⟩)))] := ⟨_, rfl⟩
      have s18 : sp.getD 18 none = some (eqS (.int .i64 2)) := by rw [hsp]; rfl
      have s19 : sp.getD 19 none = some (eqS (.int .i64 3)) := by rw [hsp]; rfl
      have s20 : sp.getD 20 none = some (eqS (.int .i64 2)) := by rw [hsp]; rfl
      have s21 : sp.getD 21 none = some (eqS (.pointer (some ⟨g, 4, none⟩))) := by rw [hsp]; rfl
      have s22 : sp.getD 22 none = some (eqS (.agg #[.int .i64 a2, .int .i64 b2])) := by rw [hsp]; rfl
      have s23 : sp.getD 23 none = some (eqS (.int .i64 2)) := by rw [hsp]; rfl
      have s24 : sp.getD 24 none = some (eqS (.pointer (some ⟨d, 6, none⟩))) := by rw [hsp]; rfl
      have s25 : sp.getD 25 none = some (eqS (.agg #[.int .i64 x3, .int .i64 y3, .int .i64 3])) := by rw [hsp]; rfl
      have s26 : sp.getD 26 none = some (eqS (.int .i64 2)) := by rw [hsp]; rfl
      have s27 : sp.getD 27 none = some (eqS (.pointer (some ⟨a, 2, none⟩))) := by rw [hsp]; rfl
      have s28 : sp.getD 28 none = some (eqS (.pointer (some ⟨a, 4, none⟩))) := by rw [hsp]; rfl
      have s29 : sp.getD 29 none = some (eqS (.int .i64 n2)) := by rw [hsp]; rfl
      have s30 : sp.getD 30 none = some (eqS (.agg #[.int .i64 (n2 * u3), .int .i64 (n2 * v3)])) := by rw [hsp]; rfl
      have s31 : sp.getD 31 none = some (eqS (.agg #[.int .i64 a3, .int .i64 b3])) := by rw [hsp]; rfl
      have s32 : sp.getD 32 none = some (eqS (.pointer (some ⟨g, 6, none⟩))) := by rw [hsp]; rfl
      clear hsp
      refine (wpIn_wide (n := 0)).1 (region_headR (RtS sp) (rtS_keep sp) 15 rfl rfl rfl (by kernel_rfl) (by decide) (by kernel_rfl) (by kernel_rfl) (by kernel_rfl) ?_ ?_)
      · intro Q'; show ObsR _ _ _ _ _ _ _ _ (List.take _ _); simp only [List.take_succ_cons, List.take_zero]
        refine obsR_cons ?_ ?_
        · intro T wx K hB hF hD hK
          have g7 : T[7]? = some (.int .i64 2) := hF 7 (freeM_of (by kernel_rfl))
          refine ob_yes (wanted_none rfl) ?_
          clear hF hD
          go_simp
          exact hK _ _ (Below.refl _ _) (rt_eqS s18)
        refine obsR_cons ?_ ?_
        · intro T wx K hB hF hD hK
          have g18 := get_eqS (hD 0 18 (by simp [Region.binds]) (by kernel_rfl)) s18
          refine ob_yes (wanted_none rfl) ?_
          clear hF hD
          go_simp
          exact hK _ _ (Below.refl _ _) (rt_eqS s19)
        refine obsR_cons ?_ ?_
        · intro T wx K hB hF hD hK
          have g7 : T[7]? = some (.int .i64 2) := hF 7 (freeM_of (by kernel_rfl))
          refine ob_yes (wanted_none rfl) ?_
          clear hF hD
          go_simp
          exact hK _ _ (Below.refl _ _) (rt_eqS s20)
        refine obsR_cons ?_ ?_
        · intro T wx K hB hF hD hK
          have g6 : T[6]? = some (.pointer (some ⟨g, 0, none⟩)) := hF 6 (freeM_of (by kernel_rfl))
          have g20 := get_eqS (hD 2 20 (by simp [Region.binds]) (by kernel_rfl)) s20
          refine ob_yes (wanted_none rfl) ?_
          clear hF hD
          go_simp
          exact hK _ _ (Below.refl _ _) (rt_eqS s21)
        refine obsR_cons ?_ ?_
        · intro T wx K hB hF hD hK
          have g21 := get_eqS (hD 3 21 (by simp [Region.binds]) (by kernel_rfl)) s21
          refine ob_yes (wanted_none rfl) ?_
          clear hF hD
          have c0 := blk_cell (blk_call HG.out hB) 4 _ rfl
          have c1 := blk_cell (blk_call HG.out hB) 5 _ rfl
          go_simp
          exact hK _ _ (Below.refl _ _) (rt_eqS s22)
        refine obsR_cons ?_ ?_
        · intro T wx K hB hF hD hK
          have g7 : T[7]? = some (.int .i64 2) := hF 7 (freeM_of (by kernel_rfl))
          refine ob_yes (wanted_none rfl) ?_
          clear hF hD
          go_simp
          exact hK _ _ (Below.refl _ _) (rt_eqS s23)
        refine obsR_cons ?_ ?_
        · intro T wx K hB hF hD hK
          have g5 : T[5]? = some (.pointer (some ⟨d, 0, none⟩)) := hF 5 (freeM_of (by kernel_rfl))
          have g23 := get_eqS (hD 5 23 (by simp [Region.binds]) (by kernel_rfl)) s23
          refine ob_yes (wanted_none rfl) ?_
          clear hF hD
          go_simp
          exact hK _ _ (Below.refl _ _) (rt_eqS s24)
        refine obsR_cons ?_ ?_
        · intro T wx K hB hF hD hK
          have g24 := get_eqS (hD 6 24 (by simp [Region.binds]) (by kernel_rfl)) s24
          refine ob_yes (wanted_none rfl) ?_
          clear hF hD
          have c0 := blk_cell (blk_call HD.out hB) 6 _ rfl
          have c1 := blk_cell (blk_call HD.out hB) 7 _ rfl
          have c2 := blk_cell (blk_call HD.out hB) 8 _ rfl
          go_simp
          exact hK _ _ (Below.refl _ _) (rt_eqS s25)
        refine obsR_cons ?_ ?_
        · intro T wx K hB hF hD hK
          have g7 : T[7]? = some (.int .i64 2) := hF 7 (freeM_of (by kernel_rfl))
          refine ob_yes (wanted_none rfl) ?_
          clear hF hD
          go_simp
          exact hK _ _ (Below.refl _ _) (rt_eqS s26)
        refine obsR_cons ?_ ?_
        · intro T wx K hB hF hD hK
          have g2 : T[2]? = some (.pointer (some ⟨a, 0, none⟩)) := hF 2 (freeM_of (by kernel_rfl))
          refine ob_yes (wanted_none rfl) ?_
          clear hF hD
          go_simp
          exact hK _ _ (Below.refl _ _) (rt_eqS s27)
        refine obsR_cons ?_ ?_
        · intro T wx K hB hF hD hK
          have g27 := get_eqS (hD 9 27 (by simp [Region.binds]) (by kernel_rfl)) s27
          have g26 := get_eqS (hD 8 26 (by simp [Region.binds]) (by kernel_rfl)) s26
          refine ob_yes (wanted_none rfl) ?_
          clear hF hD
          go_simp
          exact hK _ _ (Below.refl _ _) (rt_eqS s28)
        refine obsR_cons ?_ ?_
        · intro T wx K hB hF hD hK
          have g28 := get_eqS (hD 10 28 (by simp [Region.binds]) (by kernel_rfl)) s28
          refine ob_yes (wanted_none rfl) ?_
          clear hF hD
          have c0 := blk_cell (blk_call HA.out hB) 4 _ rfl
          go_simp
          exact hK _ _ (Below.refl _ _) (rt_eqS s29)
        refine obsR_cons ?_ ?_
        · intro T wx K hB hF hD hK
          have g25 := get_eqS (hD 7 25 (by simp [Region.binds]) (by kernel_rfl)) s25
          have g29 := get_eqS (hD 11 29 (by simp [Region.binds]) (by kernel_rfl)) s29
          refine ob_yes (wanted_none rfl) ?_
          clear hF hD
          go_simp
          refine (fine7_is x3 y3 3 n2 (n2 * u3) (n2 * v3) _ D3.out N2.out Hu3 Hv3).mono ?_; rintro e w9 ⟨rfl, hb⟩
          exact hK _ _ hb (rt_eqS s30)
        refine obsR_cons ?_ ?_
        · intro T wx K hB hF hD hK
          have g22 := get_eqS (hD 4 22 (by simp [Region.binds]) (by kernel_rfl)) s22
          have g30 := get_eqS (hD 12 30 (by simp [Region.binds]) (by kernel_rfl)) s30
          refine ob_yes (wanted_none rfl) ?_
          clear hF hD
          go_simp
          refine (plus_is a2 b2 (n2 * u3) (n2 * v3) a3 b3 _ (Lib.hid P.out.g3.1) (Lib.hid P.out.g3.2) (by have := R.out; omega) (by have := R.out; omega)).mono ?_; rintro e w9 ⟨rfl, hb⟩
          exact hK _ _ hb (rt_eqS s31)
        refine obsR_cons ?_ ?_
        · intro T wx K hB hF hD hK
          have g6 : T[6]? = some (.pointer (some ⟨g, 0, none⟩)) := hF 6 (freeM_of (by kernel_rfl))
          have g19 := get_eqS (hD 1 19 (by simp [Region.binds]) (by kernel_rfl)) s19
          refine ob_yes (wanted_none rfl) ?_
          clear hF hD
          go_simp
          exact hK _ _ (Below.refl _ _) (rt_eqS s32)
        exact obsR_nil
      · intro T2 w8 hb8 hF hs hD
        have g18 := get_eqS (hD 0 18 (by decide) (by kernel_rfl)) s18
        have g19 := get_eqS (hD 1 19 (by decide) (by kernel_rfl)) s19
        have g20 := get_eqS (hD 2 20 (by decide) (by kernel_rfl)) s20
        have g21 := get_eqS (hD 3 21 (by decide) (by kernel_rfl)) s21
        have g22 := get_eqS (hD 4 22 (by decide) (by kernel_rfl)) s22
        have g23 := get_eqS (hD 5 23 (by decide) (by kernel_rfl)) s23
        have g24 := get_eqS (hD 6 24 (by decide) (by kernel_rfl)) s24
        have g25 := get_eqS (hD 7 25 (by decide) (by kernel_rfl)) s25
        have g26 := get_eqS (hD 8 26 (by decide) (by kernel_rfl)) s26
        have g27 := get_eqS (hD 9 27 (by decide) (by kernel_rfl)) s27
        have g28 := get_eqS (hD 10 28 (by decide) (by kernel_rfl)) s28
        have g29 := get_eqS (hD 11 29 (by decide) (by kernel_rfl)) s29
        have g30 := get_eqS (hD 12 30 (by decide) (by kernel_rfl)) s30
        have g31 := get_eqS (hD 13 31 (by decide) (by kernel_rfl)) s31
        have g32 := get_eqS (hD 14 32 (by decide) (by kernel_rfl)) s32
        have hT := conc [(18, .int .i64 2), (19, .int .i64 3), (20, .int .i64 2), (21, .pointer (some ⟨g, 4, none⟩)), (22, .agg #[.int .i64 a2, .int .i64 b2]), (23, .int .i64 2), (24, .pointer (some ⟨d, 6, none⟩)), (25, .agg #[.int .i64 x3, .int .i64 y3, .int .i64 3]), (26, .int .i64 2), (27, .pointer (some ⟨a, 2, none⟩)), (28, .pointer (some ⟨a, 4, none⟩)), (29, .int .i64 n2), (30, .agg #[.int .i64 (n2 * u3), .int .i64 (n2 * v3)]), (31, .agg #[.int .i64 a3, .int .i64 b3]), (32, .pointer (some ⟨g, 6, none⟩))] hs hF (by simp only [List.forall_mem_cons]; exact ⟨g18, g19, g20, g21, g22, g23, g24, g25, g26, g27, g28, g29, g30, g31, g32, fun p hp => absurd hp List.not_mem_nil⟩) (by kernel_rfl)
        simp only [List.foldl, List.setIfInBounds_toArray, List.set_cons_succ, List.set_cons_zero] at hT
        subst hT
        clear hF hD hs g18 g19 g20 g21 g22 g23 g24 g25 g26 g27 g28 g29 g30 g31 g32 s18 s19 s20 s21 s22 s23 s24 s25 s26 s27 s28 s29 s30 s31 s32
        show wpOpsIn _ _ _ _ _ [15] _ _
        have f0 := blk_cell (blk_call HG.out hb8) 6 _ rfl
        have f1 := blk_cell (blk_call HG.out hb8) 7 _ rfl
        have f2 := blk_fz (blk_call HG.out hb8) 6
        have f3 := blk_fz (blk_call HG.out hb8) 7
        simp only [wpOpsIn]
        go_simp
        clear f0 f1 f2 f3
        replace HG := Lib.hid (blk_set (j := 7) (blk_set (j := 6) (blk_call HG.out hb8) (.int .i64 a3)) (.int .i64 b3))
        replace HR := Lib.hid (blk_other (j := 7) (blk_other (j := 6) (blk_call HR.out hb8) NG.out.2.1 (.int .i64 a3)) NG.out.2.1 (.int .i64 b3))
        replace HD := Lib.hid (blk_other (j := 7) (blk_other (j := 6) (blk_call HD.out hb8) NG.out.2.2.1 (.int .i64 a3)) NG.out.2.2.1 (.int .i64 b3))
        replace HA := Lib.hid (blk_other (j := 7) (blk_other (j := 6) (blk_call HA.out hb8) NG.out.2.2.2 (.int .i64 a3)) NG.out.2.2.2 (.int .i64 b3))
        replace B := Lib.hid (belS (p := ⟨g, 7, none⟩) (belS (p := ⟨g, 6, none⟩) (belT B.out hb8) NG.out.1 (.int .i64 a3)) NG.out.1 (.int .i64 b3))
        clear hb8
        generalize ((w8.setCell ⟨g, 6, none⟩ (.int .i64 a3)).setCell ⟨g, 7, none⟩ (.int .i64 b3)) = Z2 at *
        go_wp2_with fail
        rw [rounds_succ]
        have e0 := blk_cell HG.out 0 _ rfl
        have r0 := blk_cell HR.out 0 _ rfl
        have j0 := blk_fz HR.out 0
        have e1 := blk_cell HG.out 1 _ rfl
        have r1 := blk_cell HR.out 1 _ rfl
        have j1 := blk_fz HR.out 1
        have e2 := blk_cell HG.out 2 _ rfl
        have r2 := blk_cell HR.out 2 _ rfl
        have j2 := blk_fz HR.out 2
        have e3 := blk_cell HG.out 3 _ rfl
        have r3 := blk_cell HR.out 3 _ rfl
        have j3 := blk_fz HR.out 3
        have e4 := blk_cell HG.out 4 _ rfl
        have r4 := blk_cell HR.out 4 _ rfl
        have j4 := blk_fz HR.out 4
        have e5 := blk_cell HG.out 5 _ rfl
        have r5 := blk_cell HR.out 5 _ rfl
        have j5 := blk_fz HR.out 5
        have e6 := blk_cell HG.out 6 _ rfl
        have r6 := blk_cell HR.out 6 _ rfl
        have j6 := blk_fz HR.out 6
        have e7 := blk_cell HG.out 7 _ rfl
        have r7 := blk_cell HR.out 7 _ rfl
        have j7 := blk_fz HR.out 7
        go_wp2_with fail
        clear e0 r0 j0 e1 r1 j1 e2 r2 j2 e3 r3 j3 e4 r4 j4 e5 r5 j5 e6 r6 j6 e7 r7 j7
        have HZ0 : Hid (((((Z2.setCell ⟨r, 0, none⟩ (.int .i64 X)).setCell ⟨r, 1, none⟩ (.int .i64 Y)).setCell ⟨r, 2, none⟩ (.int .i64 a1)).setCell ⟨r, 3, none⟩ (.int .i64 b1)).heap[r]? = some (.cells #[.int .i64 X, .int .i64 Y, .int .i64 a1, .int .i64 b1, .int .i64 0, .int .i64 0, .int .i64 0, .int .i64 0] 44 (0, 0))) := Lib.hid (blk_set (blk_set (blk_set (blk_set HR.out _) _) _) _)
        have HZ1 : Hid (((((((((Z2.setCell ⟨r, 0, none⟩ (.int .i64 X)).setCell ⟨r, 1, none⟩ (.int .i64 Y)).setCell ⟨r, 2, none⟩ (.int .i64 a1)).setCell ⟨r, 3, none⟩ (.int .i64 b1)).setCell ⟨r, 4, none⟩ (.int .i64 a2)).setCell ⟨r, 5, none⟩ (.int .i64 b2)).setCell ⟨r, 6, none⟩ (.int .i64 a3)).setCell ⟨r, 7, none⟩ (.int .i64 b3)).heap[r]? = some (.cells #[.int .i64 X, .int .i64 Y, .int .i64 a1, .int .i64 b1, .int .i64 a2, .int .i64 b2, .int .i64 a3, .int .i64 b3] 44 (0, 0))) := Lib.hid (blk_set (blk_set (blk_set (blk_set HZ0.out _) _) _) _)
        replace B : Hid (Below w.heap.size w ((((((((Z2.setCell ⟨r, 0, none⟩ (.int .i64 X)).setCell ⟨r, 1, none⟩ (.int .i64 Y)).setCell ⟨r, 2, none⟩ (.int .i64 a1)).setCell ⟨r, 3, none⟩ (.int .i64 b1)).setCell ⟨r, 4, none⟩ (.int .i64 a2)).setCell ⟨r, 5, none⟩ (.int .i64 b2)).setCell ⟨r, 6, none⟩ (.int .i64 a3)).setCell ⟨r, 7, none⟩ (.int .i64 b3))) := Lib.hid (belS (belS (belS (belS (belS (belS (belS (belS B.out NR.out.1 _) NR.out.1 _) NR.out.1 _) NR.out.1 _) NR.out.1 _) NR.out.1 _) NR.out.1 _) NR.out.1 _)
        generalize ((((((((Z2.setCell ⟨r, 0, none⟩ (.int .i64 X)).setCell ⟨r, 1, none⟩ (.int .i64 Y)).setCell ⟨r, 2, none⟩ (.int .i64 a1)).setCell ⟨r, 3, none⟩ (.int .i64 b1)).setCell ⟨r, 4, none⟩ (.int .i64 a2)).setCell ⟨r, 5, none⟩ (.int .i64 b2)).setCell ⟨r, 6, none⟩ (.int .i64 a3)).setCell ⟨r, 7, none⟩ (.int .i64 b3)) = W4 at *
        clear HZ0
        have r0 := blk_cell HZ1.out 0 _ rfl
        have r1 := blk_cell HZ1.out 1 _ rfl
        have r2 := blk_cell HZ1.out 2 _ rfl
        have r3 := blk_cell HZ1.out 3 _ rfl
        have r4 := blk_cell HZ1.out 4 _ rfl
        have r5 := blk_cell HZ1.out 5 _ rfl
        have r6 := blk_cell HZ1.out 6 _ rfl
        have r7 := blk_cell HZ1.out 7 _ rfl
        refine bodyPost_ret (v := .agg #[.int .i64 X, .int .i64 Y, .int .i64 a1, .int .i64 b1, .int .i64 a2, .int .i64 b2, .int .i64 a3, .int .i64 b3]) (by simp [results, Tryd.results38, go_sem, r0, r1, r2, r3, r4, r5, r6, r7]) rfl ?_
        exact ⟨rfl, B.out⟩
end Go.Proofs.YtceejjamngplkaaDoor
