/- Contract of the reference of layer 7: Links. -/
import Derived.Test.YtalhkcmlacppjaaDoorAmR
namespace Go.Proofs.YtalhkcmlacppjaaDoor
open Go.ChangeShapes Go.WideShapes Go.ChangeAt Go.RowKit
set_option linter.unusedVariables false
set_option linter.unusedSimpArgs false
set_option maxRecDepth 100000

theorem prow_lt4 {w : World} {g : Nat} {l : List (Int × Int)} (h : PRow w (some ⟨g, 0, none⟩) l) (hl : l ≠ []) : g < w.heap.size := by
  have h0 : 0 < l.length := List.length_pos_iff.2 hl
  obtain ⟨b, o, e, c1, _⟩ := h 0 h0
  cases e
  exact World.block_lt_of_cell? w _ c1
set_option maxHeartbeats 4000000 in
theorem rlinks_is (X Y n0 n1 n2 W l0 l1 l2 h0 h1 h2 : Int) (q0 q1 q2 : Int) (x1 x2 x3 y1 y2 y3 u1 u2 u3 v1 v2 v3 a1 a2 a3 b1 b2 b3 : Int) (L0 L1 L2 : List (Int × Int)) (w : World) (hT : Tab w) (k0 : -1000 ≤ q0 ∧ q0 ≤ 1000) (k1 : -1000 ≤ q1 ∧ q1 ≤ 1000) (k2 : -1000 ≤ q2 ∧ q2 ≤ 1000) (V : Hid (armB X Y n0 n1 n2 W l0 l1 l2 h0 h1 h2 = true)) (P : Hid (Pose X Y n0 n1 n2 q0 q1 q2 x1 x2 x3 y1 y2 y3 u1 u2 u3 v1 v2 v3 a1 a2 a3 b1 b2 b3))
    (E0 : Hid (bodL X Y a1 b1 (W * u1) (W * v1) = L0)) (E1 : Hid (bodL a1 b1 a2 b2 (W * u2) (W * v2) = L1)) (E2 : Hid (bodL a2 b2 a3 b3 (W * u3) (W * v3) = L2)) :
    Calls Tryd.prog 17 #[.agg #[.int .i64 X, .int .i64 Y, .int .i64 n0, .int .i64 n1, .int .i64 n2, .int .i64 W, .int .i64 l0, .int .i64 l1, .int .i64 l2, .int .i64 h0, .int .i64 h1, .int .i64 h2], .agg #[.int .i64 q0, .int .i64 q1, .int .i64 q2]] w fun e w' => (∃ g0 g1 g2, e = .returned (.agg #[.slice (some ⟨g0, 0, none⟩) 4 4, .slice (some ⟨g1, 0, none⟩) 4 4, .slice (some ⟨g2, 0, none⟩) 4 4]) ∧ PRow w' (some ⟨g0, 0, none⟩) L0 ∧ PRow w' (some ⟨g1, 0, none⟩) L1 ∧ PRow w' (some ⟨g2, 0, none⟩) L2) ∧ Below w.heap.size w w' := by
  have WB : Hid (-200 ≤ W ∧ W ≤ 200) := Lib.hid (by have := (armB_iff X Y n0 n1 n2 W l0 l1 l2 h0 h1 h2).1 V.out; omega)
  have PC := Lib.hid (pose_corn P.out V.out)
  have big : ∀ {l : List (Int × Int)}, (∀ p ∈ l, InV p.1 ∧ InV p.2) → ∀ p ∈ l, (-1000000000000 ≤ p.1 ∧ p.1 ≤ 1000000000000) ∧ -1000000000000 ≤ p.2 ∧ p.2 ≤ 1000000000000 := fun h p hp => by have := h p hp; unfold InV at this; omega
  have C0 := Lib.hid ((corn_of (big PC.out.1)).b)
  have C1 := Lib.hid ((corn_of (big PC.out.2.1)).b)
  have C2 := Lib.hid ((corn_of (big PC.out.2.2.1)).b)
  clear big
  have M1 : Hid ((-20000000 ≤ W * v1 ∧ W * v1 ≤ 20000000) ∧ -20000000 ≤ W * u1 ∧ W * u1 ≤ 20000000) := Lib.hid ⟨PC.out.2.2.2 (W * v1) (by simp), PC.out.2.2.2 (W * u1) (by simp)⟩
  have M2 : Hid ((-20000000 ≤ W * v2 ∧ W * v2 ≤ 20000000) ∧ -20000000 ≤ W * u2 ∧ W * u2 ≤ 20000000) := Lib.hid ⟨PC.out.2.2.2 (W * v2) (by simp), PC.out.2.2.2 (W * u2) (by simp)⟩
  have M3 : Hid ((-20000000 ≤ W * v3 ∧ W * v3 ≤ 20000000) ∧ -20000000 ≤ W * u3 ∧ W * u3 ≤ 20000000) := Lib.hid ⟨PC.out.2.2.2 (W * v3) (by simp), PC.out.2.2.2 (W * u3) (by simp)⟩
  have Hu1 : Hid (W * 16 * p65 (3 - 1) * x1 = W * u1) := Lib.hid (by rw [← P.out.f1.1, show p65 (3 - 1) = 4225 by decide]; grind)
  have Hv1 : Hid (W * 16 * p65 (3 - 1) * y1 = W * v1) := Lib.hid (by rw [← P.out.f1.2, show p65 (3 - 1) = 4225 by decide]; grind)
  have D1 : Hid (vdB x1 y1 1 = true) := Lib.hid (vd_one q0 x1 y1 (Lib.hid P.out.e1))
  have Hu2 : Hid (W * 16 * p65 (3 - 2) * x2 = W * u2) := Lib.hid (by rw [← P.out.f2.1, show p65 (3 - 2) = 65 by decide]; grind)
  have Hv2 : Hid (W * 16 * p65 (3 - 2) * y2 = W * v2) := Lib.hid (by rw [← P.out.f2.2, show p65 (3 - 2) = 65 by decide]; grind)
  have D2 : Hid (vdB x2 y2 2 = true) := Lib.hid (vd_two (x1, y1) q1 x2 y2 1 2 D1.out (by omega) rfl (Lib.hid P.out.e2))
  have Hu3 : Hid (W * 16 * p65 (3 - 3) * x3 = W * u3) := Lib.hid (by rw [← P.out.f3.1, show p65 (3 - 3) = 1 by decide]; grind)
  have Hv3 : Hid (W * 16 * p65 (3 - 3) * y3 = W * v3) := Lib.hid (by rw [← P.out.f3.2, show p65 (3 - 3) = 1 by decide]; grind)
  have D3 : Hid (vdB x3 y3 3 = true) := Lib.hid (vd_two (x2, y2) q2 x3 y3 2 3 D2.out (by omega) rfl (Lib.hid P.out.e3))
  go_enter Tryd.func17, Tryd.ntmps17
  have B := Lib.hid (Below.refl w.heap.size w)
  have TT := Lib.hid hT
  clear hT
  go_upto_region 1 with fail
  have HA := Lib.hid (blk_alloc (blk_alloc (blk_new w (.cells #[.int .i64 X, .int .i64 Y, .int .i64 n0, .int .i64 n1, .int .i64 n2, .int .i64 W, .int .i64 l0, .int .i64 l1, .int .i64 l2, .int .i64 h0, .int .i64 h1, .int .i64 h2] 27) (w.heap.size) rfl) (.cells #[.int .i64 q0, .int .i64 q1, .int .i64 q2] 25)) (.cells #[.slice none 0 0, .slice none 0 0, .slice none 0 0] 35))
  have HQ := Lib.hid (blk_alloc (blk_new (w.alloc (.cells #[.int .i64 X, .int .i64 Y, .int .i64 n0, .int .i64 n1, .int .i64 n2, .int .i64 W, .int .i64 l0, .int .i64 l1, .int .i64 l2, .int .i64 h0, .int .i64 h1, .int .i64 h2] 27)) (.cells #[.int .i64 q0, .int .i64 q1, .int .i64 q2] 25) (w.heap.size + 1) (by simp)) (.cells #[.slice none 0 0, .slice none 0 0, .slice none 0 0] 35))
  have HR := Lib.hid (blk_new ((w.alloc (.cells #[.int .i64 X, .int .i64 Y, .int .i64 n0, .int .i64 n1, .int .i64 n2, .int .i64 W, .int .i64 l0, .int .i64 l1, .int .i64 l2, .int .i64 h0, .int .i64 h1, .int .i64 h2] 27)).alloc (.cells #[.int .i64 q0, .int .i64 q1, .int .i64 q2] 25)) (.cells #[.slice none 0 0, .slice none 0 0, .slice none 0 0] 35) (w.heap.size + 1 + 1) (by simp))
  replace B := Lib.hid (belA (belA (belA B.out (.cells #[.int .i64 X, .int .i64 Y, .int .i64 n0, .int .i64 n1, .int .i64 n2, .int .i64 W, .int .i64 l0, .int .i64 l1, .int .i64 l2, .int .i64 h0, .int .i64 h1, .int .i64 h2] 27)) (.cells #[.int .i64 q0, .int .i64 q1, .int .i64 q2] 25)) (.cells #[.slice none 0 0, .slice none 0 0, .slice none 0 0] 35))
  replace TT := Lib.hid (Tab.alloc (Tab.alloc (Tab.alloc TT.out (.cells #[.int .i64 X, .int .i64 Y, .int .i64 n0, .int .i64 n1, .int .i64 n2, .int .i64 W, .int .i64 l0, .int .i64 l1, .int .i64 l2, .int .i64 h0, .int .i64 h1, .int .i64 h2] 27)) (.cells #[.int .i64 q0, .int .i64 q1, .int .i64 q2] 25)) (.cells #[.slice none 0 0, .slice none 0 0, .slice none 0 0] 35))
  generalize (((w.alloc (.cells #[.int .i64 X, .int .i64 Y, .int .i64 n0, .int .i64 n1, .int .i64 n2, .int .i64 W, .int .i64 l0, .int .i64 l1, .int .i64 l2, .int .i64 h0, .int .i64 h1, .int .i64 h2] 27)).alloc (.cells #[.int .i64 q0, .int .i64 q1, .int .i64 q2] 25)).alloc (.cells #[.slice none 0 0, .slice none 0 0, .slice none 0 0] 35)) = W0 at *
  obtain ⟨a, ha⟩ : ∃ z, w.heap.size = z := ⟨_, rfl⟩
  generalize hr : w.heap.size + 1 + 1 = r at *
  generalize hq : w.heap.size + 1 = q at *
  have NR : Hid (w.heap.size ≤ r ∧ a ≠ r) := Lib.hid (by omega)
  rw [ha] at HA ⊢
  clear ha hr hq
  have c0 := blk_cell HA.out 0 _ rfl
  have c1 := blk_cell HA.out 1 _ rfl
  have c2 := blk_cell HA.out 2 _ rfl
  have c3 := blk_cell HA.out 3 _ rfl
  have c4 := blk_cell HA.out 4 _ rfl
  have c5 := blk_cell HA.out 5 _ rfl
  have c6 := blk_cell HA.out 6 _ rfl
  have c7 := blk_cell HA.out 7 _ rfl
  have c8 := blk_cell HA.out 8 _ rfl
  have c9 := blk_cell HA.out 9 _ rfl
  have c10 := blk_cell HA.out 10 _ rfl
  have c11 := blk_cell HA.out 11 _ rfl
  have d0 := blk_cell HQ.out 0 _ rfl
  have d1 := blk_cell HQ.out 1 _ rfl
  have d2 := blk_cell HQ.out 2 _ rfl
  go_wp2_with fail
  refine (dirsP_is X Y n0 n1 n2 W l0 l1 l2 h0 h1 h2 q0 q1 q2 x1 x2 x3 y1 y2 y3 u1 u2 u3 v1 v2 v3 a1 a2 a3 b1 b2 b3 _ TT.out k0 k1 k2 P).mono ?_
  rintro e w1 ⟨rfl, hb1⟩
  clear c0 c1 c2 c3 c4 c5 c6 c7 c8 c9 c10 c11 d0 d1 d2
  replace HA := Lib.hid (blk_call HA.out hb1)
  replace HQ := Lib.hid (blk_call HQ.out hb1)
  replace HR := Lib.hid (blk_call HR.out hb1)
  replace B := Lib.hid (belT B.out hb1)
  replace TT := Lib.hid (Tab.below TT.out hb1)
  clear hb1
  go_upto_region 2 with fail
  replace HA := Lib.hid (blk_alloc HA.out (.cells #[.int .i64 x1, .int .i64 y1, .int .i64 1, .int .i64 x2, .int .i64 y2, .int .i64 2, .int .i64 x3, .int .i64 y3, .int .i64 3] 42))
  replace HQ := Lib.hid (blk_alloc HQ.out (.cells #[.int .i64 x1, .int .i64 y1, .int .i64 1, .int .i64 x2, .int .i64 y2, .int .i64 2, .int .i64 x3, .int .i64 y3, .int .i64 3] 42))
  replace HR := Lib.hid (blk_alloc HR.out (.cells #[.int .i64 x1, .int .i64 y1, .int .i64 1, .int .i64 x2, .int .i64 y2, .int .i64 2, .int .i64 x3, .int .i64 y3, .int .i64 3] 42))
  have HD := Lib.hid (blk_new w1 (.cells #[.int .i64 x1, .int .i64 y1, .int .i64 1, .int .i64 x2, .int .i64 y2, .int .i64 2, .int .i64 x3, .int .i64 y3, .int .i64 3] 42) (w1.heap.size) rfl)
  replace B := Lib.hid (belA B.out (.cells #[.int .i64 x1, .int .i64 y1, .int .i64 1, .int .i64 x2, .int .i64 y2, .int .i64 2, .int .i64 x3, .int .i64 y3, .int .i64 3] 42))
  replace TT := Lib.hid (Tab.alloc TT.out (.cells #[.int .i64 x1, .int .i64 y1, .int .i64 1, .int .i64 x2, .int .i64 y2, .int .i64 2, .int .i64 x3, .int .i64 y3, .int .i64 3] 42))
  generalize (w1.alloc (.cells #[.int .i64 x1, .int .i64 y1, .int .i64 1, .int .i64 x2, .int .i64 y2, .int .i64 2, .int .i64 x3, .int .i64 y3, .int .i64 3] 42)) = W1 at *
  obtain ⟨d, e5⟩ : ∃ z, w1.heap.size = z := ⟨_, rfl⟩
  rw [e5] at HD ⊢
  clear e5
  have c0 := blk_cell HA.out 0 _ rfl
  have c1 := blk_cell HA.out 1 _ rfl
  have c2 := blk_cell HA.out 2 _ rfl
  have c3 := blk_cell HA.out 3 _ rfl
  have c4 := blk_cell HA.out 4 _ rfl
  have c5 := blk_cell HA.out 5 _ rfl
  have c6 := blk_cell HA.out 6 _ rfl
  have c7 := blk_cell HA.out 7 _ rfl
  have c8 := blk_cell HA.out 8 _ rfl
  have c9 := blk_cell HA.out 9 _ rfl
  have c10 := blk_cell HA.out 10 _ rfl
  have c11 := blk_cell HA.out 11 _ rfl
  have d0 := blk_cell HQ.out 0 _ rfl
  have d1 := blk_cell HQ.out 1 _ rfl
  have d2 := blk_cell HQ.out 2 _ rfl
  go_wp2_with fail
  refine (points_is X Y n0 n1 n2 W l0 l1 l2 h0 h1 h2 q0 q1 q2 x1 x2 x3 y1 y2 y3 u1 u2 u3 v1 v2 v3 a1 a2 a3 b1 b2 b3 _ TT.out k0 k1 k2 V P).mono ?_
  rintro e w2 ⟨rfl, hb2⟩
  clear c0 c1 c2 c3 c4 c5 c6 c7 c8 c9 c10 c11 d0 d1 d2
  replace HA := Lib.hid (blk_call HA.out hb2)
  replace HQ := Lib.hid (blk_call HQ.out hb2)
  replace HR := Lib.hid (blk_call HR.out hb2)
  replace HD := Lib.hid (blk_call HD.out hb2)
  replace B := Lib.hid (belT B.out hb2)
  replace TT := Lib.hid (Tab.below TT.out hb2)
  clear hb2
  go_upto_region 3 with fail
  replace HA := Lib.hid (blk_alloc HA.out (.cells #[.int .i64 X, .int .i64 Y, .int .i64 a1, .int .i64 b1, .int .i64 a2, .int .i64 b2, .int .i64 a3, .int .i64 b3] 44))
  replace HR := Lib.hid (blk_alloc HR.out (.cells #[.int .i64 X, .int .i64 Y, .int .i64 a1, .int .i64 b1, .int .i64 a2, .int .i64 b2, .int .i64 a3, .int .i64 b3] 44))
  replace HD := Lib.hid (blk_alloc HD.out (.cells #[.int .i64 X, .int .i64 Y, .int .i64 a1, .int .i64 b1, .int .i64 a2, .int .i64 b2, .int .i64 a3, .int .i64 b3] 44))
  have HG := Lib.hid (blk_new w2 (.cells #[.int .i64 X, .int .i64 Y, .int .i64 a1, .int .i64 b1, .int .i64 a2, .int .i64 b2, .int .i64 a3, .int .i64 b3] 44) (w2.heap.size) rfl)
  replace B := Lib.hid (belA B.out (.cells #[.int .i64 X, .int .i64 Y, .int .i64 a1, .int .i64 b1, .int .i64 a2, .int .i64 b2, .int .i64 a3, .int .i64 b3] 44))
  replace TT := Lib.hid (Tab.alloc TT.out (.cells #[.int .i64 X, .int .i64 Y, .int .i64 a1, .int .i64 b1, .int .i64 a2, .int .i64 b2, .int .i64 a3, .int .i64 b3] 44))
  generalize (w2.alloc (.cells #[.int .i64 X, .int .i64 Y, .int .i64 a1, .int .i64 b1, .int .i64 a2, .int .i64 b2, .int .i64 a3, .int .i64 b3] 44)) = W2 at *
  obtain ⟨g, e6⟩ : ∃ z, w2.heap.size = z := ⟨_, rfl⟩
  rw [e6] at HG ⊢
  clear e6
  go_upto_region 4 with fail
  have LD := Lib.hid (blk_lt HD.out)
  have LA := Lib.hid (blk_lt HA.out)
  have LG := Lib.hid (blk_lt HG.out)
  have LZ := Lib.hid (show w.heap.size ≤ W2.heap.size from B.out.size)
  have LR1 := Lib.hid (blk_lt HR.out)
  replace HA := Lib.hid (blk_alloc HA.out (.cells #[.slice none 0 0, .slice none 0 0, .slice none 0 0] 35))
  replace HR := Lib.hid (blk_alloc HR.out (.cells #[.slice none 0 0, .slice none 0 0, .slice none 0 0] 35))
  replace HD := Lib.hid (blk_alloc HD.out (.cells #[.slice none 0 0, .slice none 0 0, .slice none 0 0] 35))
  replace HG := Lib.hid (blk_alloc HG.out (.cells #[.slice none 0 0, .slice none 0 0, .slice none 0 0] 35))
  have HL := Lib.hid (blk_new W2 (.cells #[.slice none 0 0, .slice none 0 0, .slice none 0 0] 35) (W2.heap.size) rfl)
  replace B := Lib.hid (belA B.out (.cells #[.slice none 0 0, .slice none 0 0, .slice none 0 0] 35))
  replace TT := Lib.hid (Tab.alloc TT.out (.cells #[.slice none 0 0, .slice none 0 0, .slice none 0 0] 35))
  generalize (W2.alloc (.cells #[.slice none 0 0, .slice none 0 0, .slice none 0 0] 35)) = W3 at *
  generalize hl : W2.heap.size = t at *
  have NG : Hid (w.heap.size ≤ t ∧ t ≠ r ∧ t ≠ d ∧ t ≠ a ∧ t ≠ g) := Lib.hid (by have := LD.out; have := LA.out; have := LG.out; have := LZ.out; have := LR1.out; omega)
  clear hl LD LA LZ LR1 LG
  clear TT
  go_wp2_with fail
  refine wp_loop_rounds 4 ?_
  rw [rounds_succ]
  go_wp2_with fail
  obtain ⟨sp, hsp⟩ : ∃ sp : ToldS, sp = [none, none, none, none, none, none, none, none, none, some (newS W3.heap.size #[.int .i64 0, .int .i64 0] 23), none, none, none, none, none, none, none, none, none, none, none, none, none, some (eqS (.int .i64 0)), some (eqS (.pointer (some ⟨d, 0, none⟩))), some (eqS (.agg #[.int .i64 x1, .int .i64 y1, .int .i64 1])), some (eqS (.pointer (some ⟨a, 5, none⟩))), some (eqS (.int .i64 W)), some (eqS (.agg #[.int .i64 (W * u1), .int .i64 (W * v1)]))] := ⟨_, rfl⟩
  have s9 : sp.getD 9 none = some (newS W3.heap.size #[.int .i64 0, .int .i64 0] 23) := by rw [hsp]; rfl
  have s23 : sp.getD 23 none = some (eqS (.int .i64 0)) := by rw [hsp]; rfl
  have s24 : sp.getD 24 none = some (eqS (.pointer (some ⟨d, 0, none⟩))) := by rw [hsp]; rfl
  have s25 : sp.getD 25 none = some (eqS (.agg #[.int .i64 x1, .int .i64 y1, .int .i64 1])) := by rw [hsp]; rfl
  have s26 : sp.getD 26 none = some (eqS (.pointer (some ⟨a, 5, none⟩))) := by rw [hsp]; rfl
  have s27 : sp.getD 27 none = some (eqS (.int .i64 W)) := by rw [hsp]; rfl
  have s28 : sp.getD 28 none = some (eqS (.agg #[.int .i64 (W * u1), .int .i64 (W * v1)])) := by rw [hsp]; rfl
  clear hsp
  refine (wpIn_wide (n := 0)).1 (region_headR (RtS sp) (rtS_keep sp) 7 rfl rfl rfl (by kernel_rfl) (by decide) (by kernel_rfl) (by kernel_rfl) (by kernel_rfl) ?_ ?_)
  · intro Q'; show ObsR _ _ _ _ _ _ _ _ (List.take _ _); simp only [List.take_succ_cons, List.take_zero]
    refine obsR_cons ?_ ?_
    · intro T wx K hB hF hD hK
      have g8 : T[8]? = some (.int .i64 0) := hF 8 (freeM_of (by kernel_rfl))
      refine ob_yes (wanted_none rfl) ?_
      clear hF hD
      go_simp
      exact hK _ _ (Below.refl _ _) (rt_eqS s23)
    refine obsR_cons ?_ ?_
    · intro T wx K hB hF hD hK
      have g5 : T[5]? = some (.pointer (some ⟨d, 0, none⟩)) := hF 5 (freeM_of (by kernel_rfl))
      have g23 := get_eqS (hD 0 23 (by simp [Region.binds]) (by kernel_rfl)) s23
      refine ob_yes (wanted_none rfl) ?_
      clear hF hD
      go_simp
      exact hK _ _ (Below.refl _ _) (rt_eqS s24)
    refine obsR_cons ?_ ?_
    · intro T wx K hB hF hD hK
      have g24 := get_eqS (hD 1 24 (by simp [Region.binds]) (by kernel_rfl)) s24
      refine ob_yes (wanted_none rfl) ?_
      clear hF hD
      have c0 := blk_cell (blk_call HD.out hB) 0 _ rfl
      have c1 := blk_cell (blk_call HD.out hB) 1 _ rfl
      have c2 := blk_cell (blk_call HD.out hB) 2 _ rfl
      go_simp
      exact hK _ _ (Below.refl _ _) (rt_eqS s25)
    refine obsR_cons ?_ ?_
    · intro T wx K hB hF hD hK
      have g2 : T[2]? = some (.pointer (some ⟨a, 0, none⟩)) := hF 2 (freeM_of (by kernel_rfl))
      refine ob_yes (wanted_none rfl) ?_
      clear hF hD
      go_simp
      exact hK _ _ (Below.refl _ _) (rt_eqS s26)
    refine obsR_cons ?_ ?_
    · intro T wx K hB hF hD hK
      have g26 := get_eqS (hD 3 26 (by simp [Region.binds]) (by kernel_rfl)) s26
      refine ob_yes (wanted_none rfl) ?_
      clear hF hD
      have c0 := blk_cell (blk_call HA.out hB) 5 _ rfl
      go_simp
      exact hK _ _ (Below.refl _ _) (rt_eqS s27)
    refine obsR_cons ?_ ?_
    · intro T wx K hB hF hD hK
      have g25 := get_eqS (hD 2 25 (by simp [Region.binds]) (by kernel_rfl)) s25
      have g27 := get_eqS (hD 4 27 (by simp [Region.binds]) (by kernel_rfl)) s27
      refine ob_yes (wanted_none rfl) ?_
      clear hF hD
      go_simp
      refine (fine7_is x1 y1 1 W (W * u1) (W * v1) _ D1.out WB.out Hu1 Hv1).mono ?_; rintro e w9 ⟨rfl, hb⟩
      exact hK _ _ hb (rt_eqS s28)
    refine obsR_cons ?_ ?_
    · intro T wx K hB hF hD hK
      refine ob_yes (wanted_none rfl) ?_
      clear hF hD
      go_simp
      exact hK _ _ (belA (Below.refl _ _) _) (rt_S s9 ⟨_, rfl, hB.size, blk_new _ _ _ rfl⟩)
    exact obsR_nil
  · intro T0 w8 hb8 hF hs hD
    have g23 := get_eqS (hD 0 23 (by decide) (by kernel_rfl)) s23
    have g24 := get_eqS (hD 1 24 (by decide) (by kernel_rfl)) s24
    have g25 := get_eqS (hD 2 25 (by decide) (by kernel_rfl)) s25
    have g26 := get_eqS (hD 3 26 (by decide) (by kernel_rfl)) s26
    have g27 := get_eqS (hD 4 27 (by decide) (by kernel_rfl)) s27
    have g28 := get_eqS (hD 5 28 (by decide) (by kernel_rfl)) s28
    obtain ⟨v9, g9, p9⟩ := getS (hD 6 9 (by decide) (by kernel_rfl)) s9
    have hT := conc [(23, .int .i64 0), (24, .pointer (some ⟨d, 0, none⟩)), (25, .agg #[.int .i64 x1, .int .i64 y1, .int .i64 1]), (26, .pointer (some ⟨a, 5, none⟩)), (27, .int .i64 W), (28, .agg #[.int .i64 (W * u1), .int .i64 (W * v1)]), (9, v9)] hs hF (by simp only [List.forall_mem_cons]; exact ⟨g23, g24, g25, g26, g27, g28, g9, fun p hp => absurd hp List.not_mem_nil⟩) (by kernel_rfl)
    simp only [List.foldl, List.setIfInBounds_toArray, List.set_cons_succ, List.set_cons_zero] at hT
    subst hT
    clear hF hD hs g23 g24 g25 g26 g27 g28 g9 s9 s23 s24 s25 s26 s27 s28
    show wpOpsIn _ _ _ _ _ [7] _ _
    obtain ⟨s, rfl, hs, h9⟩ := p9
    have f0 := blk_cell h9 0 _ rfl
    have f1 := blk_cell h9 1 _ rfl
    have f2 := blk_fz h9 0
    have f3 := blk_fz h9 1
    simp only [wpOpsIn]
    go_simp
    clear f0 f1 f2 f3
    have ls : w.heap.size ≤ s := Nat.le_trans B.out.size hs
    have HS := Lib.hid (blk_set (j := 1) (blk_set (j := 0) h9 (.int .i64 (W * u1))) (.int .i64 (W * v1)))
    have neHA := blk_lt HA.out
    replace HA := Lib.hid (blk_other (j := 1) (blk_other (j := 0) (blk_call HA.out hb8) (show s ≠ _ by omega) (.int .i64 (W * u1))) (show s ≠ _ by omega) (.int .i64 (W * v1)))
    clear neHA
    have neHR := blk_lt HR.out
    replace HR := Lib.hid (blk_other (j := 1) (blk_other (j := 0) (blk_call HR.out hb8) (show s ≠ _ by omega) (.int .i64 (W * u1))) (show s ≠ _ by omega) (.int .i64 (W * v1)))
    clear neHR
    have neHD := blk_lt HD.out
    replace HD := Lib.hid (blk_other (j := 1) (blk_other (j := 0) (blk_call HD.out hb8) (show s ≠ _ by omega) (.int .i64 (W * u1))) (show s ≠ _ by omega) (.int .i64 (W * v1)))
    clear neHD
    have neHG := blk_lt HG.out
    replace HG := Lib.hid (blk_other (j := 1) (blk_other (j := 0) (blk_call HG.out hb8) (show s ≠ _ by omega) (.int .i64 (W * u1))) (show s ≠ _ by omega) (.int .i64 (W * v1)))
    clear neHG
    have neHL := blk_lt HL.out
    replace HL := Lib.hid (blk_other (j := 1) (blk_other (j := 0) (blk_call HL.out hb8) (show s ≠ _ by omega) (.int .i64 (W * u1))) (show s ≠ _ by omega) (.int .i64 (W * v1)))
    clear neHL
    replace B := Lib.hid (belS (p := ⟨s, 1, none⟩) (belS (p := ⟨s, 0, none⟩) (belT B.out hb8) ls (.int .i64 (W * u1))) ls (.int .i64 (W * v1)))
    clear hb8 hs h9 ls
    generalize ((w8.setCell ⟨s, 0, none⟩ (.int .i64 (W * u1))).setCell ⟨s, 1, none⟩ (.int .i64 (W * v1))) = Y0 at *
    have m1 := M1.out
    have c0 := blk_cell HS.out 0 _ rfl
    have c1 := blk_cell HS.out 1 _ rfl
    go_upto_region 9 with fail
    clear c0 c1
    have c0 := blk_cell (blk_alloc HS.out (.cells #[.int .i64 (-(W * v1)), .int .i64 (W * u1)] 23)) 0 _ rfl
    have c1 := blk_cell (blk_alloc HS.out (.cells #[.int .i64 (-(W * v1)), .int .i64 (W * u1)] 23)) 1 _ rfl
    go_upto_region 10 with fail
    clear m1 c0 c1
    replace HA := Lib.hid (blk_alloc (blk_alloc HA.out (.cells #[.int .i64 (-(W * v1)), .int .i64 (W * u1)] 23)) (.cells #[.int .i64 (W * v1), .int .i64 (-(W * u1))] 23))
    replace HR := Lib.hid (blk_alloc (blk_alloc HR.out (.cells #[.int .i64 (-(W * v1)), .int .i64 (W * u1)] 23)) (.cells #[.int .i64 (W * v1), .int .i64 (-(W * u1))] 23))
    replace HD := Lib.hid (blk_alloc (blk_alloc HD.out (.cells #[.int .i64 (-(W * v1)), .int .i64 (W * u1)] 23)) (.cells #[.int .i64 (W * v1), .int .i64 (-(W * u1))] 23))
    replace HG := Lib.hid (blk_alloc (blk_alloc HG.out (.cells #[.int .i64 (-(W * v1)), .int .i64 (W * u1)] 23)) (.cells #[.int .i64 (W * v1), .int .i64 (-(W * u1))] 23))
    replace HL := Lib.hid (blk_alloc (blk_alloc HL.out (.cells #[.int .i64 (-(W * v1)), .int .i64 (W * u1)] 23)) (.cells #[.int .i64 (W * v1), .int .i64 (-(W * u1))] 23))
    replace HS := Lib.hid (blk_alloc (blk_alloc HS.out (.cells #[.int .i64 (-(W * v1)), .int .i64 (W * u1)] 23)) (.cells #[.int .i64 (W * v1), .int .i64 (-(W * u1))] 23))
    have H10 := Lib.hid (blk_alloc (blk_new Y0 (.cells #[.int .i64 (-(W * v1)), .int .i64 (W * u1)] 23) (Y0.heap.size) rfl) (.cells #[.int .i64 (W * v1), .int .i64 (-(W * u1))] 23))
    have H11 := Lib.hid (blk_new (Y0.alloc (.cells #[.int .i64 (-(W * v1)), .int .i64 (W * u1)] 23)) (.cells #[.int .i64 (W * v1), .int .i64 (-(W * u1))] 23) (Y0.heap.size + 1) (by simp))
    replace B := Lib.hid (belA (belA B.out (.cells #[.int .i64 (-(W * v1)), .int .i64 (W * u1)] 23)) (.cells #[.int .i64 (W * v1), .int .i64 (-(W * u1))] 23))
    generalize ((Y0.alloc (.cells #[.int .i64 (-(W * v1)), .int .i64 (W * u1)] 23)).alloc (.cells #[.int .i64 (W * v1), .int .i64 (-(W * u1))] 23)) = X0 at *
    generalize hu : Y0.heap.size + 1 = s11 at *
    generalize hv : Y0.heap.size = s10 at *
    clear hu hv
    obtain ⟨sp, hsp⟩ : ∃ sp : ToldS, sp = [none, none, none, none, none, none, none, none, none, none, none, none, none, none, none, none, none, none, none, none, none, none, none, none, none, none, none, none, none, none, none, none, none, none, none, none, none, none, none, none, none, some (eqS (.int .i64 0)), some (eqS (.int .i64 0)), some (eqS (.pointer (some ⟨g, 0, none⟩))), some (eqS (.agg #[.int .i64 X, .int .i64 Y])), some (eqS (.agg #[.int .i64 (W * v1), .int .i64 (-(W * u1))])), some (eqS (.agg #[.int .i64 (X + W * v1), .int .i64 (Y - W * u1)])), some (eqS (.int .i64 0)), some (eqS (.int .i64 1)), some (eqS (.pointer (some ⟨g, 2, none⟩))), some (eqS (.agg #[.int .i64 a1, .int .i64 b1])), some (eqS (.agg #[.int .i64 (W * v1), .int .i64 (-(W * u1))])), some (eqS (.agg #[.int .i64 (a1 + W * v1), .int .i64 (b1 - W * u1)])), some (eqS (.int .i64 0)), some (eqS (.int .i64 1)), some (eqS (.pointer (some ⟨g, 2, none⟩))), some (eqS (.agg #[.int .i64 a1, .int .i64 b1])), some (eqS (.agg #[.int .i64 (-(W * v1)), .int .i64 (W * u1)])), some (eqS (.agg #[.int .i64 (a1 - W * v1), .int .i64 (b1 + W * u1)])), some (eqS (.int .i64 0)), some (eqS (.pointer (some ⟨g, 0, none⟩))), some (eqS (.agg #[.int .i64 X, .int .i64 Y])), some (eqS (.agg #[.int .i64 (-(W * v1)), .int .i64 (W * u1)])), some (eqS (.agg #[.int .i64 (X - W * v1), .int .i64 (Y + W * u1)])), some (row4 L0), some (eqS (.pointer (some ⟨t, 0, none⟩)))] := ⟨_, rfl⟩
    have s41 : sp.getD 41 none = some (eqS (.int .i64 0)) := by rw [hsp]; rfl
    have s42 : sp.getD 42 none = some (eqS (.int .i64 0)) := by rw [hsp]; rfl
    have s43 : sp.getD 43 none = some (eqS (.pointer (some ⟨g, 0, none⟩))) := by rw [hsp]; rfl
    have s44 : sp.getD 44 none = some (eqS (.agg #[.int .i64 X, .int .i64 Y])) := by rw [hsp]; rfl
    have s45 : sp.getD 45 none = some (eqS (.agg #[.int .i64 (W * v1), .int .i64 (-(W * u1))])) := by rw [hsp]; rfl
    have s46 : sp.getD 46 none = some (eqS (.agg #[.int .i64 (X + W * v1), .int .i64 (Y - W * u1)])) := by rw [hsp]; rfl
    have s47 : sp.getD 47 none = some (eqS (.int .i64 0)) := by rw [hsp]; rfl
    have s48 : sp.getD 48 none = some (eqS (.int .i64 1)) := by rw [hsp]; rfl
    have s49 : sp.getD 49 none = some (eqS (.pointer (some ⟨g, 2, none⟩))) := by rw [hsp]; rfl
    have s50 : sp.getD 50 none = some (eqS (.agg #[.int .i64 a1, .int .i64 b1])) := by rw [hsp]; rfl
    have s51 : sp.getD 51 none = some (eqS (.agg #[.int .i64 (W * v1), .int .i64 (-(W * u1))])) := by rw [hsp]; rfl
    have s52 : sp.getD 52 none = some (eqS (.agg #[.int .i64 (a1 + W * v1), .int .i64 (b1 - W * u1)])) := by rw [hsp]; rfl
    have s53 : sp.getD 53 none = some (eqS (.int .i64 0)) := by rw [hsp]; rfl
    have s54 : sp.getD 54 none = some (eqS (.int .i64 1)) := by rw [hsp]; rfl
    have s55 : sp.getD 55 none = some (eqS (.pointer (some ⟨g, 2, none⟩))) := by rw [hsp]; rfl
    have s56 : sp.getD 56 none = some (eqS (.agg #[.int .i64 a1, .int .i64 b1])) := by rw [hsp]; rfl
    have s57 : sp.getD 57 none = some (eqS (.agg #[.int .i64 (-(W * v1)), .int .i64 (W * u1)])) := by rw [hsp]; rfl
    have s58 : sp.getD 58 none = some (eqS (.agg #[.int .i64 (a1 - W * v1), .int .i64 (b1 + W * u1)])) := by rw [hsp]; rfl
    have s59 : sp.getD 59 none = some (eqS (.int .i64 0)) := by rw [hsp]; rfl
    have s60 : sp.getD 60 none = some (eqS (.pointer (some ⟨g, 0, none⟩))) := by rw [hsp]; rfl
    have s61 : sp.getD 61 none = some (eqS (.agg #[.int .i64 X, .int .i64 Y])) := by rw [hsp]; rfl
    have s62 : sp.getD 62 none = some (eqS (.agg #[.int .i64 (-(W * v1)), .int .i64 (W * u1)])) := by rw [hsp]; rfl
    have s63 : sp.getD 63 none = some (eqS (.agg #[.int .i64 (X - W * v1), .int .i64 (Y + W * u1)])) := by rw [hsp]; rfl
    have s64 : sp.getD 64 none = some (row4 L0) := by rw [hsp]; rfl
    have s65 : sp.getD 65 none = some (eqS (.pointer (some ⟨t, 0, none⟩))) := by rw [hsp]; rfl
    clear hsp
    refine (wpIn_wide (n := 0)).1 (region_headR (RtS sp) (rtS_keep sp) 25 rfl rfl rfl (by kernel_rfl) (by decide) (by kernel_rfl) (by kernel_rfl) (by kernel_rfl) ?_ ?_)
    · intro Q'; show ObsR _ _ _ _ _ _ _ _ (List.take _ _); simp only [List.take_succ_cons, List.take_zero]
      refine obsR_cons ?_ ?_
      · intro T wx K hB hF hD hK
        have g8 : T[8]? = some (.int .i64 0) := hF 8 (freeM_of (by kernel_rfl))
        refine ob_yes (wanted_none rfl) ?_
        clear hF hD
        go_simp
        exact hK _ _ (Below.refl _ _) (rt_eqS s41)
      refine obsR_cons ?_ ?_
      · intro T wx K hB hF hD hK
        have g8 : T[8]? = some (.int .i64 0) := hF 8 (freeM_of (by kernel_rfl))
        refine ob_yes (wanted_none rfl) ?_
        clear hF hD
        go_simp
        exact hK _ _ (Below.refl _ _) (rt_eqS s42)
      refine obsR_cons ?_ ?_
      · intro T wx K hB hF hD hK
        have g6 : T[6]? = some (.pointer (some ⟨g, 0, none⟩)) := hF 6 (freeM_of (by kernel_rfl))
        have g42 := get_eqS (hD 1 42 (by simp [Region.binds]) (by kernel_rfl)) s42
        refine ob_yes (wanted_none rfl) ?_
        clear hF hD
        go_simp
        exact hK _ _ (Below.refl _ _) (rt_eqS s43)
      refine obsR_cons ?_ ?_
      · intro T wx K hB hF hD hK
        have g43 := get_eqS (hD 2 43 (by simp [Region.binds]) (by kernel_rfl)) s43
        refine ob_yes (wanted_none rfl) ?_
        clear hF hD
        have c0 := blk_cell (blk_call HG.out hB) 0 _ rfl
        have c1 := blk_cell (blk_call HG.out hB) 1 _ rfl
        go_simp
        exact hK _ _ (Below.refl _ _) (rt_eqS s44)
      refine obsR_cons ?_ ?_
      · intro T wx K hB hF hD hK
        have g11 : T[11]? = some (.pointer (some ⟨s11, 0, none⟩)) := hF 11 (freeM_of (by kernel_rfl))
        refine ob_yes (wanted_none rfl) ?_
        clear hF hD
        have c0 := blk_cell (blk_call H11.out hB) 0 _ rfl
        have c1 := blk_cell (blk_call H11.out hB) 1 _ rfl
        go_simp
        exact hK _ _ (Below.refl _ _) (rt_eqS s45)
      refine obsR_cons ?_ ?_
      · intro T wx K hB hF hD hK
        have g44 := get_eqS (hD 3 44 (by simp [Region.binds]) (by kernel_rfl)) s44
        have g45 := get_eqS (hD 4 45 (by simp [Region.binds]) (by kernel_rfl)) s45
        refine ob_yes (wanted_none rfl) ?_
        clear hF hD
        go_simp
        refine (plus_is X Y (W * v1) (-(W * u1)) (X + W * v1) (Y - W * u1) _ (Lib.hid (by omega)) (Lib.hid (by omega)) (C0.out _ (by simp)) (C0.out _ (by simp))).mono ?_; rintro e w9 ⟨rfl, hb⟩
        exact hK _ _ hb (rt_eqS s46)
      refine obsR_cons ?_ ?_
      · intro T wx K hB hF hD hK
        have g8 : T[8]? = some (.int .i64 0) := hF 8 (freeM_of (by kernel_rfl))
        refine ob_yes (wanted_none rfl) ?_
        clear hF hD
        go_simp
        exact hK _ _ (Below.refl _ _) (rt_eqS s47)
      refine obsR_cons ?_ ?_
      · intro T wx K hB hF hD hK
        have g47 := get_eqS (hD 6 47 (by simp [Region.binds]) (by kernel_rfl)) s47
        refine ob_yes (wanted_none rfl) ?_
        clear hF hD
        go_simp
        exact hK _ _ (Below.refl _ _) (rt_eqS s48)
      refine obsR_cons ?_ ?_
      · intro T wx K hB hF hD hK
        have g6 : T[6]? = some (.pointer (some ⟨g, 0, none⟩)) := hF 6 (freeM_of (by kernel_rfl))
        have g48 := get_eqS (hD 7 48 (by simp [Region.binds]) (by kernel_rfl)) s48
        refine ob_yes (wanted_none rfl) ?_
        clear hF hD
        go_simp
        exact hK _ _ (Below.refl _ _) (rt_eqS s49)
      refine obsR_cons ?_ ?_
      · intro T wx K hB hF hD hK
        have g49 := get_eqS (hD 8 49 (by simp [Region.binds]) (by kernel_rfl)) s49
        refine ob_yes (wanted_none rfl) ?_
        clear hF hD
        have c0 := blk_cell (blk_call HG.out hB) 2 _ rfl
        have c1 := blk_cell (blk_call HG.out hB) 3 _ rfl
        go_simp
        exact hK _ _ (Below.refl _ _) (rt_eqS s50)
      refine obsR_cons ?_ ?_
      · intro T wx K hB hF hD hK
        have g11 : T[11]? = some (.pointer (some ⟨s11, 0, none⟩)) := hF 11 (freeM_of (by kernel_rfl))
        refine ob_yes (wanted_none rfl) ?_
        clear hF hD
        have c0 := blk_cell (blk_call H11.out hB) 0 _ rfl
        have c1 := blk_cell (blk_call H11.out hB) 1 _ rfl
        go_simp
        exact hK _ _ (Below.refl _ _) (rt_eqS s51)
      refine obsR_cons ?_ ?_
      · intro T wx K hB hF hD hK
        have g50 := get_eqS (hD 9 50 (by simp [Region.binds]) (by kernel_rfl)) s50
        have g51 := get_eqS (hD 10 51 (by simp [Region.binds]) (by kernel_rfl)) s51
        refine ob_yes (wanted_none rfl) ?_
        clear hF hD
        go_simp
        refine (plus_is a1 b1 (W * v1) (-(W * u1)) (a1 + W * v1) (b1 - W * u1) _ (Lib.hid (by omega)) (Lib.hid (by omega)) (C0.out _ (by simp)) (C0.out _ (by simp))).mono ?_; rintro e w9 ⟨rfl, hb⟩
        exact hK _ _ hb (rt_eqS s52)
      refine obsR_cons ?_ ?_
      · intro T wx K hB hF hD hK
        have g8 : T[8]? = some (.int .i64 0) := hF 8 (freeM_of (by kernel_rfl))
        refine ob_yes (wanted_none rfl) ?_
        clear hF hD
        go_simp
        exact hK _ _ (Below.refl _ _) (rt_eqS s53)
      refine obsR_cons ?_ ?_
      · intro T wx K hB hF hD hK
        have g53 := get_eqS (hD 12 53 (by simp [Region.binds]) (by kernel_rfl)) s53
        refine ob_yes (wanted_none rfl) ?_
        clear hF hD
        go_simp
        exact hK _ _ (Below.refl _ _) (rt_eqS s54)
      refine obsR_cons ?_ ?_
      · intro T wx K hB hF hD hK
        have g6 : T[6]? = some (.pointer (some ⟨g, 0, none⟩)) := hF 6 (freeM_of (by kernel_rfl))
        have g54 := get_eqS (hD 13 54 (by simp [Region.binds]) (by kernel_rfl)) s54
        refine ob_yes (wanted_none rfl) ?_
        clear hF hD
        go_simp
        exact hK _ _ (Below.refl _ _) (rt_eqS s55)
      refine obsR_cons ?_ ?_
      · intro T wx K hB hF hD hK
        have g55 := get_eqS (hD 14 55 (by simp [Region.binds]) (by kernel_rfl)) s55
        refine ob_yes (wanted_none rfl) ?_
        clear hF hD
        have c0 := blk_cell (blk_call HG.out hB) 2 _ rfl
        have c1 := blk_cell (blk_call HG.out hB) 3 _ rfl
        go_simp
        exact hK _ _ (Below.refl _ _) (rt_eqS s56)
      refine obsR_cons ?_ ?_
      · intro T wx K hB hF hD hK
        have g10 : T[10]? = some (.pointer (some ⟨s10, 0, none⟩)) := hF 10 (freeM_of (by kernel_rfl))
        refine ob_yes (wanted_none rfl) ?_
        clear hF hD
        have c0 := blk_cell (blk_call H10.out hB) 0 _ rfl
        have c1 := blk_cell (blk_call H10.out hB) 1 _ rfl
        go_simp
        exact hK _ _ (Below.refl _ _) (rt_eqS s57)
      refine obsR_cons ?_ ?_
      · intro T wx K hB hF hD hK
        have g56 := get_eqS (hD 15 56 (by simp [Region.binds]) (by kernel_rfl)) s56
        have g57 := get_eqS (hD 16 57 (by simp [Region.binds]) (by kernel_rfl)) s57
        refine ob_yes (wanted_none rfl) ?_
        clear hF hD
        go_simp
        refine (plus_is a1 b1 (-(W * v1)) (W * u1) (a1 - W * v1) (b1 + W * u1) _ (Lib.hid (by omega)) (Lib.hid (by omega)) (C0.out _ (by simp)) (C0.out _ (by simp))).mono ?_; rintro e w9 ⟨rfl, hb⟩
        exact hK _ _ hb (rt_eqS s58)
      refine obsR_cons ?_ ?_
      · intro T wx K hB hF hD hK
        have g8 : T[8]? = some (.int .i64 0) := hF 8 (freeM_of (by kernel_rfl))
        refine ob_yes (wanted_none rfl) ?_
        clear hF hD
        go_simp
        exact hK _ _ (Below.refl _ _) (rt_eqS s59)
      refine obsR_cons ?_ ?_
      · intro T wx K hB hF hD hK
        have g6 : T[6]? = some (.pointer (some ⟨g, 0, none⟩)) := hF 6 (freeM_of (by kernel_rfl))
        have g59 := get_eqS (hD 18 59 (by simp [Region.binds]) (by kernel_rfl)) s59
        refine ob_yes (wanted_none rfl) ?_
        clear hF hD
        go_simp
        exact hK _ _ (Below.refl _ _) (rt_eqS s60)
      refine obsR_cons ?_ ?_
      · intro T wx K hB hF hD hK
        have g60 := get_eqS (hD 19 60 (by simp [Region.binds]) (by kernel_rfl)) s60
        refine ob_yes (wanted_none rfl) ?_
        clear hF hD
        have c0 := blk_cell (blk_call HG.out hB) 0 _ rfl
        have c1 := blk_cell (blk_call HG.out hB) 1 _ rfl
        go_simp
        exact hK _ _ (Below.refl _ _) (rt_eqS s61)
      refine obsR_cons ?_ ?_
      · intro T wx K hB hF hD hK
        have g10 : T[10]? = some (.pointer (some ⟨s10, 0, none⟩)) := hF 10 (freeM_of (by kernel_rfl))
        refine ob_yes (wanted_none rfl) ?_
        clear hF hD
        have c0 := blk_cell (blk_call H10.out hB) 0 _ rfl
        have c1 := blk_cell (blk_call H10.out hB) 1 _ rfl
        go_simp
        exact hK _ _ (Below.refl _ _) (rt_eqS s62)
      refine obsR_cons ?_ ?_
      · intro T wx K hB hF hD hK
        have g61 := get_eqS (hD 20 61 (by simp [Region.binds]) (by kernel_rfl)) s61
        have g62 := get_eqS (hD 21 62 (by simp [Region.binds]) (by kernel_rfl)) s62
        refine ob_yes (wanted_none rfl) ?_
        clear hF hD
        go_simp
        refine (plus_is X Y (-(W * v1)) (W * u1) (X - W * v1) (Y + W * u1) _ (Lib.hid (by omega)) (Lib.hid (by omega)) (C0.out _ (by simp)) (C0.out _ (by simp))).mono ?_; rintro e w9 ⟨rfl, hb⟩
        exact hK _ _ hb (rt_eqS s63)
      refine obsR_cons ?_ ?_
      · intro T wx K hB hF hD hK
        have g46 := get_eqS (hD 5 46 (by simp [Region.binds]) (by kernel_rfl)) s46
        have g52 := get_eqS (hD 11 52 (by simp [Region.binds]) (by kernel_rfl)) s52
        have g58 := get_eqS (hD 17 58 (by simp [Region.binds]) (by kernel_rfl)) s58
        have g63 := get_eqS (hD 22 63 (by simp [Region.binds]) (by kernel_rfl)) s63
        refine ob_yes (wanted_none rfl) ?_
        clear hF hD
        go_simp
        exact hK _ _ (belA (Below.refl _ _) _) (rt_S s64 ⟨_, rfl, by rw [← E0.out]; exact prow_new _ _ _ _ rfl rfl⟩)
      refine obsR_cons ?_ ?_
      · intro T wx K hB hF hD hK
        have g7 : T[7]? = some (.pointer (some ⟨t, 0, none⟩)) := hF 7 (freeM_of (by kernel_rfl))
        have g41 := get_eqS (hD 0 41 (by simp [Region.binds]) (by kernel_rfl)) s41
        refine ob_yes (wanted_none rfl) ?_
        clear hF hD
        go_simp
        exact hK _ _ (Below.refl _ _) (rt_eqS s65)
      exact obsR_nil
    · intro S0 w8 hb8 hF hs hD
      have g41 := get_eqS (hD 0 41 (by decide) (by kernel_rfl)) s41
      have g42 := get_eqS (hD 1 42 (by decide) (by kernel_rfl)) s42
      have g43 := get_eqS (hD 2 43 (by decide) (by kernel_rfl)) s43
      have g44 := get_eqS (hD 3 44 (by decide) (by kernel_rfl)) s44
      have g45 := get_eqS (hD 4 45 (by decide) (by kernel_rfl)) s45
      have g46 := get_eqS (hD 5 46 (by decide) (by kernel_rfl)) s46
      have g47 := get_eqS (hD 6 47 (by decide) (by kernel_rfl)) s47
      have g48 := get_eqS (hD 7 48 (by decide) (by kernel_rfl)) s48
      have g49 := get_eqS (hD 8 49 (by decide) (by kernel_rfl)) s49
      have g50 := get_eqS (hD 9 50 (by decide) (by kernel_rfl)) s50
      have g51 := get_eqS (hD 10 51 (by decide) (by kernel_rfl)) s51
      have g52 := get_eqS (hD 11 52 (by decide) (by kernel_rfl)) s52
      have g53 := get_eqS (hD 12 53 (by decide) (by kernel_rfl)) s53
      have g54 := get_eqS (hD 13 54 (by decide) (by kernel_rfl)) s54
      have g55 := get_eqS (hD 14 55 (by decide) (by kernel_rfl)) s55
      have g56 := get_eqS (hD 15 56 (by decide) (by kernel_rfl)) s56
      have g57 := get_eqS (hD 16 57 (by decide) (by kernel_rfl)) s57
      have g58 := get_eqS (hD 17 58 (by decide) (by kernel_rfl)) s58
      have g59 := get_eqS (hD 18 59 (by decide) (by kernel_rfl)) s59
      have g60 := get_eqS (hD 19 60 (by decide) (by kernel_rfl)) s60
      have g61 := get_eqS (hD 20 61 (by decide) (by kernel_rfl)) s61
      have g62 := get_eqS (hD 21 62 (by decide) (by kernel_rfl)) s62
      have g63 := get_eqS (hD 22 63 (by decide) (by kernel_rfl)) s63
      obtain ⟨v64, g64, p64⟩ := getS (hD 23 64 (by decide) (by kernel_rfl)) s64
      have g65 := get_eqS (hD 24 65 (by decide) (by kernel_rfl)) s65
      have hT := conc [(41, .int .i64 0), (42, .int .i64 0), (43, .pointer (some ⟨g, 0, none⟩)), (44, .agg #[.int .i64 X, .int .i64 Y]), (45, .agg #[.int .i64 (W * v1), .int .i64 (-(W * u1))]), (46, .agg #[.int .i64 (X + W * v1), .int .i64 (Y - W * u1)]), (47, .int .i64 0), (48, .int .i64 1), (49, .pointer (some ⟨g, 2, none⟩)), (50, .agg #[.int .i64 a1, .int .i64 b1]), (51, .agg #[.int .i64 (W * v1), .int .i64 (-(W * u1))]), (52, .agg #[.int .i64 (a1 + W * v1), .int .i64 (b1 - W * u1)]), (53, .int .i64 0), (54, .int .i64 1), (55, .pointer (some ⟨g, 2, none⟩)), (56, .agg #[.int .i64 a1, .int .i64 b1]), (57, .agg #[.int .i64 (-(W * v1)), .int .i64 (W * u1)]), (58, .agg #[.int .i64 (a1 - W * v1), .int .i64 (b1 + W * u1)]), (59, .int .i64 0), (60, .pointer (some ⟨g, 0, none⟩)), (61, .agg #[.int .i64 X, .int .i64 Y]), (62, .agg #[.int .i64 (-(W * v1)), .int .i64 (W * u1)]), (63, .agg #[.int .i64 (X - W * v1), .int .i64 (Y + W * u1)]), (64, v64), (65, .pointer (some ⟨t, 0, none⟩))] hs hF (by simp only [List.forall_mem_cons]; exact ⟨g41, g42, g43, g44, g45, g46, g47, g48, g49, g50, g51, g52, g53, g54, g55, g56, g57, g58, g59, g60, g61, g62, g63, g64, g65, fun p hp => absurd hp List.not_mem_nil⟩) (by kernel_rfl)
      simp only [List.foldl, List.setIfInBounds_toArray, List.set_cons_succ, List.set_cons_zero] at hT
      subst hT
      clear hF hD hs g41 g42 g43 g44 g45 g46 g47 g48 g49 g50 g51 g52 g53 g54 g55 g56 g57 g58 g59 g60 g61 g62 g63 g64 g65 s41 s42 s43 s44 s45 s46 s47 s48 s49 s50 s51 s52 s53 s54 s55 s56 s57 s58 s59 s60 s61 s62 s63 s64 s65
      show wpOpsIn _ _ _ _ _ [25] _ _
      obtain ⟨g0, rfl, pr⟩ := p64
      have f0 := blk_cell (blk_call HL.out hb8) 0 _ rfl
      have f1 := blk_fz (blk_call HL.out hb8) 0
      simp only [wpOpsIn]
      go_simp
      clear f0 f1
      have hl8 := blk_call HL.out hb8
      have R0 := Lib.hid (prow_far (j := 0) pr (prow_notslice (E0.out ▸ pr) hl8) (.slice (some ⟨g0, 0, none⟩) 4 4))
      replace HR := Lib.hid (blk_other (j := 0) (blk_call HR.out hb8) NG.out.2.1 (.slice (some ⟨g0, 0, none⟩) 4 4))
      replace HD := Lib.hid (blk_other (j := 0) (blk_call HD.out hb8) NG.out.2.2.1 (.slice (some ⟨g0, 0, none⟩) 4 4))
      replace HA := Lib.hid (blk_other (j := 0) (blk_call HA.out hb8) NG.out.2.2.2.1 (.slice (some ⟨g0, 0, none⟩) 4 4))
      replace HG := Lib.hid (blk_other (j := 0) (blk_call HG.out hb8) NG.out.2.2.2.2 (.slice (some ⟨g0, 0, none⟩) 4 4))
      replace HL := Lib.hid (blk_set (j := 0) hl8 (.slice (some ⟨g0, 0, none⟩) 4 4))
      replace B := Lib.hid (belS (p := ⟨t, 0, none⟩) (belT B.out hb8) NG.out.1 (.slice (some ⟨g0, 0, none⟩) 4 4))
      clear hb8 hl8 pr HS H10 H11
      generalize (w8.setCell ⟨t, 0, none⟩ (.slice (some ⟨g0, 0, none⟩) 4 4)) = Z0 at *
      go_wp2_with fail
      rw [rounds_succ]
      go_wp2_with fail
      obtain ⟨sp, hsp⟩ : ∃ sp : ToldS, sp = [none, none, none, none, none, none, none, none, none, some (newS Z0.heap.size #[.int .i64 0, .int .i64 0] 23), none, none, none, none, none, none, none, none, none, none, none, none, none, some (eqS (.int .i64 1)), some (eqS (.pointer (some ⟨d, 3, none⟩))), some (eqS (.agg #[.int .i64 x2, .int .i64 y2, .int .i64 2])), some (eqS (.pointer (some ⟨a, 5, none⟩))), some (eqS (.int .i64 W)), some (eqS (.agg #[.int .i64 (W * u2), .int .i64 (W * v2)]))] := ⟨_, rfl⟩
      have s9 : sp.getD 9 none = some (newS Z0.heap.size #[.int .i64 0, .int .i64 0] 23) := by rw [hsp]; rfl
      have s23 : sp.getD 23 none = some (eqS (.int .i64 1)) := by rw [hsp]; rfl
      have s24 : sp.getD 24 none = some (eqS (.pointer (some ⟨d, 3, none⟩))) := by rw [hsp]; rfl
      have s25 : sp.getD 25 none = some (eqS (.agg #[.int .i64 x2, .int .i64 y2, .int .i64 2])) := by rw [hsp]; rfl
      have s26 : sp.getD 26 none = some (eqS (.pointer (some ⟨a, 5, none⟩))) := by rw [hsp]; rfl
      have s27 : sp.getD 27 none = some (eqS (.int .i64 W)) := by rw [hsp]; rfl
      have s28 : sp.getD 28 none = some (eqS (.agg #[.int .i64 (W * u2), .int .i64 (W * v2)])) := by rw [hsp]; rfl
      clear hsp
      refine (wpIn_wide (n := 0)).1 (region_headR (RtS sp) (rtS_keep sp) 7 rfl rfl rfl (by kernel_rfl) (by decide) (by kernel_rfl) (by kernel_rfl) (by kernel_rfl) ?_ ?_)
      · intro Q'; show ObsR _ _ _ _ _ _ _ _ (List.take _ _); simp only [List.take_succ_cons, List.take_zero]
        refine obsR_cons ?_ ?_
        · intro T wx K hB hF hD hK
          have g8 : T[8]? = some (.int .i64 1) := hF 8 (freeM_of (by kernel_rfl))
          refine ob_yes (wanted_none rfl) ?_
          clear hF hD
          go_simp
          exact hK _ _ (Below.refl _ _) (rt_eqS s23)
        refine obsR_cons ?_ ?_
        · intro T wx K hB hF hD hK
          have g5 : T[5]? = some (.pointer (some ⟨d, 0, none⟩)) := hF 5 (freeM_of (by kernel_rfl))
          have g23 := get_eqS (hD 0 23 (by simp [Region.binds]) (by kernel_rfl)) s23
          refine ob_yes (wanted_none rfl) ?_
          clear hF hD
          go_simp
          exact hK _ _ (Below.refl _ _) (rt_eqS s24)
        refine obsR_cons ?_ ?_
        · intro T wx K hB hF hD hK
          have g24 := get_eqS (hD 1 24 (by simp [Region.binds]) (by kernel_rfl)) s24
          refine ob_yes (wanted_none rfl) ?_
          clear hF hD
          have c0 := blk_cell (blk_call HD.out hB) 3 _ rfl
          have c1 := blk_cell (blk_call HD.out hB) 4 _ rfl
          have c2 := blk_cell (blk_call HD.out hB) 5 _ rfl
          go_simp
          exact hK _ _ (Below.refl _ _) (rt_eqS s25)
        refine obsR_cons ?_ ?_
        · intro T wx K hB hF hD hK
          have g2 : T[2]? = some (.pointer (some ⟨a, 0, none⟩)) := hF 2 (freeM_of (by kernel_rfl))
          refine ob_yes (wanted_none rfl) ?_
          clear hF hD
          go_simp
          exact hK _ _ (Below.refl _ _) (rt_eqS s26)
        refine obsR_cons ?_ ?_
        · intro T wx K hB hF hD hK
          have g26 := get_eqS (hD 3 26 (by simp [Region.binds]) (by kernel_rfl)) s26
          refine ob_yes (wanted_none rfl) ?_
          clear hF hD
          have c0 := blk_cell (blk_call HA.out hB) 5 _ rfl
          go_simp
          exact hK _ _ (Below.refl _ _) (rt_eqS s27)
        refine obsR_cons ?_ ?_
        · intro T wx K hB hF hD hK
          have g25 := get_eqS (hD 2 25 (by simp [Region.binds]) (by kernel_rfl)) s25
          have g27 := get_eqS (hD 4 27 (by simp [Region.binds]) (by kernel_rfl)) s27
          refine ob_yes (wanted_none rfl) ?_
          clear hF hD
          go_simp
          refine (fine7_is x2 y2 2 W (W * u2) (W * v2) _ D2.out WB.out Hu2 Hv2).mono ?_; rintro e w9 ⟨rfl, hb⟩
          exact hK _ _ hb (rt_eqS s28)
        refine obsR_cons ?_ ?_
        · intro T wx K hB hF hD hK
          refine ob_yes (wanted_none rfl) ?_
          clear hF hD
          go_simp
          exact hK _ _ (belA (Below.refl _ _) _) (rt_S s9 ⟨_, rfl, hB.size, blk_new _ _ _ rfl⟩)
        exact obsR_nil
      · intro T1 w8 hb8 hF hs hD
        have g23 := get_eqS (hD 0 23 (by decide) (by kernel_rfl)) s23
        have g24 := get_eqS (hD 1 24 (by decide) (by kernel_rfl)) s24
        have g25 := get_eqS (hD 2 25 (by decide) (by kernel_rfl)) s25
        have g26 := get_eqS (hD 3 26 (by decide) (by kernel_rfl)) s26
        have g27 := get_eqS (hD 4 27 (by decide) (by kernel_rfl)) s27
        have g28 := get_eqS (hD 5 28 (by decide) (by kernel_rfl)) s28
        obtain ⟨v9, g9, p9⟩ := getS (hD 6 9 (by decide) (by kernel_rfl)) s9
        have hT := conc [(23, .int .i64 1), (24, .pointer (some ⟨d, 3, none⟩)), (25, .agg #[.int .i64 x2, .int .i64 y2, .int .i64 2]), (26, .pointer (some ⟨a, 5, none⟩)), (27, .int .i64 W), (28, .agg #[.int .i64 (W * u2), .int .i64 (W * v2)]), (9, v9)] hs hF (by simp only [List.forall_mem_cons]; exact ⟨g23, g24, g25, g26, g27, g28, g9, fun p hp => absurd hp List.not_mem_nil⟩) (by kernel_rfl)
        simp only [List.foldl, List.setIfInBounds_toArray, List.set_cons_succ, List.set_cons_zero] at hT
        subst hT
        clear hF hD hs g23 g24 g25 g26 g27 g28 g9 s9 s23 s24 s25 s26 s27 s28
        show wpOpsIn _ _ _ _ _ [7] _ _
        obtain ⟨s, rfl, hs, h9⟩ := p9
        have f0 := blk_cell h9 0 _ rfl
        have f1 := blk_cell h9 1 _ rfl
        have f2 := blk_fz h9 0
        have f3 := blk_fz h9 1
        simp only [wpOpsIn]
        go_simp
        clear f0 f1 f2 f3
        have ls : w.heap.size ≤ s := Nat.le_trans B.out.size hs
        have HS := Lib.hid (blk_set (j := 1) (blk_set (j := 0) h9 (.int .i64 (W * u2))) (.int .i64 (W * v2)))
        have neHA := blk_lt HA.out
        replace HA := Lib.hid (blk_other (j := 1) (blk_other (j := 0) (blk_call HA.out hb8) (show s ≠ _ by omega) (.int .i64 (W * u2))) (show s ≠ _ by omega) (.int .i64 (W * v2)))
        clear neHA
        have neHR := blk_lt HR.out
        replace HR := Lib.hid (blk_other (j := 1) (blk_other (j := 0) (blk_call HR.out hb8) (show s ≠ _ by omega) (.int .i64 (W * u2))) (show s ≠ _ by omega) (.int .i64 (W * v2)))
        clear neHR
        have neHD := blk_lt HD.out
        replace HD := Lib.hid (blk_other (j := 1) (blk_other (j := 0) (blk_call HD.out hb8) (show s ≠ _ by omega) (.int .i64 (W * u2))) (show s ≠ _ by omega) (.int .i64 (W * v2)))
        clear neHD
        have neHG := blk_lt HG.out
        replace HG := Lib.hid (blk_other (j := 1) (blk_other (j := 0) (blk_call HG.out hb8) (show s ≠ _ by omega) (.int .i64 (W * u2))) (show s ≠ _ by omega) (.int .i64 (W * v2)))
        clear neHG
        have neHL := blk_lt HL.out
        replace HL := Lib.hid (blk_other (j := 1) (blk_other (j := 0) (blk_call HL.out hb8) (show s ≠ _ by omega) (.int .i64 (W * u2))) (show s ≠ _ by omega) (.int .i64 (W * v2)))
        clear neHL
        have neR0 := prow_lt4 (prow_below R0.out (Below.refl _ _)) (l := L0) (by rw [← E0.out]; exact List.cons_ne_nil _ _)
        replace R0 := Lib.hid (prow_far (j := 1) (prow_far (j := 0) (prow_below R0.out hb8) (show s ≠ _ by omega) (.int .i64 (W * u2))) (show s ≠ _ by omega) (.int .i64 (W * v2)))
        clear neR0
        replace B := Lib.hid (belS (p := ⟨s, 1, none⟩) (belS (p := ⟨s, 0, none⟩) (belT B.out hb8) ls (.int .i64 (W * u2))) ls (.int .i64 (W * v2)))
        clear hb8 hs h9 ls
        generalize ((w8.setCell ⟨s, 0, none⟩ (.int .i64 (W * u2))).setCell ⟨s, 1, none⟩ (.int .i64 (W * v2))) = Y1 at *
        have m1 := M2.out
        have c0 := blk_cell HS.out 0 _ rfl
        have c1 := blk_cell HS.out 1 _ rfl
        go_upto_region 9 with fail
        clear c0 c1
        have c0 := blk_cell (blk_alloc HS.out (.cells #[.int .i64 (-(W * v2)), .int .i64 (W * u2)] 23)) 0 _ rfl
        have c1 := blk_cell (blk_alloc HS.out (.cells #[.int .i64 (-(W * v2)), .int .i64 (W * u2)] 23)) 1 _ rfl
        go_upto_region 10 with fail
        clear m1 c0 c1
        replace HA := Lib.hid (blk_alloc (blk_alloc HA.out (.cells #[.int .i64 (-(W * v2)), .int .i64 (W * u2)] 23)) (.cells #[.int .i64 (W * v2), .int .i64 (-(W * u2))] 23))
        replace HR := Lib.hid (blk_alloc (blk_alloc HR.out (.cells #[.int .i64 (-(W * v2)), .int .i64 (W * u2)] 23)) (.cells #[.int .i64 (W * v2), .int .i64 (-(W * u2))] 23))
        replace HD := Lib.hid (blk_alloc (blk_alloc HD.out (.cells #[.int .i64 (-(W * v2)), .int .i64 (W * u2)] 23)) (.cells #[.int .i64 (W * v2), .int .i64 (-(W * u2))] 23))
        replace HG := Lib.hid (blk_alloc (blk_alloc HG.out (.cells #[.int .i64 (-(W * v2)), .int .i64 (W * u2)] 23)) (.cells #[.int .i64 (W * v2), .int .i64 (-(W * u2))] 23))
        replace HL := Lib.hid (blk_alloc (blk_alloc HL.out (.cells #[.int .i64 (-(W * v2)), .int .i64 (W * u2)] 23)) (.cells #[.int .i64 (W * v2), .int .i64 (-(W * u2))] 23))
        replace R0 := Lib.hid (prow_alloc (prow_alloc R0.out (.cells #[.int .i64 (-(W * v2)), .int .i64 (W * u2)] 23)) (.cells #[.int .i64 (W * v2), .int .i64 (-(W * u2))] 23))
        replace HS := Lib.hid (blk_alloc (blk_alloc HS.out (.cells #[.int .i64 (-(W * v2)), .int .i64 (W * u2)] 23)) (.cells #[.int .i64 (W * v2), .int .i64 (-(W * u2))] 23))
        have H10 := Lib.hid (blk_alloc (blk_new Y1 (.cells #[.int .i64 (-(W * v2)), .int .i64 (W * u2)] 23) (Y1.heap.size) rfl) (.cells #[.int .i64 (W * v2), .int .i64 (-(W * u2))] 23))
        have H11 := Lib.hid (blk_new (Y1.alloc (.cells #[.int .i64 (-(W * v2)), .int .i64 (W * u2)] 23)) (.cells #[.int .i64 (W * v2), .int .i64 (-(W * u2))] 23) (Y1.heap.size + 1) (by simp))
        replace B := Lib.hid (belA (belA B.out (.cells #[.int .i64 (-(W * v2)), .int .i64 (W * u2)] 23)) (.cells #[.int .i64 (W * v2), .int .i64 (-(W * u2))] 23))
        generalize ((Y1.alloc (.cells #[.int .i64 (-(W * v2)), .int .i64 (W * u2)] 23)).alloc (.cells #[.int .i64 (W * v2), .int .i64 (-(W * u2))] 23)) = X1 at *
        generalize hu : Y1.heap.size + 1 = s11 at *
        generalize hv : Y1.heap.size = s10 at *
        clear hu hv
        obtain ⟨sp, hsp⟩ : ∃ sp : ToldS, sp = [none, none, none, none, none, none, none, none, none, none, none, none, none, none, none, none, none, none, none, none, none, none, none, none, none, none, none, none, none, none, none, none, none, none, none, none, none, none, none, none, none, some (eqS (.int .i64 1)), some (eqS (.int .i64 1)), some (eqS (.pointer (some ⟨g, 2, none⟩))), some (eqS (.agg #[.int .i64 a1, .int .i64 b1])), some (eqS (.agg #[.int .i64 (W * v2), .int .i64 (-(W * u2))])), some (eqS (.agg #[.int .i64 (a1 + W * v2), .int .i64 (b1 - W * u2)])), some (eqS (.int .i64 1)), some (eqS (.int .i64 2)), some (eqS (.pointer (some ⟨g, 4, none⟩))), some (eqS (.agg #[.int .i64 a2, .int .i64 b2])), some (eqS (.agg #[.int .i64 (W * v2), .int .i64 (-(W * u2))])), some (eqS (.agg #[.int .i64 (a2 + W * v2), .int .i64 (b2 - W * u2)])), some (eqS (.int .i64 1)), some (eqS (.int .i64 2)), some (eqS (.pointer (some ⟨g, 4, none⟩))), some (eqS (.agg #[.int .i64 a2, .int .i64 b2])), some (eqS (.agg #[.int .i64 (-(W * v2)), .int .i64 (W * u2)])), some (eqS (.agg #[.int .i64 (a2 - W * v2), .int .i64 (b2 + W * u2)])), some (eqS (.int .i64 1)), some (eqS (.pointer (some ⟨g, 2, none⟩))), some (eqS (.agg #[.int .i64 a1, .int .i64 b1])), some (eqS (.agg #[.int .i64 (-(W * v2)), .int .i64 (W * u2)])), some (eqS (.agg #[.int .i64 (a1 - W * v2), .int .i64 (b1 + W * u2)])), some (row4 L1), some (eqS (.pointer (some ⟨t, 1, none⟩)))] := ⟨_, rfl⟩
        have s41 : sp.getD 41 none = some (eqS (.int .i64 1)) := by rw [hsp]; rfl
        have s42 : sp.getD 42 none = some (eqS (.int .i64 1)) := by rw [hsp]; rfl
        have s43 : sp.getD 43 none = some (eqS (.pointer (some ⟨g, 2, none⟩))) := by rw [hsp]; rfl
        have s44 : sp.getD 44 none = some (eqS (.agg #[.int .i64 a1, .int .i64 b1])) := by rw [hsp]; rfl
        have s45 : sp.getD 45 none = some (eqS (.agg #[.int .i64 (W * v2), .int .i64 (-(W * u2))])) := by rw [hsp]; rfl
        have s46 : sp.getD 46 none = some (eqS (.agg #[.int .i64 (a1 + W * v2), .int .i64 (b1 - W * u2)])) := by rw [hsp]; rfl
        have s47 : sp.getD 47 none = some (eqS (.int .i64 1)) := by rw [hsp]; rfl
        have s48 : sp.getD 48 none = some (eqS (.int .i64 2)) := by rw [hsp]; rfl
        have s49 : sp.getD 49 none = some (eqS (.pointer (some ⟨g, 4, none⟩))) := by rw [hsp]; rfl
        have s50 : sp.getD 50 none = some (eqS (.agg #[.int .i64 a2, .int .i64 b2])) := by rw [hsp]; rfl
        have s51 : sp.getD 51 none = some (eqS (.agg #[.int .i64 (W * v2), .int .i64 (-(W * u2))])) := by rw [hsp]; rfl
        have s52 : sp.getD 52 none = some (eqS (.agg #[.int .i64 (a2 + W * v2), .int .i64 (b2 - W * u2)])) := by rw [hsp]; rfl
        have s53 : sp.getD 53 none = some (eqS (.int .i64 1)) := by rw [hsp]; rfl
        have s54 : sp.getD 54 none = some (eqS (.int .i64 2)) := by rw [hsp]; rfl
        have s55 : sp.getD 55 none = some (eqS (.pointer (some ⟨g, 4, none⟩))) := by rw [hsp]; rfl
        have s56 : sp.getD 56 none = some (eqS (.agg #[.int .i64 a2, .int .i64 b2])) := by rw [hsp]; rfl
        have s57 : sp.getD 57 none = some (eqS (.agg #[.int .i64 (-(W * v2)), .int .i64 (W * u2)])) := by rw [hsp]; rfl
        have s58 : sp.getD 58 none = some (eqS (.agg #[.int .i64 (a2 - W * v2), .int .i64 (b2 + W * u2)])) := by rw [hsp]; rfl
        have s59 : sp.getD 59 none = some (eqS (.int .i64 1)) := by rw [hsp]; rfl
        have s60 : sp.getD 60 none = some (eqS (.pointer (some ⟨g, 2, none⟩))) := by rw [hsp]; rfl
        have s61 : sp.getD 61 none = some (eqS (.agg #[.int .i64 a1, .int .i64 b1])) := by rw [hsp]; rfl
        have s62 : sp.getD 62 none = some (eqS (.agg #[.int .i64 (-(W * v2)), .int .i64 (W * u2)])) := by rw [hsp]; rfl
        have s63 : sp.getD 63 none = some (eqS (.agg #[.int .i64 (a1 - W * v2), .int .i64 (b1 + W * u2)])) := by rw [hsp]; rfl
        have s64 : sp.getD 64 none = some (row4 L1) := by rw [hsp]; rfl
        have s65 : sp.getD 65 none = some (eqS (.pointer (some ⟨t, 1, none⟩))) := by rw [hsp]; rfl
        clear hsp
        refine (wpIn_wide (n := 0)).1 (region_headR (RtS sp) (rtS_keep sp) 25 rfl rfl rfl (by kernel_rfl) (by decide) (by kernel_rfl) (by kernel_rfl) (by kernel_rfl) ?_ ?_)
        · intro Q'; show ObsR _ _ _ _ _ _ _ _ (List.take _ _); simp only [List.take_succ_cons, List.take_zero]
          refine obsR_cons ?_ ?_
          · intro T wx K hB hF hD hK
            have g8 : T[8]? = some (.int .i64 1) := hF 8 (freeM_of (by kernel_rfl))
            refine ob_yes (wanted_none rfl) ?_
            clear hF hD
            go_simp
            exact hK _ _ (Below.refl _ _) (rt_eqS s41)
          refine obsR_cons ?_ ?_
          · intro T wx K hB hF hD hK
            have g8 : T[8]? = some (.int .i64 1) := hF 8 (freeM_of (by kernel_rfl))
            refine ob_yes (wanted_none rfl) ?_
            clear hF hD
            go_simp
            exact hK _ _ (Below.refl _ _) (rt_eqS s42)
          refine obsR_cons ?_ ?_
          · intro T wx K hB hF hD hK
            have g6 : T[6]? = some (.pointer (some ⟨g, 0, none⟩)) := hF 6 (freeM_of (by kernel_rfl))
            have g42 := get_eqS (hD 1 42 (by simp [Region.binds]) (by kernel_rfl)) s42
            refine ob_yes (wanted_none rfl) ?_
            clear hF hD
            go_simp
            exact hK _ _ (Below.refl _ _) (rt_eqS s43)
          refine obsR_cons ?_ ?_
          · intro T wx K hB hF hD hK
            have g43 := get_eqS (hD 2 43 (by simp [Region.binds]) (by kernel_rfl)) s43
            refine ob_yes (wanted_none rfl) ?_
            clear hF hD
            have c0 := blk_cell (blk_call HG.out hB) 2 _ rfl
            have c1 := blk_cell (blk_call HG.out hB) 3 _ rfl
            go_simp
            exact hK _ _ (Below.refl _ _) (rt_eqS s44)
          refine obsR_cons ?_ ?_
          · intro T wx K hB hF hD hK
            have g11 : T[11]? = some (.pointer (some ⟨s11, 0, none⟩)) := hF 11 (freeM_of (by kernel_rfl))
            refine ob_yes (wanted_none rfl) ?_
            clear hF hD
            have c0 := blk_cell (blk_call H11.out hB) 0 _ rfl
            have c1 := blk_cell (blk_call H11.out hB) 1 _ rfl
            go_simp
            exact hK _ _ (Below.refl _ _) (rt_eqS s45)
          refine obsR_cons ?_ ?_
          · intro T wx K hB hF hD hK
            have g44 := get_eqS (hD 3 44 (by simp [Region.binds]) (by kernel_rfl)) s44
            have g45 := get_eqS (hD 4 45 (by simp [Region.binds]) (by kernel_rfl)) s45
            refine ob_yes (wanted_none rfl) ?_
            clear hF hD
            go_simp
            refine (plus_is a1 b1 (W * v2) (-(W * u2)) (a1 + W * v2) (b1 - W * u2) _ (Lib.hid (by omega)) (Lib.hid (by omega)) (C1.out _ (by simp)) (C1.out _ (by simp))).mono ?_; rintro e w9 ⟨rfl, hb⟩
            exact hK _ _ hb (rt_eqS s46)
          refine obsR_cons ?_ ?_
          · intro T wx K hB hF hD hK
            have g8 : T[8]? = some (.int .i64 1) := hF 8 (freeM_of (by kernel_rfl))
            refine ob_yes (wanted_none rfl) ?_
            clear hF hD
            go_simp
            exact hK _ _ (Below.refl _ _) (rt_eqS s47)
          refine obsR_cons ?_ ?_
          · intro T wx K hB hF hD hK
            have g47 := get_eqS (hD 6 47 (by simp [Region.binds]) (by kernel_rfl)) s47
            refine ob_yes (wanted_none rfl) ?_
            clear hF hD
            go_simp
            exact hK _ _ (Below.refl _ _) (rt_eqS s48)
          refine obsR_cons ?_ ?_
          · intro T wx K hB hF hD hK
            have g6 : T[6]? = some (.pointer (some ⟨g, 0, none⟩)) := hF 6 (freeM_of (by kernel_rfl))
            have g48 := get_eqS (hD 7 48 (by simp [Region.binds]) (by kernel_rfl)) s48
            refine ob_yes (wanted_none rfl) ?_
            clear hF hD
            go_simp
            exact hK _ _ (Below.refl _ _) (rt_eqS s49)
          refine obsR_cons ?_ ?_
          · intro T wx K hB hF hD hK
            have g49 := get_eqS (hD 8 49 (by simp [Region.binds]) (by kernel_rfl)) s49
            refine ob_yes (wanted_none rfl) ?_
            clear hF hD
            have c0 := blk_cell (blk_call HG.out hB) 4 _ rfl
            have c1 := blk_cell (blk_call HG.out hB) 5 _ rfl
            go_simp
            exact hK _ _ (Below.refl _ _) (rt_eqS s50)
          refine obsR_cons ?_ ?_
          · intro T wx K hB hF hD hK
            have g11 : T[11]? = some (.pointer (some ⟨s11, 0, none⟩)) := hF 11 (freeM_of (by kernel_rfl))
            refine ob_yes (wanted_none rfl) ?_
            clear hF hD
            have c0 := blk_cell (blk_call H11.out hB) 0 _ rfl
            have c1 := blk_cell (blk_call H11.out hB) 1 _ rfl
            go_simp
            exact hK _ _ (Below.refl _ _) (rt_eqS s51)
          refine obsR_cons ?_ ?_
          · intro T wx K hB hF hD hK
            have g50 := get_eqS (hD 9 50 (by simp [Region.binds]) (by kernel_rfl)) s50
            have g51 := get_eqS (hD 10 51 (by simp [Region.binds]) (by kernel_rfl)) s51
            refine ob_yes (wanted_none rfl) ?_
            clear hF hD
            go_simp
            refine (plus_is a2 b2 (W * v2) (-(W * u2)) (a2 + W * v2) (b2 - W * u2) _ (Lib.hid (by omega)) (Lib.hid (by omega)) (C1.out _ (by simp)) (C1.out _ (by simp))).mono ?_; rintro e w9 ⟨rfl, hb⟩
            exact hK _ _ hb (rt_eqS s52)
          refine obsR_cons ?_ ?_
          · intro T wx K hB hF hD hK
            have g8 : T[8]? = some (.int .i64 1) := hF 8 (freeM_of (by kernel_rfl))
            refine ob_yes (wanted_none rfl) ?_
            clear hF hD
            go_simp
            exact hK _ _ (Below.refl _ _) (rt_eqS s53)
          refine obsR_cons ?_ ?_
          · intro T wx K hB hF hD hK
            have g53 := get_eqS (hD 12 53 (by simp [Region.binds]) (by kernel_rfl)) s53
            refine ob_yes (wanted_none rfl) ?_
            clear hF hD
            go_simp
            exact hK _ _ (Below.refl _ _) (rt_eqS s54)
          refine obsR_cons ?_ ?_
          · intro T wx K hB hF hD hK
            have g6 : T[6]? = some (.pointer (some ⟨g, 0, none⟩)) := hF 6 (freeM_of (by kernel_rfl))
            have g54 := get_eqS (hD 13 54 (by simp [Region.binds]) (by kernel_rfl)) s54
            refine ob_yes (wanted_none rfl) ?_
            clear hF hD
            go_simp
            exact hK _ _ (Below.refl _ _) (rt_eqS s55)
          refine obsR_cons ?_ ?_
          · intro T wx K hB hF hD hK
            have g55 := get_eqS (hD 14 55 (by simp [Region.binds]) (by kernel_rfl)) s55
            refine ob_yes (wanted_none rfl) ?_
            clear hF hD
            have c0 := blk_cell (blk_call HG.out hB) 4 _ rfl
            have c1 := blk_cell (blk_call HG.out hB) 5 _ rfl
            go_simp
            exact hK _ _ (Below.refl _ _) (rt_eqS s56)
          refine obsR_cons ?_ ?_
          · intro T wx K hB hF hD hK
            have g10 : T[10]? = some (.pointer (some ⟨s10, 0, none⟩)) := hF 10 (freeM_of (by kernel_rfl))
            refine ob_yes (wanted_none rfl) ?_
            clear hF hD
            have c0 := blk_cell (blk_call H10.out hB) 0 _ rfl
            have c1 := blk_cell (blk_call H10.out hB) 1 _ rfl
            go_simp
            exact hK _ _ (Below.refl _ _) (rt_eqS s57)
          refine obsR_cons ?_ ?_
          · intro T wx K hB hF hD hK
            have g56 := get_eqS (hD 15 56 (by simp [Region.binds]) (by kernel_rfl)) s56
            have g57 := get_eqS (hD 16 57 (by simp [Region.binds]) (by kernel_rfl)) s57
            refine ob_yes (wanted_none rfl) ?_
            clear hF hD
            go_simp
            refine (plus_is a2 b2 (-(W * v2)) (W * u2) (a2 - W * v2) (b2 + W * u2) _ (Lib.hid (by omega)) (Lib.hid (by omega)) (C1.out _ (by simp)) (C1.out _ (by simp))).mono ?_; rintro e w9 ⟨rfl, hb⟩
            exact hK _ _ hb (rt_eqS s58)
          refine obsR_cons ?_ ?_
          · intro T wx K hB hF hD hK
            have g8 : T[8]? = some (.int .i64 1) := hF 8 (freeM_of (by kernel_rfl))
            refine ob_yes (wanted_none rfl) ?_
            clear hF hD
            go_simp
            exact hK _ _ (Below.refl _ _) (rt_eqS s59)
          refine obsR_cons ?_ ?_
          · intro T wx K hB hF hD hK
            have g6 : T[6]? = some (.pointer (some ⟨g, 0, none⟩)) := hF 6 (freeM_of (by kernel_rfl))
            have g59 := get_eqS (hD 18 59 (by simp [Region.binds]) (by kernel_rfl)) s59
            refine ob_yes (wanted_none rfl) ?_
            clear hF hD
            go_simp
            exact hK _ _ (Below.refl _ _) (rt_eqS s60)
          refine obsR_cons ?_ ?_
          · intro T wx K hB hF hD hK
            have g60 := get_eqS (hD 19 60 (by simp [Region.binds]) (by kernel_rfl)) s60
            refine ob_yes (wanted_none rfl) ?_
            clear hF hD
            have c0 := blk_cell (blk_call HG.out hB) 2 _ rfl
            have c1 := blk_cell (blk_call HG.out hB) 3 _ rfl
            go_simp
            exact hK _ _ (Below.refl _ _) (rt_eqS s61)
          refine obsR_cons ?_ ?_
          · intro T wx K hB hF hD hK
            have g10 : T[10]? = some (.pointer (some ⟨s10, 0, none⟩)) := hF 10 (freeM_of (by kernel_rfl))
            refine ob_yes (wanted_none rfl) ?_
            clear hF hD
            have c0 := blk_cell (blk_call H10.out hB) 0 _ rfl
            have c1 := blk_cell (blk_call H10.out hB) 1 _ rfl
            go_simp
            exact hK _ _ (Below.refl _ _) (rt_eqS s62)
          refine obsR_cons ?_ ?_
          · intro T wx K hB hF hD hK
            have g61 := get_eqS (hD 20 61 (by simp [Region.binds]) (by kernel_rfl)) s61
            have g62 := get_eqS (hD 21 62 (by simp [Region.binds]) (by kernel_rfl)) s62
            refine ob_yes (wanted_none rfl) ?_
            clear hF hD
            go_simp
            refine (plus_is a1 b1 (-(W * v2)) (W * u2) (a1 - W * v2) (b1 + W * u2) _ (Lib.hid (by omega)) (Lib.hid (by omega)) (C1.out _ (by simp)) (C1.out _ (by simp))).mono ?_; rintro e w9 ⟨rfl, hb⟩
            exact hK _ _ hb (rt_eqS s63)
          refine obsR_cons ?_ ?_
          · intro T wx K hB hF hD hK
            have g46 := get_eqS (hD 5 46 (by simp [Region.binds]) (by kernel_rfl)) s46
            have g52 := get_eqS (hD 11 52 (by simp [Region.binds]) (by kernel_rfl)) s52
            have g58 := get_eqS (hD 17 58 (by simp [Region.binds]) (by kernel_rfl)) s58
            have g63 := get_eqS (hD 22 63 (by simp [Region.binds]) (by kernel_rfl)) s63
            refine ob_yes (wanted_none rfl) ?_
            clear hF hD
            go_simp
            exact hK _ _ (belA (Below.refl _ _) _) (rt_S s64 ⟨_, rfl, by rw [← E1.out]; exact prow_new _ _ _ _ rfl rfl⟩)
          refine obsR_cons ?_ ?_
          · intro T wx K hB hF hD hK
            have g7 : T[7]? = some (.pointer (some ⟨t, 0, none⟩)) := hF 7 (freeM_of (by kernel_rfl))
            have g41 := get_eqS (hD 0 41 (by simp [Region.binds]) (by kernel_rfl)) s41
            refine ob_yes (wanted_none rfl) ?_
            clear hF hD
            go_simp
            exact hK _ _ (Below.refl _ _) (rt_eqS s65)
          exact obsR_nil
        · intro S1 w8 hb8 hF hs hD
          have g41 := get_eqS (hD 0 41 (by decide) (by kernel_rfl)) s41
          have g42 := get_eqS (hD 1 42 (by decide) (by kernel_rfl)) s42
          have g43 := get_eqS (hD 2 43 (by decide) (by kernel_rfl)) s43
          have g44 := get_eqS (hD 3 44 (by decide) (by kernel_rfl)) s44
          have g45 := get_eqS (hD 4 45 (by decide) (by kernel_rfl)) s45
          have g46 := get_eqS (hD 5 46 (by decide) (by kernel_rfl)) s46
          have g47 := get_eqS (hD 6 47 (by decide) (by kernel_rfl)) s47
          have g48 := get_eqS (hD 7 48 (by decide) (by kernel_rfl)) s48
          have g49 := get_eqS (hD 8 49 (by decide) (by kernel_rfl)) s49
          have g50 := get_eqS (hD 9 50 (by decide) (by kernel_rfl)) s50
          have g51 := get_eqS (hD 10 51 (by decide) (by kernel_rfl)) s51
          have g52 := get_eqS (hD 11 52 (by decide) (by kernel_rfl)) s52
          have g53 := get_eqS (hD 12 53 (by decide) (by kernel_rfl)) s53
          have g54 := get_eqS (hD 13 54 (by decide) (by kernel_rfl)) s54
          have g55 := get_eqS (hD 14 55 (by decide) (by kernel_rfl)) s55
          have g56 := get_eqS (hD 15 56 (by decide) (by kernel_rfl)) s56
          have g57 := get_eqS (hD 16 57 (by decide) (by kernel_rfl)) s57
          have g58 := get_eqS (hD 17 58 (by decide) (by kernel_rfl)) s58
          have g59 := get_eqS (hD 18 59 (by decide) (by kernel_rfl)) s59
          have g60 := get_eqS (hD 19 60 (by decide) (by kernel_rfl)) s60
          have g61 := get_eqS (hD 20 61 (by decide) (by kernel_rfl)) s61
          have g62 := get_eqS (hD 21 62 (by decide) (by kernel_rfl)) s62
          have g63 := get_eqS (hD 22 63 (by decide) (by kernel_rfl)) s63
          obtain ⟨v64, g64, p64⟩ := getS (hD 23 64 (by decide) (by kernel_rfl)) s64
          have g65 := get_eqS (hD 24 65 (by decide) (by kernel_rfl)) s65
          have hT := conc [(41, .int .i64 1), (42, .int .i64 1), (43, .pointer (some ⟨g, 2, none⟩)), (44, .agg #[.int .i64 a1, .int .i64 b1]), (45, .agg #[.int .i64 (W * v2), .int .i64 (-(W * u2))]), (46, .agg #[.int .i64 (a1 + W * v2), .int .i64 (b1 - W * u2)]), (47, .int .i64 1), (48, .int .i64 2), (49, .pointer (some ⟨g, 4, none⟩)), (50, .agg #[.int .i64 a2, .int .i64 b2]), (51, .agg #[.int .i64 (W * v2), .int .i64 (-(W * u2))]), (52, .agg #[.int .i64 (a2 + W * v2), .int .i64 (b2 - W * u2)]), (53, .int .i64 1), (54, .int .i64 2), (55, .pointer (some ⟨g, 4, none⟩)), (56, .agg #[.int .i64 a2, .int .i64 b2]), (57, .agg #[.int .i64 (-(W * v2)), .int .i64 (W * u2)]), (58, .agg #[.int .i64 (a2 - W * v2), .int .i64 (b2 + W * u2)]), (59, .int .i64 1), (60, .pointer (some ⟨g, 2, none⟩)), (61, .agg #[.int .i64 a1, .int .i64 b1]), (62, .agg #[.int .i64 (-(W * v2)), .int .i64 (W * u2)]), (63, .agg #[.int .i64 (a1 - W * v2), .int .i64 (b1 + W * u2)]), (64, v64), (65, .pointer (some ⟨t, 1, none⟩))] hs hF (by simp only [List.forall_mem_cons]; exact ⟨g41, g42, g43, g44, g45, g46, g47, g48, g49, g50, g51, g52, g53, g54, g55, g56, g57, g58, g59, g60, g61, g62, g63, g64, g65, fun p hp => absurd hp List.not_mem_nil⟩) (by kernel_rfl)
          simp only [List.foldl, List.setIfInBounds_toArray, List.set_cons_succ, List.set_cons_zero] at hT
          subst hT
          clear hF hD hs g41 g42 g43 g44 g45 g46 g47 g48 g49 g50 g51 g52 g53 g54 g55 g56 g57 g58 g59 g60 g61 g62 g63 g64 g65 s41 s42 s43 s44 s45 s46 s47 s48 s49 s50 s51 s52 s53 s54 s55 s56 s57 s58 s59 s60 s61 s62 s63 s64 s65
          show wpOpsIn _ _ _ _ _ [25] _ _
          obtain ⟨g1, rfl, pr⟩ := p64
          have f0 := blk_cell (blk_call HL.out hb8) 1 _ rfl
          have f1 := blk_fz (blk_call HL.out hb8) 1
          simp only [wpOpsIn]
          go_simp
          clear f0 f1
          have hl8 := blk_call HL.out hb8
          have R1 := Lib.hid (prow_far (j := 1) pr (prow_notslice (E1.out ▸ pr) hl8) (.slice (some ⟨g1, 0, none⟩) 4 4))
          replace R0 := Lib.hid (prow_far (j := 1) (prow_below R0.out hb8) (prow_notslice (E0.out ▸ prow_below R0.out hb8) hl8) (.slice (some ⟨g1, 0, none⟩) 4 4))
          replace HR := Lib.hid (blk_other (j := 1) (blk_call HR.out hb8) NG.out.2.1 (.slice (some ⟨g1, 0, none⟩) 4 4))
          replace HD := Lib.hid (blk_other (j := 1) (blk_call HD.out hb8) NG.out.2.2.1 (.slice (some ⟨g1, 0, none⟩) 4 4))
          replace HA := Lib.hid (blk_other (j := 1) (blk_call HA.out hb8) NG.out.2.2.2.1 (.slice (some ⟨g1, 0, none⟩) 4 4))
          replace HG := Lib.hid (blk_other (j := 1) (blk_call HG.out hb8) NG.out.2.2.2.2 (.slice (some ⟨g1, 0, none⟩) 4 4))
          replace HL := Lib.hid (blk_set (j := 1) hl8 (.slice (some ⟨g1, 0, none⟩) 4 4))
          replace B := Lib.hid (belS (p := ⟨t, 1, none⟩) (belT B.out hb8) NG.out.1 (.slice (some ⟨g1, 0, none⟩) 4 4))
          clear hb8 hl8 pr HS H10 H11
          generalize (w8.setCell ⟨t, 1, none⟩ (.slice (some ⟨g1, 0, none⟩) 4 4)) = Z1 at *
          go_wp2_with fail
          rw [rounds_succ]
          go_wp2_with fail
          obtain ⟨sp, hsp⟩ : ∃ sp : ToldS, sp = [none, none, none, none, none, none, none, none, none, some (newS Z1.heap.size #[.int .i64 0, .int .i64 0] 23), none, none, none, none, none, none, none, none, none, none, none, none, none, some (eqS (.int .i64 2)), some (eqS (.pointer (some ⟨d, 6, none⟩))), some (eqS (.agg #[.int .i64 x3, .int .i64 y3, .int .i64 3])), some (eqS (.pointer (some ⟨a, 5, none⟩))), some (eqS (.int .i64 W)), some (eqS (.agg #[.int .i64 (W * u3), .int .i64 (W * v3)]))] := ⟨_, rfl⟩
          have s9 : sp.getD 9 none = some (newS Z1.heap.size #[.int .i64 0, .int .i64 0] 23) := by rw [hsp]; rfl
          have s23 : sp.getD 23 none = some (eqS (.int .i64 2)) := by rw [hsp]; rfl
          have s24 : sp.getD 24 none = some (eqS (.pointer (some ⟨d, 6, none⟩))) := by rw [hsp]; rfl
          have s25 : sp.getD 25 none = some (eqS (.agg #[.int .i64 x3, .int .i64 y3, .int .i64 3])) := by rw [hsp]; rfl
          have s26 : sp.getD 26 none = some (eqS (.pointer (some ⟨a, 5, none⟩))) := by rw [hsp]; rfl
          have s27 : sp.getD 27 none = some (eqS (.int .i64 W)) := by rw [hsp]; rfl
          have s28 : sp.getD 28 none = some (eqS (.agg #[.int .i64 (W * u3), .int .i64 (W * v3)])) := by rw [hsp]; rfl
          clear hsp
          refine (wpIn_wide (n := 0)).1 (region_headR (RtS sp) (rtS_keep sp) 7 rfl rfl rfl (by kernel_rfl) (by decide) (by kernel_rfl) (by kernel_rfl) (by kernel_rfl) ?_ ?_)
          · intro Q'; show ObsR _ _ _ _ _ _ _ _ (List.take _ _); simp only [List.take_succ_cons, List.take_zero]
            refine obsR_cons ?_ ?_
            · intro T wx K hB hF hD hK
              have g8 : T[8]? = some (.int .i64 2) := hF 8 (freeM_of (by kernel_rfl))
              refine ob_yes (wanted_none rfl) ?_
              clear hF hD
              go_simp
              exact hK _ _ (Below.refl _ _) (rt_eqS s23)
            refine obsR_cons ?_ ?_
            · intro T wx K hB hF hD hK
              have g5 : T[5]? = some (.pointer (some ⟨d, 0, none⟩)) := hF 5 (freeM_of (by kernel_rfl))
              have g23 := get_eqS (hD 0 23 (by simp [Region.binds]) (by kernel_rfl)) s23
              refine ob_yes (wanted_none rfl) ?_
              clear hF hD
              go_simp
              exact hK _ _ (Below.refl _ _) (rt_eqS s24)
            refine obsR_cons ?_ ?_
            · intro T wx K hB hF hD hK
              have g24 := get_eqS (hD 1 24 (by simp [Region.binds]) (by kernel_rfl)) s24
              refine ob_yes (wanted_none rfl) ?_
              clear hF hD
              have c0 := blk_cell (blk_call HD.out hB) 6 _ rfl
              have c1 := blk_cell (blk_call HD.out hB) 7 _ rfl
              have c2 := blk_cell (blk_call HD.out hB) 8 _ rfl
              go_simp
              exact hK _ _ (Below.refl _ _) (rt_eqS s25)
            refine obsR_cons ?_ ?_
            · intro T wx K hB hF hD hK
              have g2 : T[2]? = some (.pointer (some ⟨a, 0, none⟩)) := hF 2 (freeM_of (by kernel_rfl))
              refine ob_yes (wanted_none rfl) ?_
              clear hF hD
              go_simp
              exact hK _ _ (Below.refl _ _) (rt_eqS s26)
            refine obsR_cons ?_ ?_
            · intro T wx K hB hF hD hK
              have g26 := get_eqS (hD 3 26 (by simp [Region.binds]) (by kernel_rfl)) s26
              refine ob_yes (wanted_none rfl) ?_
              clear hF hD
              have c0 := blk_cell (blk_call HA.out hB) 5 _ rfl
              go_simp
              exact hK _ _ (Below.refl _ _) (rt_eqS s27)
            refine obsR_cons ?_ ?_
            · intro T wx K hB hF hD hK
              have g25 := get_eqS (hD 2 25 (by simp [Region.binds]) (by kernel_rfl)) s25
              have g27 := get_eqS (hD 4 27 (by simp [Region.binds]) (by kernel_rfl)) s27
              refine ob_yes (wanted_none rfl) ?_
              clear hF hD
              go_simp
              refine (fine7_is x3 y3 3 W (W * u3) (W * v3) _ D3.out WB.out Hu3 Hv3).mono ?_; rintro e w9 ⟨rfl, hb⟩
              exact hK _ _ hb (rt_eqS s28)
            refine obsR_cons ?_ ?_
            · intro T wx K hB hF hD hK
              refine ob_yes (wanted_none rfl) ?_
              clear hF hD
              go_simp
              exact hK _ _ (belA (Below.refl _ _) _) (rt_S s9 ⟨_, rfl, hB.size, blk_new _ _ _ rfl⟩)
            exact obsR_nil
          · intro T2 w8 hb8 hF hs hD
            have g23 := get_eqS (hD 0 23 (by decide) (by kernel_rfl)) s23
            have g24 := get_eqS (hD 1 24 (by decide) (by kernel_rfl)) s24
            have g25 := get_eqS (hD 2 25 (by decide) (by kernel_rfl)) s25
            have g26 := get_eqS (hD 3 26 (by decide) (by kernel_rfl)) s26
            have g27 := get_eqS (hD 4 27 (by decide) (by kernel_rfl)) s27
            have g28 := get_eqS (hD 5 28 (by decide) (by kernel_rfl)) s28
            obtain ⟨v9, g9, p9⟩ := getS (hD 6 9 (by decide) (by kernel_rfl)) s9
            have hT := conc [(23, .int .i64 2), (24, .pointer (some ⟨d, 6, none⟩)), (25, .agg #[.int .i64 x3, .int .i64 y3, .int .i64 3]), (26, .pointer (some ⟨a, 5, none⟩)), (27, .int .i64 W), (28, .agg #[.int .i64 (W * u3), .int .i64 (W * v3)]), (9, v9)] hs hF (by simp only [List.forall_mem_cons]; exact ⟨g23, g24, g25, g26, g27, g28, g9, fun p hp => absurd hp List.not_mem_nil⟩) (by kernel_rfl)
            simp only [List.foldl, List.setIfInBounds_toArray, List.set_cons_succ, List.set_cons_zero] at hT
            subst hT
            clear hF hD hs g23 g24 g25 g26 g27 g28 g9 s9 s23 s24 s25 s26 s27 s28
            show wpOpsIn _ _ _ _ _ [7] _ _
            obtain ⟨s, rfl, hs, h9⟩ := p9
            have f0 := blk_cell h9 0 _ rfl
            have f1 := blk_cell h9 1 _ rfl
            have f2 := blk_fz h9 0
            have f3 := blk_fz h9 1
            simp only [wpOpsIn]
            go_simp
            clear f0 f1 f2 f3
            have ls : w.heap.size ≤ s := Nat.le_trans B.out.size hs
            have HS := Lib.hid (blk_set (j := 1) (blk_set (j := 0) h9 (.int .i64 (W * u3))) (.int .i64 (W * v3)))
            have neHA := blk_lt HA.out
            replace HA := Lib.hid (blk_other (j := 1) (blk_other (j := 0) (blk_call HA.out hb8) (show s ≠ _ by omega) (.int .i64 (W * u3))) (show s ≠ _ by omega) (.int .i64 (W * v3)))
            clear neHA
            have neHR := blk_lt HR.out
            replace HR := Lib.hid (blk_other (j := 1) (blk_other (j := 0) (blk_call HR.out hb8) (show s ≠ _ by omega) (.int .i64 (W * u3))) (show s ≠ _ by omega) (.int .i64 (W * v3)))
            clear neHR
            have neHD := blk_lt HD.out
            replace HD := Lib.hid (blk_other (j := 1) (blk_other (j := 0) (blk_call HD.out hb8) (show s ≠ _ by omega) (.int .i64 (W * u3))) (show s ≠ _ by omega) (.int .i64 (W * v3)))
            clear neHD
            have neHG := blk_lt HG.out
            replace HG := Lib.hid (blk_other (j := 1) (blk_other (j := 0) (blk_call HG.out hb8) (show s ≠ _ by omega) (.int .i64 (W * u3))) (show s ≠ _ by omega) (.int .i64 (W * v3)))
            clear neHG
            have neHL := blk_lt HL.out
            replace HL := Lib.hid (blk_other (j := 1) (blk_other (j := 0) (blk_call HL.out hb8) (show s ≠ _ by omega) (.int .i64 (W * u3))) (show s ≠ _ by omega) (.int .i64 (W * v3)))
            clear neHL
            have neR0 := prow_lt4 (prow_below R0.out (Below.refl _ _)) (l := L0) (by rw [← E0.out]; exact List.cons_ne_nil _ _)
            replace R0 := Lib.hid (prow_far (j := 1) (prow_far (j := 0) (prow_below R0.out hb8) (show s ≠ _ by omega) (.int .i64 (W * u3))) (show s ≠ _ by omega) (.int .i64 (W * v3)))
            clear neR0
            have neR1 := prow_lt4 (prow_below R1.out (Below.refl _ _)) (l := L1) (by rw [← E1.out]; exact List.cons_ne_nil _ _)
            replace R1 := Lib.hid (prow_far (j := 1) (prow_far (j := 0) (prow_below R1.out hb8) (show s ≠ _ by omega) (.int .i64 (W * u3))) (show s ≠ _ by omega) (.int .i64 (W * v3)))
            clear neR1
            replace B := Lib.hid (belS (p := ⟨s, 1, none⟩) (belS (p := ⟨s, 0, none⟩) (belT B.out hb8) ls (.int .i64 (W * u3))) ls (.int .i64 (W * v3)))
            clear hb8 hs h9 ls
            generalize ((w8.setCell ⟨s, 0, none⟩ (.int .i64 (W * u3))).setCell ⟨s, 1, none⟩ (.int .i64 (W * v3))) = Y2 at *
            have m1 := M3.out
            have c0 := blk_cell HS.out 0 _ rfl
            have c1 := blk_cell HS.out 1 _ rfl
            go_upto_region 9 with fail
            clear c0 c1
            have c0 := blk_cell (blk_alloc HS.out (.cells #[.int .i64 (-(W * v3)), .int .i64 (W * u3)] 23)) 0 _ rfl
            have c1 := blk_cell (blk_alloc HS.out (.cells #[.int .i64 (-(W * v3)), .int .i64 (W * u3)] 23)) 1 _ rfl
            go_upto_region 10 with fail
            clear m1 c0 c1
            replace HA := Lib.hid (blk_alloc (blk_alloc HA.out (.cells #[.int .i64 (-(W * v3)), .int .i64 (W * u3)] 23)) (.cells #[.int .i64 (W * v3), .int .i64 (-(W * u3))] 23))
            replace HR := Lib.hid (blk_alloc (blk_alloc HR.out (.cells #[.int .i64 (-(W * v3)), .int .i64 (W * u3)] 23)) (.cells #[.int .i64 (W * v3), .int .i64 (-(W * u3))] 23))
            replace HD := Lib.hid (blk_alloc (blk_alloc HD.out (.cells #[.int .i64 (-(W * v3)), .int .i64 (W * u3)] 23)) (.cells #[.int .i64 (W * v3), .int .i64 (-(W * u3))] 23))
            replace HG := Lib.hid (blk_alloc (blk_alloc HG.out (.cells #[.int .i64 (-(W * v3)), .int .i64 (W * u3)] 23)) (.cells #[.int .i64 (W * v3), .int .i64 (-(W * u3))] 23))
            replace HL := Lib.hid (blk_alloc (blk_alloc HL.out (.cells #[.int .i64 (-(W * v3)), .int .i64 (W * u3)] 23)) (.cells #[.int .i64 (W * v3), .int .i64 (-(W * u3))] 23))
            replace R0 := Lib.hid (prow_alloc (prow_alloc R0.out (.cells #[.int .i64 (-(W * v3)), .int .i64 (W * u3)] 23)) (.cells #[.int .i64 (W * v3), .int .i64 (-(W * u3))] 23))
            replace R1 := Lib.hid (prow_alloc (prow_alloc R1.out (.cells #[.int .i64 (-(W * v3)), .int .i64 (W * u3)] 23)) (.cells #[.int .i64 (W * v3), .int .i64 (-(W * u3))] 23))
            replace HS := Lib.hid (blk_alloc (blk_alloc HS.out (.cells #[.int .i64 (-(W * v3)), .int .i64 (W * u3)] 23)) (.cells #[.int .i64 (W * v3), .int .i64 (-(W * u3))] 23))
            have H10 := Lib.hid (blk_alloc (blk_new Y2 (.cells #[.int .i64 (-(W * v3)), .int .i64 (W * u3)] 23) (Y2.heap.size) rfl) (.cells #[.int .i64 (W * v3), .int .i64 (-(W * u3))] 23))
            have H11 := Lib.hid (blk_new (Y2.alloc (.cells #[.int .i64 (-(W * v3)), .int .i64 (W * u3)] 23)) (.cells #[.int .i64 (W * v3), .int .i64 (-(W * u3))] 23) (Y2.heap.size + 1) (by simp))
            replace B := Lib.hid (belA (belA B.out (.cells #[.int .i64 (-(W * v3)), .int .i64 (W * u3)] 23)) (.cells #[.int .i64 (W * v3), .int .i64 (-(W * u3))] 23))
            generalize ((Y2.alloc (.cells #[.int .i64 (-(W * v3)), .int .i64 (W * u3)] 23)).alloc (.cells #[.int .i64 (W * v3), .int .i64 (-(W * u3))] 23)) = X2 at *
            generalize hu : Y2.heap.size + 1 = s11 at *
            generalize hv : Y2.heap.size = s10 at *
            clear hu hv
            obtain ⟨sp, hsp⟩ : ∃ sp : ToldS, sp = [none, none, none, none, none, none, none, none, none, none, none, none, none, none, none, none, none, none, none, none, none, none, none, none, none, none, none, none, none, none, none, none, none, none, none, none, none, none, none, none, none, some (eqS (.int .i64 2)), some (eqS (.int .i64 2)), some (eqS (.pointer (some ⟨g, 4, none⟩))), some (eqS (.agg #[.int .i64 a2, .int .i64 b2])), some (eqS (.agg #[.int .i64 (W * v3), .int .i64 (-(W * u3))])), some (eqS (.agg #[.int .i64 (a2 + W * v3), .int .i64 (b2 - W * u3)])), some (eqS (.int .i64 2)), some (eqS (.int .i64 3)), some (eqS (.pointer (some ⟨g, 6, none⟩))), some (eqS (.agg #[.int .i64 a3, .int .i64 b3])), some (eqS (.agg #[.int .i64 (W * v3), .int .i64 (-(W * u3))])), some (eqS (.agg #[.int .i64 (a3 + W * v3), .int .i64 (b3 - W * u3)])), some (eqS (.int .i64 2)), some (eqS (.int .i64 3)), some (eqS (.pointer (some ⟨g, 6, none⟩))), some (eqS (.agg #[.int .i64 a3, .int .i64 b3])), some (eqS (.agg #[.int .i64 (-(W * v3)), .int .i64 (W * u3)])), some (eqS (.agg #[.int .i64 (a3 - W * v3), .int .i64 (b3 + W * u3)])), some (eqS (.int .i64 2)), some (eqS (.pointer (some ⟨g, 4, none⟩))), some (eqS (.agg #[.int .i64 a2, .int .i64 b2])), some (eqS (.agg #[.int .i64 (-(W * v3)), .int .i64 (W * u3)])), some (eqS (.agg #[.int .i64 (a2 - W * v3), .int .i64 (b2 + W * u3)])), some (row4 L2), some (eqS (.pointer (some ⟨t, 2, none⟩)))] := ⟨_, rfl⟩
            have s41 : sp.getD 41 none = some (eqS (.int .i64 2)) := by rw [hsp]; rfl
            have s42 : sp.getD 42 none = some (eqS (.int .i64 2)) := by rw [hsp]; rfl
            have s43 : sp.getD 43 none = some (eqS (.pointer (some ⟨g, 4, none⟩))) := by rw [hsp]; rfl
            have s44 : sp.getD 44 none = some (eqS (.agg #[.int .i64 a2, .int .i64 b2])) := by rw [hsp]; rfl
            have s45 : sp.getD 45 none = some (eqS (.agg #[.int .i64 (W * v3), .int .i64 (-(W * u3))])) := by rw [hsp]; rfl
            have s46 : sp.getD 46 none = some (eqS (.agg #[.int .i64 (a2 + W * v3), .int .i64 (b2 - W * u3)])) := by rw [hsp]; rfl
            have s47 : sp.getD 47 none = some (eqS (.int .i64 2)) := by rw [hsp]; rfl
            have s48 : sp.getD 48 none = some (eqS (.int .i64 3)) := by rw [hsp]; rfl
            have s49 : sp.getD 49 none = some (eqS (.pointer (some ⟨g, 6, none⟩))) := by rw [hsp]; rfl
            have s50 : sp.getD 50 none = some (eqS (.agg #[.int .i64 a3, .int .i64 b3])) := by rw [hsp]; rfl
            have s51 : sp.getD 51 none = some (eqS (.agg #[.int .i64 (W * v3), .int .i64 (-(W * u3))])) := by rw [hsp]; rfl
            have s52 : sp.getD 52 none = some (eqS (.agg #[.int .i64 (a3 + W * v3), .int .i64 (b3 - W * u3)])) := by rw [hsp]; rfl
            have s53 : sp.getD 53 none = some (eqS (.int .i64 2)) := by rw [hsp]; rfl
            have s54 : sp.getD 54 none = some (eqS (.int .i64 3)) := by rw [hsp]; rfl
            have s55 : sp.getD 55 none = some (eqS (.pointer (some ⟨g, 6, none⟩))) := by rw [hsp]; rfl
            have s56 : sp.getD 56 none = some (eqS (.agg #[.int .i64 a3, .int .i64 b3])) := by rw [hsp]; rfl
            have s57 : sp.getD 57 none = some (eqS (.agg #[.int .i64 (-(W * v3)), .int .i64 (W * u3)])) := by rw [hsp]; rfl
            have s58 : sp.getD 58 none = some (eqS (.agg #[.int .i64 (a3 - W * v3), .int .i64 (b3 + W * u3)])) := by rw [hsp]; rfl
            have s59 : sp.getD 59 none = some (eqS (.int .i64 2)) := by rw [hsp]; rfl
            have s60 : sp.getD 60 none = some (eqS (.pointer (some ⟨g, 4, none⟩))) := by rw [hsp]; rfl
            have s61 : sp.getD 61 none = some (eqS (.agg #[.int .i64 a2, .int .i64 b2])) := by rw [hsp]; rfl
            have s62 : sp.getD 62 none = some (eqS (.agg #[.int .i64 (-(W * v3)), .int .i64 (W * u3)])) := by rw [hsp]; rfl
            have s63 : sp.getD 63 none = some (eqS (.agg #[.int .i64 (a2 - W * v3), .int .i64 (b2 + W * u3)])) := by rw [hsp]; rfl
            have s64 : sp.getD 64 none = some (row4 L2) := by rw [hsp]; rfl
            have s65 : sp.getD 65 none = some (eqS (.pointer (some ⟨t, 2, none⟩))) := by rw [hsp]; rfl
            clear hsp
            refine (wpIn_wide (n := 0)).1 (region_headR (RtS sp) (rtS_keep sp) 25 rfl rfl rfl (by kernel_rfl) (by decide) (by kernel_rfl) (by kernel_rfl) (by kernel_rfl) ?_ ?_)
            · intro Q'; show ObsR _ _ _ _ _ _ _ _ (List.take _ _); simp only [List.take_succ_cons, List.take_zero]
              refine obsR_cons ?_ ?_
              · intro T wx K hB hF hD hK
                have g8 : T[8]? = some (.int .i64 2) := hF 8 (freeM_of (by kernel_rfl))
                refine ob_yes (wanted_none rfl) ?_
                clear hF hD
                go_simp
                exact hK _ _ (Below.refl _ _) (rt_eqS s41)
              refine obsR_cons ?_ ?_
              · intro T wx K hB hF hD hK
                have g8 : T[8]? = some (.int .i64 2) := hF 8 (freeM_of (by kernel_rfl))
                refine ob_yes (wanted_none rfl) ?_
                clear hF hD
                go_simp
                exact hK _ _ (Below.refl _ _) (rt_eqS s42)
              refine obsR_cons ?_ ?_
              · intro T wx K hB hF hD hK
                have g6 : T[6]? = some (.pointer (some ⟨g, 0, none⟩)) := hF 6 (freeM_of (by kernel_rfl))
                have g42 := get_eqS (hD 1 42 (by simp [Region.binds]) (by kernel_rfl)) s42
                refine ob_yes (wanted_none rfl) ?_
                clear hF hD
                go_simp
                exact hK _ _ (Below.refl _ _) (rt_eqS s43)
              refine obsR_cons ?_ ?_
              · intro T wx K hB hF hD hK
                have g43 := get_eqS (hD 2 43 (by simp [Region.binds]) (by kernel_rfl)) s43
                refine ob_yes (wanted_none rfl) ?_
                clear hF hD
                have c0 := blk_cell (blk_call HG.out hB) 4 _ rfl
                have c1 := blk_cell (blk_call HG.out hB) 5 _ rfl
                go_simp
                exact hK _ _ (Below.refl _ _) (rt_eqS s44)
              refine obsR_cons ?_ ?_
              · intro T wx K hB hF hD hK
                have g11 : T[11]? = some (.pointer (some ⟨s11, 0, none⟩)) := hF 11 (freeM_of (by kernel_rfl))
                refine ob_yes (wanted_none rfl) ?_
                clear hF hD
                have c0 := blk_cell (blk_call H11.out hB) 0 _ rfl
                have c1 := blk_cell (blk_call H11.out hB) 1 _ rfl
                go_simp
                exact hK _ _ (Below.refl _ _) (rt_eqS s45)
              refine obsR_cons ?_ ?_
              · intro T wx K hB hF hD hK
                have g44 := get_eqS (hD 3 44 (by simp [Region.binds]) (by kernel_rfl)) s44
                have g45 := get_eqS (hD 4 45 (by simp [Region.binds]) (by kernel_rfl)) s45
                refine ob_yes (wanted_none rfl) ?_
                clear hF hD
                go_simp
                refine (plus_is a2 b2 (W * v3) (-(W * u3)) (a2 + W * v3) (b2 - W * u3) _ (Lib.hid (by omega)) (Lib.hid (by omega)) (C2.out _ (by simp)) (C2.out _ (by simp))).mono ?_; rintro e w9 ⟨rfl, hb⟩
                exact hK _ _ hb (rt_eqS s46)
              refine obsR_cons ?_ ?_
              · intro T wx K hB hF hD hK
                have g8 : T[8]? = some (.int .i64 2) := hF 8 (freeM_of (by kernel_rfl))
                refine ob_yes (wanted_none rfl) ?_
                clear hF hD
                go_simp
                exact hK _ _ (Below.refl _ _) (rt_eqS s47)
              refine obsR_cons ?_ ?_
              · intro T wx K hB hF hD hK
                have g47 := get_eqS (hD 6 47 (by simp [Region.binds]) (by kernel_rfl)) s47
                refine ob_yes (wanted_none rfl) ?_
                clear hF hD
                go_simp
                exact hK _ _ (Below.refl _ _) (rt_eqS s48)
              refine obsR_cons ?_ ?_
              · intro T wx K hB hF hD hK
                have g6 : T[6]? = some (.pointer (some ⟨g, 0, none⟩)) := hF 6 (freeM_of (by kernel_rfl))
                have g48 := get_eqS (hD 7 48 (by simp [Region.binds]) (by kernel_rfl)) s48
                refine ob_yes (wanted_none rfl) ?_
                clear hF hD
                go_simp
                exact hK _ _ (Below.refl _ _) (rt_eqS s49)
              refine obsR_cons ?_ ?_
              · intro T wx K hB hF hD hK
                have g49 := get_eqS (hD 8 49 (by simp [Region.binds]) (by kernel_rfl)) s49
                refine ob_yes (wanted_none rfl) ?_
                clear hF hD
                have c0 := blk_cell (blk_call HG.out hB) 6 _ rfl
                have c1 := blk_cell (blk_call HG.out hB) 7 _ rfl
                go_simp
                exact hK _ _ (Below.refl _ _) (rt_eqS s50)
              refine obsR_cons ?_ ?_
              · intro T wx K hB hF hD hK
                have g11 : T[11]? = some (.pointer (some ⟨s11, 0, none⟩)) := hF 11 (freeM_of (by kernel_rfl))
                refine ob_yes (wanted_none rfl) ?_
                clear hF hD
                have c0 := blk_cell (blk_call H11.out hB) 0 _ rfl
                have c1 := blk_cell (blk_call H11.out hB) 1 _ rfl
                go_simp
                exact hK _ _ (Below.refl _ _) (rt_eqS s51)
              refine obsR_cons ?_ ?_
              · intro T wx K hB hF hD hK
                have g50 := get_eqS (hD 9 50 (by simp [Region.binds]) (by kernel_rfl)) s50
                have g51 := get_eqS (hD 10 51 (by simp [Region.binds]) (by kernel_rfl)) s51
                refine ob_yes (wanted_none rfl) ?_
                clear hF hD
                go_simp
                refine (plus_is a3 b3 (W * v3) (-(W * u3)) (a3 + W * v3) (b3 - W * u3) _ (Lib.hid (by omega)) (Lib.hid (by omega)) (C2.out _ (by simp)) (C2.out _ (by simp))).mono ?_; rintro e w9 ⟨rfl, hb⟩
                exact hK _ _ hb (rt_eqS s52)
              refine obsR_cons ?_ ?_
              · intro T wx K hB hF hD hK
                have g8 : T[8]? = some (.int .i64 2) := hF 8 (freeM_of (by kernel_rfl))
                refine ob_yes (wanted_none rfl) ?_
                clear hF hD
                go_simp
                exact hK _ _ (Below.refl _ _) (rt_eqS s53)
              refine obsR_cons ?_ ?_
              · intro T wx K hB hF hD hK
                have g53 := get_eqS (hD 12 53 (by simp [Region.binds]) (by kernel_rfl)) s53
                refine ob_yes (wanted_none rfl) ?_
                clear hF hD
                go_simp
                exact hK _ _ (Below.refl _ _) (rt_eqS s54)
              refine obsR_cons ?_ ?_
              · intro T wx K hB hF hD hK
                have g6 : T[6]? = some (.pointer (some ⟨g, 0, none⟩)) := hF 6 (freeM_of (by kernel_rfl))
                have g54 := get_eqS (hD 13 54 (by simp [Region.binds]) (by kernel_rfl)) s54
                refine ob_yes (wanted_none rfl) ?_
                clear hF hD
                go_simp
                exact hK _ _ (Below.refl _ _) (rt_eqS s55)
              refine obsR_cons ?_ ?_
              · intro T wx K hB hF hD hK
                have g55 := get_eqS (hD 14 55 (by simp [Region.binds]) (by kernel_rfl)) s55
                refine ob_yes (wanted_none rfl) ?_
                clear hF hD
                have c0 := blk_cell (blk_call HG.out hB) 6 _ rfl
                have c1 := blk_cell (blk_call HG.out hB) 7 _ rfl
                go_simp
                exact hK _ _ (Below.refl _ _) (rt_eqS s56)
              refine obsR_cons ?_ ?_
              · intro T wx K hB hF hD hK
                have g10 : T[10]? = some (.pointer (some ⟨s10, 0, none⟩)) := hF 10 (freeM_of (by kernel_rfl))
                refine ob_yes (wanted_none rfl) ?_
                clear hF hD
                have c0 := blk_cell (blk_call H10.out hB) 0 _ rfl
                have c1 := blk_cell (blk_call H10.out hB) 1 _ rfl
                go_simp
                exact hK _ _ (Below.refl _ _) (rt_eqS s57)
              refine obsR_cons ?_ ?_
              · intro T wx K hB hF hD hK
                have g56 := get_eqS (hD 15 56 (by simp [Region.binds]) (by kernel_rfl)) s56
                have g57 := get_eqS (hD 16 57 (by simp [Region.binds]) (by kernel_rfl)) s57
                refine ob_yes (wanted_none rfl) ?_
                clear hF hD
                go_simp
                refine (plus_is a3 b3 (-(W * v3)) (W * u3) (a3 - W * v3) (b3 + W * u3) _ (Lib.hid (by omega)) (Lib.hid (by omega)) (C2.out _ (by simp)) (C2.out _ (by simp))).mono ?_; rintro e w9 ⟨rfl, hb⟩
                exact hK _ _ hb (rt_eqS s58)
              refine obsR_cons ?_ ?_
              · intro T wx K hB hF hD hK
                have g8 : T[8]? = some (.int .i64 2) := hF 8 (freeM_of (by kernel_rfl))
                refine ob_yes (wanted_none rfl) ?_
                clear hF hD
                go_simp
                exact hK _ _ (Below.refl _ _) (rt_eqS s59)
              refine obsR_cons ?_ ?_
              · intro T wx K hB hF hD hK
                have g6 : T[6]? = some (.pointer (some ⟨g, 0, none⟩)) := hF 6 (freeM_of (by kernel_rfl))
                have g59 := get_eqS (hD 18 59 (by simp [Region.binds]) (by kernel_rfl)) s59
                refine ob_yes (wanted_none rfl) ?_
                clear hF hD
                go_simp
                exact hK _ _ (Below.refl _ _) (rt_eqS s60)
              refine obsR_cons ?_ ?_
              · intro T wx K hB hF hD hK
                have g60 := get_eqS (hD 19 60 (by simp [Region.binds]) (by kernel_rfl)) s60
                refine ob_yes (wanted_none rfl) ?_
                clear hF hD
                have c0 := blk_cell (blk_call HG.out hB) 4 _ rfl
                have c1 := blk_cell (blk_call HG.out hB) 5 _ rfl
                go_simp
                exact hK _ _ (Below.refl _ _) (rt_eqS s61)
              refine obsR_cons ?_ ?_
              · intro T wx K hB hF hD hK
                have g10 : T[10]? = some (.pointer (some ⟨s10, 0, none⟩)) := hF 10 (freeM_of (by kernel_rfl))
                refine ob_yes (wanted_none rfl) ?_
                clear hF hD
                have c0 := blk_cell (blk_call H10.out hB) 0 _ rfl
                have c1 := blk_cell (blk_call H10.out hB) 1 _ rfl
                go_simp
                exact hK _ _ (Below.refl _ _) (rt_eqS s62)
              refine obsR_cons ?_ ?_
              · intro T wx K hB hF hD hK
                have g61 := get_eqS (hD 20 61 (by simp [Region.binds]) (by kernel_rfl)) s61
                have g62 := get_eqS (hD 21 62 (by simp [Region.binds]) (by kernel_rfl)) s62
                refine ob_yes (wanted_none rfl) ?_
                clear hF hD
                go_simp
                refine (plus_is a2 b2 (-(W * v3)) (W * u3) (a2 - W * v3) (b2 + W * u3) _ (Lib.hid (by omega)) (Lib.hid (by omega)) (C2.out _ (by simp)) (C2.out _ (by simp))).mono ?_; rintro e w9 ⟨rfl, hb⟩
                exact hK _ _ hb (rt_eqS s63)
              refine obsR_cons ?_ ?_
              · intro T wx K hB hF hD hK
                have g46 := get_eqS (hD 5 46 (by simp [Region.binds]) (by kernel_rfl)) s46
                have g52 := get_eqS (hD 11 52 (by simp [Region.binds]) (by kernel_rfl)) s52
                have g58 := get_eqS (hD 17 58 (by simp [Region.binds]) (by kernel_rfl)) s58
                have g63 := get_eqS (hD 22 63 (by simp [Region.binds]) (by kernel_rfl)) s63
                refine ob_yes (wanted_none rfl) ?_
                clear hF hD
                go_simp
                exact hK _ _ (belA (Below.refl _ _) _) (rt_S s64 ⟨_, rfl, by rw [← E2.out]; exact prow_new _ _ _ _ rfl rfl⟩)
              refine obsR_cons ?_ ?_
              · intro T wx K hB hF hD hK
                have g7 : T[7]? = some (.pointer (some ⟨t, 0, none⟩)) := hF 7 (freeM_of (by kernel_rfl))
                have g41 := get_eqS (hD 0 41 (by simp [Region.binds]) (by kernel_rfl)) s41
                refine ob_yes (wanted_none rfl) ?_
                clear hF hD
                go_simp
                exact hK _ _ (Below.refl _ _) (rt_eqS s65)
              exact obsR_nil
            · intro S2 w8 hb8 hF hs hD
              have g41 := get_eqS (hD 0 41 (by decide) (by kernel_rfl)) s41
              have g42 := get_eqS (hD 1 42 (by decide) (by kernel_rfl)) s42
              have g43 := get_eqS (hD 2 43 (by decide) (by kernel_rfl)) s43
              have g44 := get_eqS (hD 3 44 (by decide) (by kernel_rfl)) s44
              have g45 := get_eqS (hD 4 45 (by decide) (by kernel_rfl)) s45
              have g46 := get_eqS (hD 5 46 (by decide) (by kernel_rfl)) s46
              have g47 := get_eqS (hD 6 47 (by decide) (by kernel_rfl)) s47
              have g48 := get_eqS (hD 7 48 (by decide) (by kernel_rfl)) s48
              have g49 := get_eqS (hD 8 49 (by decide) (by kernel_rfl)) s49
              have g50 := get_eqS (hD 9 50 (by decide) (by kernel_rfl)) s50
              have g51 := get_eqS (hD 10 51 (by decide) (by kernel_rfl)) s51
              have g52 := get_eqS (hD 11 52 (by decide) (by kernel_rfl)) s52
              have g53 := get_eqS (hD 12 53 (by decide) (by kernel_rfl)) s53
              have g54 := get_eqS (hD 13 54 (by decide) (by kernel_rfl)) s54
              have g55 := get_eqS (hD 14 55 (by decide) (by kernel_rfl)) s55
              have g56 := get_eqS (hD 15 56 (by decide) (by kernel_rfl)) s56
              have g57 := get_eqS (hD 16 57 (by decide) (by kernel_rfl)) s57
              have g58 := get_eqS (hD 17 58 (by decide) (by kernel_rfl)) s58
              have g59 := get_eqS (hD 18 59 (by decide) (by kernel_rfl)) s59
              have g60 := get_eqS (hD 19 60 (by decide) (by kernel_rfl)) s60
              have g61 := get_eqS (hD 20 61 (by decide) (by kernel_rfl)) s61
              have g62 := get_eqS (hD 21 62 (by decide) (by kernel_rfl)) s62
              have g63 := get_eqS (hD 22 63 (by decide) (by kernel_rfl)) s63
              obtain ⟨v64, g64, p64⟩ := getS (hD 23 64 (by decide) (by kernel_rfl)) s64
              have g65 := get_eqS (hD 24 65 (by decide) (by kernel_rfl)) s65
              have hT := conc [(41, .int .i64 2), (42, .int .i64 2), (43, .pointer (some ⟨g, 4, none⟩)), (44, .agg #[.int .i64 a2, .int .i64 b2]), (45, .agg #[.int .i64 (W * v3), .int .i64 (-(W * u3))]), (46, .agg #[.int .i64 (a2 + W * v3), .int .i64 (b2 - W * u3)]), (47, .int .i64 2), (48, .int .i64 3), (49, .pointer (some ⟨g, 6, none⟩)), (50, .agg #[.int .i64 a3, .int .i64 b3]), (51, .agg #[.int .i64 (W * v3), .int .i64 (-(W * u3))]), (52, .agg #[.int .i64 (a3 + W * v3), .int .i64 (b3 - W * u3)]), (53, .int .i64 2), (54, .int .i64 3), (55, .pointer (some ⟨g, 6, none⟩)), (56, .agg #[.int .i64 a3, .int .i64 b3]), (57, .agg #[.int .i64 (-(W * v3)), .int .i64 (W * u3)]), (58, .agg #[.int .i64 (a3 - W * v3), .int .i64 (b3 + W * u3)]), (59, .int .i64 2), (60, .pointer (some ⟨g, 4, none⟩)), (61, .agg #[.int .i64 a2, .int .i64 b2]), (62, .agg #[.int .i64 (-(W * v3)), .int .i64 (W * u3)]), (63, .agg #[.int .i64 (a2 - W * v3), .int .i64 (b2 + W * u3)]), (64, v64), (65, .pointer (some ⟨t, 2, none⟩))] hs hF (by simp only [List.forall_mem_cons]; exact ⟨g41, g42, g43, g44, g45, g46, g47, g48, g49, g50, g51, g52, g53, g54, g55, g56, g57, g58, g59, g60, g61, g62, g63, g64, g65, fun p hp => absurd hp List.not_mem_nil⟩) (by kernel_rfl)
              simp only [List.foldl, List.setIfInBounds_toArray, List.set_cons_succ, List.set_cons_zero] at hT
              subst hT
              clear hF hD hs g41 g42 g43 g44 g45 g46 g47 g48 g49 g50 g51 g52 g53 g54 g55 g56 g57 g58 g59 g60 g61 g62 g63 g64 g65 s41 s42 s43 s44 s45 s46 s47 s48 s49 s50 s51 s52 s53 s54 s55 s56 s57 s58 s59 s60 s61 s62 s63 s64 s65
              show wpOpsIn _ _ _ _ _ [25] _ _
              obtain ⟨g2, rfl, pr⟩ := p64
              have f0 := blk_cell (blk_call HL.out hb8) 2 _ rfl
              have f1 := blk_fz (blk_call HL.out hb8) 2
              simp only [wpOpsIn]
              go_simp
              clear f0 f1
              have hl8 := blk_call HL.out hb8
              have R2 := Lib.hid (prow_far (j := 2) pr (prow_notslice (E2.out ▸ pr) hl8) (.slice (some ⟨g2, 0, none⟩) 4 4))
              replace R0 := Lib.hid (prow_far (j := 2) (prow_below R0.out hb8) (prow_notslice (E0.out ▸ prow_below R0.out hb8) hl8) (.slice (some ⟨g2, 0, none⟩) 4 4))
              replace R1 := Lib.hid (prow_far (j := 2) (prow_below R1.out hb8) (prow_notslice (E1.out ▸ prow_below R1.out hb8) hl8) (.slice (some ⟨g2, 0, none⟩) 4 4))
              replace HR := Lib.hid (blk_other (j := 2) (blk_call HR.out hb8) NG.out.2.1 (.slice (some ⟨g2, 0, none⟩) 4 4))
              replace HD := Lib.hid (blk_other (j := 2) (blk_call HD.out hb8) NG.out.2.2.1 (.slice (some ⟨g2, 0, none⟩) 4 4))
              replace HA := Lib.hid (blk_other (j := 2) (blk_call HA.out hb8) NG.out.2.2.2.1 (.slice (some ⟨g2, 0, none⟩) 4 4))
              replace HG := Lib.hid (blk_other (j := 2) (blk_call HG.out hb8) NG.out.2.2.2.2 (.slice (some ⟨g2, 0, none⟩) 4 4))
              replace HL := Lib.hid (blk_set (j := 2) hl8 (.slice (some ⟨g2, 0, none⟩) 4 4))
              replace B := Lib.hid (belS (p := ⟨t, 2, none⟩) (belT B.out hb8) NG.out.1 (.slice (some ⟨g2, 0, none⟩) 4 4))
              clear hb8 hl8 pr HS H10 H11
              generalize (w8.setCell ⟨t, 2, none⟩ (.slice (some ⟨g2, 0, none⟩) 4 4)) = Z2 at *
              go_wp2_with fail
              rw [rounds_succ]
              have e0 := blk_cell HL.out 0 _ rfl
              have r0 := blk_cell HR.out 0 _ rfl
              have j0 := blk_fz HR.out 0
              have e1 := blk_cell HL.out 1 _ rfl
              have r1 := blk_cell HR.out 1 _ rfl
              have j1 := blk_fz HR.out 1
              have e2 := blk_cell HL.out 2 _ rfl
              have r2 := blk_cell HR.out 2 _ rfl
              have j2 := blk_fz HR.out 2
              go_wp2_with fail
              clear e0 r0 j0 e1 r1 j1 e2 r2 j2
              have n0' : r ≠ g0 := prow_notslice (E0.out ▸ R0.out) HR.out
              have Q0 := Lib.hid (prow_far (j := 2) (prow_far (j := 1) (prow_far (j := 0) R0.out n0' (.slice (some ⟨g0, 0, none⟩) 4 4)) n0' (.slice (some ⟨g1, 0, none⟩) 4 4)) n0' (.slice (some ⟨g2, 0, none⟩) 4 4))
              have n1' : r ≠ g1 := prow_notslice (E1.out ▸ R1.out) HR.out
              have Q1 := Lib.hid (prow_far (j := 2) (prow_far (j := 1) (prow_far (j := 0) R1.out n1' (.slice (some ⟨g0, 0, none⟩) 4 4)) n1' (.slice (some ⟨g1, 0, none⟩) 4 4)) n1' (.slice (some ⟨g2, 0, none⟩) 4 4))
              have n2' : r ≠ g2 := prow_notslice (E2.out ▸ R2.out) HR.out
              have Q2 := Lib.hid (prow_far (j := 2) (prow_far (j := 1) (prow_far (j := 0) R2.out n2' (.slice (some ⟨g0, 0, none⟩) 4 4)) n2' (.slice (some ⟨g1, 0, none⟩) 4 4)) n2' (.slice (some ⟨g2, 0, none⟩) 4 4))
              have HZ := Lib.hid (blk_set (j := 2) (blk_set (j := 1) (blk_set (j := 0) HR.out (.slice (some ⟨g0, 0, none⟩) 4 4)) (.slice (some ⟨g1, 0, none⟩) 4 4)) (.slice (some ⟨g2, 0, none⟩) 4 4))
              have B3 := Lib.hid (belS (p := ⟨r, 2, none⟩) (belS (p := ⟨r, 1, none⟩) (belS (p := ⟨r, 0, none⟩) B.out NR.out.1 (.slice (some ⟨g0, 0, none⟩) 4 4)) NR.out.1 (.slice (some ⟨g1, 0, none⟩) 4 4)) NR.out.1 (.slice (some ⟨g2, 0, none⟩) 4 4))
              generalize (((Z2.setCell ⟨r, 0, none⟩ (.slice (some ⟨g0, 0, none⟩) 4 4)).setCell ⟨r, 1, none⟩ (.slice (some ⟨g1, 0, none⟩) 4 4)).setCell ⟨r, 2, none⟩ (.slice (some ⟨g2, 0, none⟩) 4 4)) = W9 at *
              have r0 := blk_cell HZ.out 0 _ rfl
              have r1 := blk_cell HZ.out 1 _ rfl
              have r2 := blk_cell HZ.out 2 _ rfl
              refine bodyPost_ret (v := .agg #[.slice (some ⟨g0, 0, none⟩) 4 4, .slice (some ⟨g1, 0, none⟩) 4 4, .slice (some ⟨g2, 0, none⟩) 4 4]) (by simp [results, Tryd.results17, go_sem, r0, r1, r2]) rfl ?_
              exact ⟨⟨g0, g1, g2, rfl, Q0.out, Q1.out, Q2.out⟩, B3.out⟩
end Go.Proofs.YtalhkcmlacppjaaDoor
