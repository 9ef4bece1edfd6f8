/- For every valid arm and all joint values within its limits, a quarter turn more at the first joint turns every link's body by a quarter turn about the base, and the same pairs of links meet.
Conditions: none on the arguments; the table of rotations lies as the program's text lays it (the card's tie). -/
import Derived.Test.YtalhkcmlacppjaaDoorTqB
import Derived.Test.YtalhkcmlacppjaaDoorTqH
import Derived.Test.YtalhkcmlacppjaaDoorAmG
import Derived.Test.YtalhkcmlacppjaaDoorAmU
import Derived.Test.YtalhkcmlacppjaaDoorBase
import Derived.Test.YtalhkcmlacppjaaDoorTie
import Derived.Test.YtalhkcmlacppjaaDoorCards
import Derived.SevenTiedAt
namespace Go.Proofs.YtalhkcmlacppjaaDoor.topQuarterTurn
open Go.ChangeShapes Go.WideShapes Go.ChangeAt Go.RowKit
set_option linter.unusedVariables false
set_option linter.unusedSimpArgs false
set_option maxRecDepth 100000

set_option maxHeartbeats 4000000 in
theorem walk (X Y n0 n1 n2 W l0 l1 l2 h0 h1 h2 : Int) (r0 r1 r2 : Int) (hr0 : 0 ≤ r0 ∧ r0 ≤ 255) (hr1 : 0 ≤ r1 ∧ r1 ≤ 255) (hr2 : 0 ≤ r2 ∧ r2 ≤ 255) (w : World) (hT : Tab w) :
    Calls Tryd.prog 9 #[.agg #[.int .i64 X, .int .i64 Y, .int .i64 n0, .int .i64 n1, .int .i64 n2, .int .i64 W, .int .i64 l0, .int .i64 l1, .int .i64 l2, .int .i64 h0, .int .i64 h1, .int .i64 h2], .agg #[.int .u8 r0, .int .u8 r1, .int .u8 r2]] w fun e w' => e = .returned (.bool true) ∧ Below w.heap.size w w' := by
  have B := Lib.hid (Below.refl w.heap.size w)
  have TT := Lib.hid hT
  clear hT
  go_enter Tryd.func9, Tryd.ntmps9
  go_wp2_with fail
  refine (head07_is _ (Tab.alloc (Tab.alloc TT.out (.cells #[.int .i64 X, .int .i64 Y, .int .i64 n0, .int .i64 n1, .int .i64 n2, .int .i64 W, .int .i64 l0, .int .i64 l1, .int .i64 l2, .int .i64 h0, .int .i64 h1, .int .i64 h2] 27)) (.cells #[.int .u8 r0, .int .u8 r1, .int .u8 r2] 28))).mono ?_
  rintro e w1 ⟨rfl, hb1⟩
  have HA := Lib.hid (blk_call (blk_alloc (blk_new w (.cells #[.int .i64 X, .int .i64 Y, .int .i64 n0, .int .i64 n1, .int .i64 n2, .int .i64 W, .int .i64 l0, .int .i64 l1, .int .i64 l2, .int .i64 h0, .int .i64 h1, .int .i64 h2] 27) (w.heap.size) rfl) (.cells #[.int .u8 r0, .int .u8 r1, .int .u8 r2] 28)) hb1)
  have HW := Lib.hid (blk_call (blk_new (w.alloc (.cells #[.int .i64 X, .int .i64 Y, .int .i64 n0, .int .i64 n1, .int .i64 n2, .int .i64 W, .int .i64 l0, .int .i64 l1, .int .i64 l2, .int .i64 h0, .int .i64 h1, .int .i64 h2] 27)) (.cells #[.int .u8 r0, .int .u8 r1, .int .u8 r2] 28) (w.heap.size + 1) (by simp)) hb1)
  replace B := Lib.hid (belT (belA (belA B.out (.cells #[.int .i64 X, .int .i64 Y, .int .i64 n0, .int .i64 n1, .int .i64 n2, .int .i64 W, .int .i64 l0, .int .i64 l1, .int .i64 l2, .int .i64 h0, .int .i64 h1, .int .i64 h2] 27)) (.cells #[.int .u8 r0, .int .u8 r1, .int .u8 r2] 28)) hb1)
  replace TT := Lib.hid (Tab.below (Tab.alloc (Tab.alloc TT.out (.cells #[.int .i64 X, .int .i64 Y, .int .i64 n0, .int .i64 n1, .int .i64 n2, .int .i64 W, .int .i64 l0, .int .i64 l1, .int .i64 l2, .int .i64 h0, .int .i64 h1, .int .i64 h2] 27)) (.cells #[.int .u8 r0, .int .u8 r1, .int .u8 r2] 28)) hb1)
  clear hb1
  obtain ⟨t, ht⟩ : ∃ t, armB X Y n0 n1 n2 W l0 l1 l2 h0 h1 h2 = t := ⟨_, rfl⟩
  have HT := Lib.hid ht
  clear ht
  have c0 := blk_cell HA.out 0 _ rfl
  have c1 := blk_cell HA.out 1 _ rfl
  have c2 := blk_cell HA.out 2 _ rfl
  have c3 := blk_cell HA.out 3 _ rfl
  have c4 := blk_cell HA.out 4 _ rfl
  have c5 := blk_cell HA.out 5 _ rfl
  have c6 := blk_cell HA.out 6 _ rfl
  have c7 := blk_cell HA.out 7 _ rfl
  have c8 := blk_cell HA.out 8 _ rfl
  have c9 := blk_cell HA.out 9 _ rfl
  have c10 := blk_cell HA.out 10 _ rfl
  have c11 := blk_cell HA.out 11 _ rfl
  go_wp2_with fail
  refine (right7_is X Y n0 n1 n2 W l0 l1 l2 h0 h1 h2 t _ HT).mono ?_
  rintro e w2 ⟨rfl, hb2⟩
  clear c0 c1 c2 c3 c4 c5 c6 c7 c8 c9 c10 c11
  replace HA := Lib.hid (blk_call HA.out hb2)
  replace HW := Lib.hid (blk_call HW.out hb2)
  replace B := Lib.hid (belT B.out hb2)
  replace TT := Lib.hid (Tab.below TT.out hb2)
  clear hb2
  cases t
  · go_wp2_with fail
    go_ret
    exact ⟨rfl, B.out⟩
  have JB0 := Lib.hid (jq_bd (l := l0) (h := h0) (by have := (armB_iff X Y n0 n1 n2 W l0 l1 l2 h0 h1 h2).1 HT.out; omega) hr0.1)
  have JB1 := Lib.hid (jq_bd (l := l1) (h := h1) (by have := (armB_iff X Y n0 n1 n2 W l0 l1 l2 h0 h1 h2).1 HT.out; omega) hr1.1)
  have JB2 := Lib.hid (jq_bd (l := l2) (h := h2) (by have := (armB_iff X Y n0 n1 n2 W l0 l1 l2 h0 h1 h2).1 HT.out; omega) hr2.1)
  obtain ⟨q0, hq0⟩ : ∃ q, jq l0 h0 r0 = q := ⟨_, rfl⟩
  rw [hq0] at JB0
  have k0 : -1000 ≤ q0 ∧ q0 ≤ 1000 := by have := (armB_iff X Y n0 n1 n2 W l0 l1 l2 h0 h1 h2).1 HT.out; have := JB0.out; omega
  replace hq0 := Lib.hid hq0
  obtain ⟨q1, hq1⟩ : ∃ q, jq l1 h1 r1 = q := ⟨_, rfl⟩
  rw [hq1] at JB1
  have k1 : -1000 ≤ q1 ∧ q1 ≤ 1000 := by have := (armB_iff X Y n0 n1 n2 W l0 l1 l2 h0 h1 h2).1 HT.out; have := JB1.out; omega
  replace hq1 := Lib.hid hq1
  obtain ⟨q2, hq2⟩ : ∃ q, jq l2 h2 r2 = q := ⟨_, rfl⟩
  rw [hq2] at JB2
  have k2 : -1000 ≤ q2 ∧ q2 ≤ 1000 := by have := (armB_iff X Y n0 n1 n2 W l0 l1 l2 h0 h1 h2).1 HT.out; have := JB2.out; omega
  replace hq2 := Lib.hid hq2
  have JQ : Hid (∀ w : World, Calls Tryd.prog 15 #[.agg #[.int .i64 X, .int .i64 Y, .int .i64 n0, .int .i64 n1, .int .i64 n2, .int .i64 W, .int .i64 l0, .int .i64 l1, .int .i64 l2, .int .i64 h0, .int .i64 h1, .int .i64 h2], .agg #[.int .u8 r0, .int .u8 r1, .int .u8 r2]] w fun e w' => e = .returned (.agg #[.int .i64 q0, .int .i64 q1, .int .i64 q2]) ∧ Below w.heap.size w w') := Lib.hid (fun w => by have := joint_is X Y n0 n1 n2 W l0 l1 l2 h0 h1 h2 r0 r1 r2 w HT hr0 hr1 hr2; rwa [hq0.out, hq1.out, hq2.out] at this)
  obtain ⟨x1, x2, x3, y1, y2, y3, u1, u2, u3, v1, v2, v3, a1, a2, a3, b1, b2, b3, PP⟩ := pose_ex X Y n0 n1 n2 q0 q1 q2
  replace PP := Lib.hid PP
  have kn0 : -1000 ≤ q0 + 9 ∧ q0 + 9 ≤ 1000 := by have := (armB_iff X Y n0 n1 n2 W l0 l1 l2 h0 h1 h2).1 HT.out; have := JB0.out; omega
  have FQ : Hid (fitB l0 l1 l2 h0 h1 h2 q0 q1 q2 = true) := Lib.hid (decide_eq_true (by have := JB0.out; have := JB1.out; have := JB2.out; omega))
  obtain ⟨tn, htn⟩ : ∃ t, fitB l0 l1 l2 h0 h1 h2 (q0 + 9) q1 q2 = t := ⟨_, rfl⟩
  have FN := Lib.hid htn
  clear htn
  have c0 := blk_cell HA.out 0 _ rfl
  have c1 := blk_cell HA.out 1 _ rfl
  have c2 := blk_cell HA.out 2 _ rfl
  have c3 := blk_cell HA.out 3 _ rfl
  have c4 := blk_cell HA.out 4 _ rfl
  have c5 := blk_cell HA.out 5 _ rfl
  have c6 := blk_cell HA.out 6 _ rfl
  have c7 := blk_cell HA.out 7 _ rfl
  have c8 := blk_cell HA.out 8 _ rfl
  have c9 := blk_cell HA.out 9 _ rfl
  have c10 := blk_cell HA.out 10 _ rfl
  have c11 := blk_cell HA.out 11 _ rfl
  have d0 := blk_cell HW.out 0 _ rfl
  have d1 := blk_cell HW.out 1 _ rfl
  have d2 := blk_cell HW.out 2 _ rfl
  go_wp2_with fail
  refine (JQ.out _).mono ?_
  rintro e w3 ⟨rfl, hb3⟩
  clear c0 c1 c2 c3 c4 c5 c6 c7 c8 c9 c10 c11 d0 d1 d2
  replace HA := Lib.hid (blk_call HA.out hb3)
  replace HW := Lib.hid (blk_call HW.out hb3)
  replace B := Lib.hid (belT B.out hb3)
  replace TT := Lib.hid (Tab.below TT.out hb3)
  clear hb3
  go_upto_region 7 with fail
  replace HA := Lib.hid (blk_alloc (blk_alloc HA.out (.cells #[.int .i64 q0, .int .i64 q1, .int .i64 q2] 25)) (.cells #[.int .i64 (q0 + 9), .int .i64 q1, .int .i64 q2] 25))
  replace HW := Lib.hid (blk_alloc (blk_alloc HW.out (.cells #[.int .i64 q0, .int .i64 q1, .int .i64 q2] 25)) (.cells #[.int .i64 (q0 + 9), .int .i64 q1, .int .i64 q2] 25))
  have HQ := Lib.hid (blk_alloc (blk_new w3 (.cells #[.int .i64 q0, .int .i64 q1, .int .i64 q2] 25) (w3.heap.size) rfl) (.cells #[.int .i64 (q0 + 9), .int .i64 q1, .int .i64 q2] 25))
  have HN := Lib.hid (blk_new (w3.alloc (.cells #[.int .i64 q0, .int .i64 q1, .int .i64 q2] 25)) (.cells #[.int .i64 (q0 + 9), .int .i64 q1, .int .i64 q2] 25) (w3.heap.size + 1) (by simp))
  replace B := Lib.hid (belA (belA B.out (.cells #[.int .i64 q0, .int .i64 q1, .int .i64 q2] 25)) (.cells #[.int .i64 (q0 + 9), .int .i64 q1, .int .i64 q2] 25))
  replace TT := Lib.hid (Tab.alloc (Tab.alloc TT.out (.cells #[.int .i64 q0, .int .i64 q1, .int .i64 q2] 25)) (.cells #[.int .i64 (q0 + 9), .int .i64 q1, .int .i64 q2] 25))
  generalize ((w3.alloc (.cells #[.int .i64 q0, .int .i64 q1, .int .i64 q2] 25)).alloc (.cells #[.int .i64 (q0 + 9), .int .i64 q1, .int .i64 q2] 25)) = W1 at *
  have c0 := blk_cell HA.out 0 _ rfl
  have c1 := blk_cell HA.out 1 _ rfl
  have c2 := blk_cell HA.out 2 _ rfl
  have c3 := blk_cell HA.out 3 _ rfl
  have c4 := blk_cell HA.out 4 _ rfl
  have c5 := blk_cell HA.out 5 _ rfl
  have c6 := blk_cell HA.out 6 _ rfl
  have c7 := blk_cell HA.out 7 _ rfl
  have c8 := blk_cell HA.out 8 _ rfl
  have c9 := blk_cell HA.out 9 _ rfl
  have c10 := blk_cell HA.out 10 _ rfl
  have c11 := blk_cell HA.out 11 _ rfl
  have d0 := blk_cell HQ.out 0 _ rfl
  have d1 := blk_cell HQ.out 1 _ rfl
  have d2 := blk_cell HQ.out 2 _ rfl
  go_wp2_with fail
  refine (fits7_is X Y n0 n1 n2 W l0 l1 l2 h0 h1 h2 q0 q1 q2 true _ FQ).mono ?_
  rintro e w4 ⟨rfl, hb4⟩
  clear c0 c1 c2 c3 c4 c5 c6 c7 c8 c9 c10 c11 d0 d1 d2
  replace HA := Lib.hid (blk_call HA.out hb4)
  replace HW := Lib.hid (blk_call HW.out hb4)
  replace HQ := Lib.hid (blk_call HQ.out hb4)
  replace HN := Lib.hid (blk_call HN.out hb4)
  replace B := Lib.hid (belT B.out hb4)
  replace TT := Lib.hid (Tab.below TT.out hb4)
  clear hb4
  have c0 := blk_cell HA.out 0 _ rfl
  have c1 := blk_cell HA.out 1 _ rfl
  have c2 := blk_cell HA.out 2 _ rfl
  have c3 := blk_cell HA.out 3 _ rfl
  have c4 := blk_cell HA.out 4 _ rfl
  have c5 := blk_cell HA.out 5 _ rfl
  have c6 := blk_cell HA.out 6 _ rfl
  have c7 := blk_cell HA.out 7 _ rfl
  have c8 := blk_cell HA.out 8 _ rfl
  have c9 := blk_cell HA.out 9 _ rfl
  have c10 := blk_cell HA.out 10 _ rfl
  have c11 := blk_cell HA.out 11 _ rfl
  have d0 := blk_cell HN.out 0 _ rfl
  have d1 := blk_cell HN.out 1 _ rfl
  have d2 := blk_cell HN.out 2 _ rfl
  go_wp2_with fail
  refine (fits7_is X Y n0 n1 n2 W l0 l1 l2 h0 h1 h2 (q0 + 9) q1 q2 tn _ FN).mono ?_
  rintro e w5 ⟨rfl, hb5⟩
  clear c0 c1 c2 c3 c4 c5 c6 c7 c8 c9 c10 c11 d0 d1 d2
  replace HA := Lib.hid (blk_call HA.out hb5)
  replace HW := Lib.hid (blk_call HW.out hb5)
  replace HQ := Lib.hid (blk_call HQ.out hb5)
  replace HN := Lib.hid (blk_call HN.out hb5)
  replace B := Lib.hid (belT B.out hb5)
  replace TT := Lib.hid (Tab.below TT.out hb5)
  clear hb5
  cases tn
  · go_wp2_with fail
    go_ret
    exact ⟨rfl, B.out⟩
  have PN := Lib.hid (pose_turned PP.out)
  have G4 := pose_links PP.out HT.out
  have N4 := pose_links PN.out HT.out
  have tb0 := bod_base X Y a1 b1 u1 v1 W
  have tb1 := bod_turned X Y a1 b1 a2 b2 u2 v2 W
  have tb2 := bod_turned X Y a2 b2 a3 b3 u3 v3 W
  rw [tb0, tb1, tb2] at N4
  obtain ⟨L0, hL0⟩ : ∃ L, bodL X Y a1 b1 (W * u1) (W * v1) = L := ⟨_, rfl⟩
  rw [hL0] at G4 N4 tb0
  obtain ⟨U0, hU0⟩ : ∃ U, qrL (X, Y) L0 = U := ⟨_, rfl⟩
  rw [hU0] at N4 tb0
  replace hL0 := Lib.hid hL0
  replace tb0 := Lib.hid tb0
  obtain ⟨L1, hL1⟩ : ∃ L, bodL a1 b1 a2 b2 (W * u2) (W * v2) = L := ⟨_, rfl⟩
  rw [hL1] at G4 N4 tb1
  obtain ⟨U1, hU1⟩ : ∃ U, qrL (X, Y) L1 = U := ⟨_, rfl⟩
  rw [hU1] at N4 tb1
  replace hL1 := Lib.hid hL1
  replace tb1 := Lib.hid tb1
  obtain ⟨L2, hL2⟩ : ∃ L, bodL a2 b2 a3 b3 (W * u3) (W * v3) = L := ⟨_, rfl⟩
  rw [hL2] at G4 N4 tb2
  obtain ⟨U2, hU2⟩ : ∃ U, qrL (X, Y) L2 = U := ⟨_, rfl⟩
  rw [hU2] at N4 tb2
  replace hL2 := Lib.hid hL2
  replace tb2 := Lib.hid tb2
  obtain ⟨GC0, -, GV0, GN0⟩ := G4.1
  obtain ⟨-, NV0, NA0, NN0⟩ := N4.1
  obtain ⟨GC1, -, GV1, GN1⟩ := G4.2.1
  obtain ⟨-, NV1, NA1, NN1⟩ := N4.2.1
  obtain ⟨GC2, -, GV2, GN2⟩ := G4.2.2
  obtain ⟨-, NV2, NA2, NN2⟩ := N4.2.2
  obtain ⟨t01, ht01⟩ : ∃ t, touchB L0 L1 = t := ⟨_, rfl⟩
  have hu01 : Hid (touchB U0 U1 = t01) := Lib.hid (by rw [← hU0, ← hU1, qr_touch _ GC0 GC1, ht01])
  replace ht01 := Lib.hid ht01
  obtain ⟨t02, ht02⟩ : ∃ t, touchB L0 L2 = t := ⟨_, rfl⟩
  have hu02 : Hid (touchB U0 U2 = t02) := Lib.hid (by rw [← hU0, ← hU2, qr_touch _ GC0 GC2, ht02])
  replace ht02 := Lib.hid ht02
  obtain ⟨t12, ht12⟩ : ∃ t, touchB L1 L2 = t := ⟨_, rfl⟩
  have hu12 : Hid (touchB U1 U2 = t12) := Lib.hid (by rw [← hU1, ← hU2, qr_touch _ GC1 GC2, ht12])
  replace ht12 := Lib.hid ht12
  replace hU0 := Lib.hid hU0
  replace GV0 := Lib.hid GV0
  replace NA0 := Lib.hid NA0
  replace NV0 := Lib.hid NV0
  replace GN0 := Lib.hid GN0
  replace NN0 := Lib.hid NN0
  clear GC0
  replace hU1 := Lib.hid hU1
  replace GV1 := Lib.hid GV1
  replace NA1 := Lib.hid NA1
  replace NV1 := Lib.hid NV1
  replace GN1 := Lib.hid GN1
  replace NN1 := Lib.hid NN1
  clear GC1
  replace hU2 := Lib.hid hU2
  replace GV2 := Lib.hid GV2
  replace NA2 := Lib.hid NA2
  replace NV2 := Lib.hid NV2
  replace GN2 := Lib.hid GN2
  replace NN2 := Lib.hid NN2
  clear GC2
  clear G4 N4
  have BX : Hid (InV X ∧ InV Y) := Lib.hid (by have := (armB_iff X Y n0 n1 n2 W l0 l1 l2 h0 h1 h2).1 HT.out; unfold InV; omega)
  have c0 := blk_cell HA.out 0 _ rfl
  have c1 := blk_cell HA.out 1 _ rfl
  have c2 := blk_cell HA.out 2 _ rfl
  have c3 := blk_cell HA.out 3 _ rfl
  have c4 := blk_cell HA.out 4 _ rfl
  have c5 := blk_cell HA.out 5 _ rfl
  have c6 := blk_cell HA.out 6 _ rfl
  have c7 := blk_cell HA.out 7 _ rfl
  have c8 := blk_cell HA.out 8 _ rfl
  have c9 := blk_cell HA.out 9 _ rfl
  have c10 := blk_cell HA.out 10 _ rfl
  have c11 := blk_cell HA.out 11 _ rfl
  have d0 := blk_cell HQ.out 0 _ rfl
  have d1 := blk_cell HQ.out 1 _ rfl
  have d2 := blk_cell HQ.out 2 _ rfl
  go_wp2_with fail
  refine (links_is X Y n0 n1 n2 W l0 l1 l2 h0 h1 h2 q0 q1 q2 x1 x2 x3 y1 y2 y3 u1 u2 u3 v1 v2 v3 a1 a2 a3 b1 b2 b3 L0 L1 L2 _ TT.out k0 k1 k2 HT PP hL0 hL1 hL2).mono ?_
  rintro e w6 ⟨⟨g0, g1, g2, rfl, p0, p1, p2⟩, hb6⟩
  clear c0 c1 c2 c3 c4 c5 c6 c7 c8 c9 c10 c11 d0 d1 d2
  replace HA := Lib.hid (blk_call HA.out hb6)
  replace HW := Lib.hid (blk_call HW.out hb6)
  replace HQ := Lib.hid (blk_call HQ.out hb6)
  replace HN := Lib.hid (blk_call HN.out hb6)
  replace B := Lib.hid (belT B.out hb6)
  replace TT := Lib.hid (Tab.below TT.out hb6)
  clear hb6
  have R0 := Lib.hid p0
  have R1 := Lib.hid p1
  have R2 := Lib.hid p2
  clear p0 p1 p2
  go_upto_region 10 with fail
  replace HA := Lib.hid (blk_alloc HA.out (.cells #[.slice (some ⟨g0, 0, none⟩) 4 4, .slice (some ⟨g1, 0, none⟩) 4 4, .slice (some ⟨g2, 0, none⟩) 4 4] 35))
  replace HW := Lib.hid (blk_alloc HW.out (.cells #[.slice (some ⟨g0, 0, none⟩) 4 4, .slice (some ⟨g1, 0, none⟩) 4 4, .slice (some ⟨g2, 0, none⟩) 4 4] 35))
  replace HQ := Lib.hid (blk_alloc HQ.out (.cells #[.slice (some ⟨g0, 0, none⟩) 4 4, .slice (some ⟨g1, 0, none⟩) 4 4, .slice (some ⟨g2, 0, none⟩) 4 4] 35))
  replace HN := Lib.hid (blk_alloc HN.out (.cells #[.slice (some ⟨g0, 0, none⟩) 4 4, .slice (some ⟨g1, 0, none⟩) 4 4, .slice (some ⟨g2, 0, none⟩) 4 4] 35))
  replace R0 := Lib.hid (prow_alloc R0.out (.cells #[.slice (some ⟨g0, 0, none⟩) 4 4, .slice (some ⟨g1, 0, none⟩) 4 4, .slice (some ⟨g2, 0, none⟩) 4 4] 35))
  replace R1 := Lib.hid (prow_alloc R1.out (.cells #[.slice (some ⟨g0, 0, none⟩) 4 4, .slice (some ⟨g1, 0, none⟩) 4 4, .slice (some ⟨g2, 0, none⟩) 4 4] 35))
  replace R2 := Lib.hid (prow_alloc R2.out (.cells #[.slice (some ⟨g0, 0, none⟩) 4 4, .slice (some ⟨g1, 0, none⟩) 4 4, .slice (some ⟨g2, 0, none⟩) 4 4] 35))
  have H8 := Lib.hid (blk_new w6 (.cells #[.slice (some ⟨g0, 0, none⟩) 4 4, .slice (some ⟨g1, 0, none⟩) 4 4, .slice (some ⟨g2, 0, none⟩) 4 4] 35) (w6.heap.size) rfl)
  replace B := Lib.hid (belA B.out (.cells #[.slice (some ⟨g0, 0, none⟩) 4 4, .slice (some ⟨g1, 0, none⟩) 4 4, .slice (some ⟨g2, 0, none⟩) 4 4] 35))
  replace TT := Lib.hid (Tab.alloc TT.out (.cells #[.slice (some ⟨g0, 0, none⟩) 4 4, .slice (some ⟨g1, 0, none⟩) 4 4, .slice (some ⟨g2, 0, none⟩) 4 4] 35))
  generalize (w6.alloc (.cells #[.slice (some ⟨g0, 0, none⟩) 4 4, .slice (some ⟨g1, 0, none⟩) 4 4, .slice (some ⟨g2, 0, none⟩) 4 4] 35)) = W2 at *
  obtain ⟨b8, hb8⟩ : ∃ z, w6.heap.size = z := ⟨_, rfl⟩
  rw [hb8] at H8 ⊢
  clear hb8
  have c0 := blk_cell HA.out 0 _ rfl
  have c1 := blk_cell HA.out 1 _ rfl
  have c2 := blk_cell HA.out 2 _ rfl
  have c3 := blk_cell HA.out 3 _ rfl
  have c4 := blk_cell HA.out 4 _ rfl
  have c5 := blk_cell HA.out 5 _ rfl
  have c6 := blk_cell HA.out 6 _ rfl
  have c7 := blk_cell HA.out 7 _ rfl
  have c8 := blk_cell HA.out 8 _ rfl
  have c9 := blk_cell HA.out 9 _ rfl
  have c10 := blk_cell HA.out 10 _ rfl
  have c11 := blk_cell HA.out 11 _ rfl
  have d0 := blk_cell HN.out 0 _ rfl
  have d1 := blk_cell HN.out 1 _ rfl
  have d2 := blk_cell HN.out 2 _ rfl
  go_wp2_with fail
  refine (links_is X Y n0 n1 n2 W l0 l1 l2 h0 h1 h2 (q0 + 9) q1 q2 (-y1) (-y2) (-y3) x1 x2 x3 (-v1) (-v2) (-v3) u1 u2 u3 (X - (b1 - Y)) (X - (b2 - Y)) (X - (b3 - Y)) (Y + a1 - X) (Y + a2 - X) (Y + a3 - X) U0 U1 U2 _ TT.out kn0 k1 k2 HT PN tb0 tb1 tb2).mono ?_
  rintro e w7 ⟨⟨m0, m1, m2, rfl, p0, p1, p2⟩, hb7⟩
  clear c0 c1 c2 c3 c4 c5 c6 c7 c8 c9 c10 c11 d0 d1 d2
  replace HA := Lib.hid (blk_call HA.out hb7)
  replace HW := Lib.hid (blk_call HW.out hb7)
  replace HQ := Lib.hid (blk_call HQ.out hb7)
  replace HN := Lib.hid (blk_call HN.out hb7)
  replace R0 := Lib.hid (prow_below R0.out hb7)
  replace R1 := Lib.hid (prow_below R1.out hb7)
  replace R2 := Lib.hid (prow_below R2.out hb7)
  replace H8 := Lib.hid (blk_call H8.out hb7)
  replace B := Lib.hid (belT B.out hb7)
  replace TT := Lib.hid (Tab.below TT.out hb7)
  clear hb7
  have M0 := Lib.hid p0
  have M1 := Lib.hid p1
  have M2 := Lib.hid p2
  clear p0 p1 p2
  go_upto_region 11 with fail
  replace HA := Lib.hid (blk_alloc HA.out (.cells #[.slice (some ⟨m0, 0, none⟩) 4 4, .slice (some ⟨m1, 0, none⟩) 4 4, .slice (some ⟨m2, 0, none⟩) 4 4] 35))
  replace HW := Lib.hid (blk_alloc HW.out (.cells #[.slice (some ⟨m0, 0, none⟩) 4 4, .slice (some ⟨m1, 0, none⟩) 4 4, .slice (some ⟨m2, 0, none⟩) 4 4] 35))
  replace HQ := Lib.hid (blk_alloc HQ.out (.cells #[.slice (some ⟨m0, 0, none⟩) 4 4, .slice (some ⟨m1, 0, none⟩) 4 4, .slice (some ⟨m2, 0, none⟩) 4 4] 35))
  replace HN := Lib.hid (blk_alloc HN.out (.cells #[.slice (some ⟨m0, 0, none⟩) 4 4, .slice (some ⟨m1, 0, none⟩) 4 4, .slice (some ⟨m2, 0, none⟩) 4 4] 35))
  replace R0 := Lib.hid (prow_alloc R0.out (.cells #[.slice (some ⟨m0, 0, none⟩) 4 4, .slice (some ⟨m1, 0, none⟩) 4 4, .slice (some ⟨m2, 0, none⟩) 4 4] 35))
  replace R1 := Lib.hid (prow_alloc R1.out (.cells #[.slice (some ⟨m0, 0, none⟩) 4 4, .slice (some ⟨m1, 0, none⟩) 4 4, .slice (some ⟨m2, 0, none⟩) 4 4] 35))
  replace R2 := Lib.hid (prow_alloc R2.out (.cells #[.slice (some ⟨m0, 0, none⟩) 4 4, .slice (some ⟨m1, 0, none⟩) 4 4, .slice (some ⟨m2, 0, none⟩) 4 4] 35))
  replace H8 := Lib.hid (blk_alloc H8.out (.cells #[.slice (some ⟨m0, 0, none⟩) 4 4, .slice (some ⟨m1, 0, none⟩) 4 4, .slice (some ⟨m2, 0, none⟩) 4 4] 35))
  replace M0 := Lib.hid (prow_alloc M0.out (.cells #[.slice (some ⟨m0, 0, none⟩) 4 4, .slice (some ⟨m1, 0, none⟩) 4 4, .slice (some ⟨m2, 0, none⟩) 4 4] 35))
  replace M1 := Lib.hid (prow_alloc M1.out (.cells #[.slice (some ⟨m0, 0, none⟩) 4 4, .slice (some ⟨m1, 0, none⟩) 4 4, .slice (some ⟨m2, 0, none⟩) 4 4] 35))
  replace M2 := Lib.hid (prow_alloc M2.out (.cells #[.slice (some ⟨m0, 0, none⟩) 4 4, .slice (some ⟨m1, 0, none⟩) 4 4, .slice (some ⟨m2, 0, none⟩) 4 4] 35))
  have H9 := Lib.hid (blk_new w7 (.cells #[.slice (some ⟨m0, 0, none⟩) 4 4, .slice (some ⟨m1, 0, none⟩) 4 4, .slice (some ⟨m2, 0, none⟩) 4 4] 35) (w7.heap.size) rfl)
  replace B := Lib.hid (belA B.out (.cells #[.slice (some ⟨m0, 0, none⟩) 4 4, .slice (some ⟨m1, 0, none⟩) 4 4, .slice (some ⟨m2, 0, none⟩) 4 4] 35))
  replace TT := Lib.hid (Tab.alloc TT.out (.cells #[.slice (some ⟨m0, 0, none⟩) 4 4, .slice (some ⟨m1, 0, none⟩) 4 4, .slice (some ⟨m2, 0, none⟩) 4 4] 35))
  generalize (w7.alloc (.cells #[.slice (some ⟨m0, 0, none⟩) 4 4, .slice (some ⟨m1, 0, none⟩) 4 4, .slice (some ⟨m2, 0, none⟩) 4 4] 35)) = W3 at *
  obtain ⟨b9, hb9⟩ : ∃ z, w7.heap.size = z := ⟨_, rfl⟩
  rw [hb9] at H9 ⊢
  clear hb9
  clear HQ HN HW
  go_wp2_with fail
  refine wp_loop_rounds 4 ?_
  rw [rounds_succ]
  go_wp2_with fail
  obtain ⟨sp, hsp⟩ : ∃ sp : ToldS, sp = [none, none, none, none, none, none, none, none, none, none, none, some (rowB U0), some (eqS (.bool true)), none, none, none, none, none, none, none, none, none, none, none, none, none, none, none, none, none, none, none, none, none, none, none, none, none, none, none, none, none, none, none, none, none, none, none, some (turnS U0), some (eqS (.int .i64 0)), some (eqS (.pointer (some ⟨b8, 0, none⟩))), some (eqS (.slice (some ⟨g0, 0, none⟩) 4 4)), some (eqS (.pointer (some ⟨w.heap.size, 0, none⟩))), some (eqS (.agg #[.int .i64 X, .int .i64 Y])), some (turnS U0), some (rowB U0), some (eqS (.bool true))] := ⟨_, rfl⟩
  have s11 : sp.getD 11 none = some (rowB U0) := by rw [hsp]; rfl
  have s12 : sp.getD 12 none = some (eqS (.bool true)) := by rw [hsp]; rfl
  have s48 : sp.getD 48 none = some (turnS U0) := by rw [hsp]; rfl
  have s49 : sp.getD 49 none = some (eqS (.int .i64 0)) := by rw [hsp]; rfl
  have s50 : sp.getD 50 none = some (eqS (.pointer (some ⟨b8, 0, none⟩))) := by rw [hsp]; rfl
  have s51 : sp.getD 51 none = some (eqS (.slice (some ⟨g0, 0, none⟩) 4 4)) := by rw [hsp]; rfl
  have s52 : sp.getD 52 none = some (eqS (.pointer (some ⟨w.heap.size, 0, none⟩))) := by rw [hsp]; rfl
  have s53 : sp.getD 53 none = some (eqS (.agg #[.int .i64 X, .int .i64 Y])) := by rw [hsp]; rfl
  have s54 : sp.getD 54 none = some (turnS U0) := by rw [hsp]; rfl
  have s55 : sp.getD 55 none = some (rowB U0) := by rw [hsp]; rfl
  have s56 : sp.getD 56 none = some (eqS (.bool true)) := by rw [hsp]; rfl
  clear hsp
  refine (wpIn_wide (n := 0)).1 (region_allR (RtS sp) (rtS_keep sp) rfl rfl rfl (by kernel_rfl) (by kernel_rfl) (by kernel_rfl) ?_ ?_)
  · intro Q'
    refine obsR_cons ?_ ?_
    · intro T wx K hB hF hD hK
      have g10 : T[10]? = some (.int .i64 0) := hF 10 (freeM_of (by kernel_rfl))
      refine ob_yes (wanted_none rfl) ?_
      clear hF hD
      go_simp
      exact hK _ _ (Below.refl _ _) (rt_eqS s49)
    refine obsR_cons ?_ ?_
    · intro T wx K hB hF hD hK
      have g8 : T[8]? = some (.pointer (some ⟨b8, 0, none⟩)) := hF 8 (freeM_of (by kernel_rfl))
      have g49 := get_eqS (hD 0 49 (by simp [Region.binds]) (by kernel_rfl)) s49
      refine ob_yes (wanted_none rfl) ?_
      clear hF hD
      go_simp
      exact hK _ _ (Below.refl _ _) (rt_eqS s50)
    refine obsR_cons ?_ ?_
    · intro T wx K hB hF hD hK
      have g50 := get_eqS (hD 1 50 (by simp [Region.binds]) (by kernel_rfl)) s50
      refine ob_yes (wanted_none rfl) ?_
      clear hF hD
      have c0 := blk_cell (blk_call H8.out hB) 0 _ rfl
      go_simp
      exact hK _ _ (Below.refl _ _) (rt_eqS s51)
    refine obsR_cons ?_ ?_
    · intro T wx K hB hF hD hK
      have g2 : T[2]? = some (.pointer (some ⟨w.heap.size, 0, none⟩)) := hF 2 (freeM_of (by kernel_rfl))
      refine ob_yes (wanted_none rfl) ?_
      clear hF hD
      go_simp
      exact hK _ _ (Below.refl _ _) (rt_eqS s52)
    refine obsR_cons ?_ ?_
    · intro T wx K hB hF hD hK
      have g52 := get_eqS (hD 3 52 (by simp [Region.binds]) (by kernel_rfl)) s52
      refine ob_yes (wanted_none rfl) ?_
      clear hF hD
      have c0 := blk_cell (blk_call HA.out hB) 0 _ rfl
      have c1 := blk_cell (blk_call HA.out hB) 1 _ rfl
      go_simp
      exact hK _ _ (Below.refl _ _) (rt_eqS s53)
    refine obsR_cons ?_ ?_
    · intro T wx K hB hF hD hK
      have g51 := get_eqS (hD 2 51 (by simp [Region.binds]) (by kernel_rfl)) s51
      have g53 := get_eqS (hD 4 53 (by simp [Region.binds]) (by kernel_rfl)) s53
      refine ob_yes (wanted_none rfl) ?_
      clear hF hD
      go_simp
      refine (quarter14_is g0 4 X Y L0 U0 _ (TT.out.below hB) GN0.out hU0 (prow_below R0.out hB) GV0.out BX.out.1 BX.out.2).mono ?_; rintro e w9 ⟨⟨g9, c9, rfl, pr⟩, hb⟩
      exact hK _ _ hb (rt_S s54 ⟨g9, c9, rfl, pr⟩)
    refine obsR_cons ?_ ?_
    · intro T wx K hB hF hD hK
      obtain ⟨v54, g54, p54⟩ := getS (hD 5 54 (by simp [Region.binds]) (by kernel_rfl)) s54
      refine ob_yes (wanted_none rfl) ?_
      clear hF hD
      go_simp
      exact hK _ _ (Below.refl _ _) (rt_S s48 p54)
    refine obsR_cons ?_ ?_
    · intro T wx K hB hF hD hK
      obtain ⟨v48, g48, p48⟩ := getS (hD 6 48 (by simp [Region.binds]) (by kernel_rfl)) s48
      refine ob_yes (wanted_none rfl) ?_
      clear hF hD
      obtain ⟨g9, c9, rfl, pr⟩ := p48
      go_simp
      exact hK _ _ (Below.refl _ _) (rt_S s55 ⟨g9, c9, rfl, pr⟩)
    refine obsR_cons ?_ ?_
    · intro T wx K hB hF hD hK
      obtain ⟨v48, g48, p48⟩ := getS (hD 6 48 (by simp [Region.binds]) (by kernel_rfl)) s48
      refine ob_yes (wanted_none rfl) ?_
      clear hF hD
      obtain ⟨g9, c9, rfl, pr⟩ := p48
      go_simp
      exact hK _ _ (Below.refl _ _) (rt_eqS s56)
    refine obsR_cons ?_ ?_
    · intro T wx K hB hF hD hK
      obtain ⟨v55, g55, p55⟩ := getS (hD 7 55 (by simp [Region.binds]) (by kernel_rfl)) s55
      refine ob_yes (wanted_none rfl) ?_
      clear hF hD
      go_simp
      exact hK _ _ (Below.refl _ _) (rt_S s11 p55)
    refine obsR_cons ?_ ?_
    · intro T wx K hB hF hD hK
      have g56 := get_eqS (hD 8 56 (by simp [Region.binds]) (by kernel_rfl)) s56
      refine ob_yes (wanted_none rfl) ?_
      clear hF hD
      go_simp
      exact hK _ _ (Below.refl _ _) (rt_eqS s12)
    exact obsR_nil
  · intro T0 V0 hb8 hF hs hD
    have g49 := get_eqS (hD 0 49 (by decide) (by kernel_rfl)) s49
    have g50 := get_eqS (hD 1 50 (by decide) (by kernel_rfl)) s50
    have g51 := get_eqS (hD 2 51 (by decide) (by kernel_rfl)) s51
    have g52 := get_eqS (hD 3 52 (by decide) (by kernel_rfl)) s52
    have g53 := get_eqS (hD 4 53 (by decide) (by kernel_rfl)) s53
    obtain ⟨v54, g54, p54⟩ := getS (hD 5 54 (by decide) (by kernel_rfl)) s54
    obtain ⟨v48, g48, p48⟩ := getS (hD 6 48 (by decide) (by kernel_rfl)) s48
    obtain ⟨v55, g55, p55⟩ := getS (hD 7 55 (by decide) (by kernel_rfl)) s55
    have g56 := get_eqS (hD 8 56 (by decide) (by kernel_rfl)) s56
    obtain ⟨v11, g11, p11⟩ := getS (hD 9 11 (by decide) (by kernel_rfl)) s11
    have g12 := get_eqS (hD 10 12 (by decide) (by kernel_rfl)) s12
    have hT := conc [(49, .int .i64 0), (50, .pointer (some ⟨b8, 0, none⟩)), (51, .slice (some ⟨g0, 0, none⟩) 4 4), (52, .pointer (some ⟨w.heap.size, 0, none⟩)), (53, .agg #[.int .i64 X, .int .i64 Y]), (54, v54), (48, v48), (55, v55), (56, .bool true), (11, v11), (12, .bool true)] hs hF (by simp only [List.forall_mem_cons]; exact ⟨g49, g50, g51, g52, g53, g54, g48, g55, g56, g11, g12, fun p hp => absurd hp List.not_mem_nil⟩) (by kernel_rfl)
    simp only [List.foldl, List.setIfInBounds_toArray, List.set_cons_succ, List.set_cons_zero] at hT
    subst hT
    clear hF hD hs g49 g50 g51 g52 g53 g54 g48 g55 g56 g11 g12 s11 s12 s48 s49 s50 s51 s52 s53 s54 s55 s56
    obtain ⟨gx, cx_, rfl, px⟩ := p11
    replace HA := Lib.hid (blk_call HA.out hb8)
    replace R0 := Lib.hid (prow_below R0.out hb8)
    replace R1 := Lib.hid (prow_below R1.out hb8)
    replace R2 := Lib.hid (prow_below R2.out hb8)
    replace H8 := Lib.hid (blk_call H8.out hb8)
    replace M0 := Lib.hid (prow_below M0.out hb8)
    replace M1 := Lib.hid (prow_below M1.out hb8)
    replace M2 := Lib.hid (prow_below M2.out hb8)
    replace H9 := Lib.hid (blk_call H9.out hb8)
    replace B := Lib.hid (belT B.out hb8)
    replace TT := Lib.hid (Tab.below TT.out hb8)
    clear hb8
    have PX := Lib.hid px
    clear px
    have c0 := blk_cell H9.out 0 _ rfl
    have c1 := blk_cell H9.out 1 _ rfl
    have c2 := blk_cell H9.out 2 _ rfl
    go_wp2_with fail
    refine (equal_is _ _ U0.length 4 cx_ 4 U0 U0 true _ rfl NN0.out (Lib.hid (decide_eq_true rfl)) (by have := NN0.out; omega) (by have := NN0.out; omega) PX.out M0.out).mono ?_
    rintro e w8 ⟨rfl, hb8⟩
    clear c0 c1 c2
    replace HA := Lib.hid (blk_call HA.out hb8)
    replace R0 := Lib.hid (prow_below R0.out hb8)
    replace R1 := Lib.hid (prow_below R1.out hb8)
    replace R2 := Lib.hid (prow_below R2.out hb8)
    replace H8 := Lib.hid (blk_call H8.out hb8)
    replace M0 := Lib.hid (prow_below M0.out hb8)
    replace M1 := Lib.hid (prow_below M1.out hb8)
    replace M2 := Lib.hid (prow_below M2.out hb8)
    replace H9 := Lib.hid (blk_call H9.out hb8)
    replace PX := Lib.hid (prow_below PX.out hb8)
    replace B := Lib.hid (belT B.out hb8)
    replace TT := Lib.hid (Tab.below TT.out hb8)
    clear hb8
    clear PX
    have c0 := blk_cell H9.out 0 _ rfl
    have c1 := blk_cell H9.out 1 _ rfl
    have c2 := blk_cell H9.out 2 _ rfl
    go_wp2_with fail
    refine (valid_is _ 4 4 U0 true _ NN0.out NV0 (by have := NN0.out; omega) M0.out).mono ?_
    rintro e w9 ⟨rfl, hb9⟩
    clear c0 c1 c2
    replace HA := Lib.hid (blk_call HA.out hb9)
    replace R0 := Lib.hid (prow_below R0.out hb9)
    replace R1 := Lib.hid (prow_below R1.out hb9)
    replace R2 := Lib.hid (prow_below R2.out hb9)
    replace H8 := Lib.hid (blk_call H8.out hb9)
    replace M0 := Lib.hid (prow_below M0.out hb9)
    replace M1 := Lib.hid (prow_below M1.out hb9)
    replace M2 := Lib.hid (prow_below M2.out hb9)
    replace H9 := Lib.hid (blk_call H9.out hb9)
    replace B := Lib.hid (belT B.out hb9)
    replace TT := Lib.hid (Tab.below TT.out hb9)
    clear hb9
    go_wp2_with fail
    refine wp_loop_rounds 1 ?_
    rw [rounds_succ]
    go_wp2_with fail
    rw [rounds_succ]
    go_wp2_with fail
    obtain ⟨sp, hsp⟩ : ∃ sp : ToldS, sp = [none, none, none, none, none, none, none, none, none, none, none, some (rowB U1), some (eqS (.bool true)), none, none, none, none, none, none, none, none, none, none, none, none, none, none, none, none, none, none, none, none, none, none, none, none, none, none, none, none, none, none, none, none, none, none, none, some (turnS U1), some (eqS (.int .i64 1)), some (eqS (.pointer (some ⟨b8, 1, none⟩))), some (eqS (.slice (some ⟨g1, 0, none⟩) 4 4)), some (eqS (.pointer (some ⟨w.heap.size, 0, none⟩))), some (eqS (.agg #[.int .i64 X, .int .i64 Y])), some (turnS U1), some (rowB U1), some (eqS (.bool true))] := ⟨_, rfl⟩
    have s11 : sp.getD 11 none = some (rowB U1) := by rw [hsp]; rfl
    have s12 : sp.getD 12 none = some (eqS (.bool true)) := by rw [hsp]; rfl
    have s48 : sp.getD 48 none = some (turnS U1) := by rw [hsp]; rfl
    have s49 : sp.getD 49 none = some (eqS (.int .i64 1)) := by rw [hsp]; rfl
    have s50 : sp.getD 50 none = some (eqS (.pointer (some ⟨b8, 1, none⟩))) := by rw [hsp]; rfl
    have s51 : sp.getD 51 none = some (eqS (.slice (some ⟨g1, 0, none⟩) 4 4)) := by rw [hsp]; rfl
    have s52 : sp.getD 52 none = some (eqS (.pointer (some ⟨w.heap.size, 0, none⟩))) := by rw [hsp]; rfl
    have s53 : sp.getD 53 none = some (eqS (.agg #[.int .i64 X, .int .i64 Y])) := by rw [hsp]; rfl
    have s54 : sp.getD 54 none = some (turnS U1) := by rw [hsp]; rfl
    have s55 : sp.getD 55 none = some (rowB U1) := by rw [hsp]; rfl
    have s56 : sp.getD 56 none = some (eqS (.bool true)) := by rw [hsp]; rfl
    clear hsp
    refine (wpIn_wide (n := 0)).1 (region_allR (RtS sp) (rtS_keep sp) rfl rfl rfl (by kernel_rfl) (by kernel_rfl) (by kernel_rfl) ?_ ?_)
    · intro Q'
      refine obsR_cons ?_ ?_
      · intro T wx K hB hF hD hK
        have g10 : T[10]? = some (.int .i64 1) := hF 10 (freeM_of (by kernel_rfl))
        refine ob_yes (wanted_none rfl) ?_
        clear hF hD
        go_simp
        exact hK _ _ (Below.refl _ _) (rt_eqS s49)
      refine obsR_cons ?_ ?_
      · intro T wx K hB hF hD hK
        have g8 : T[8]? = some (.pointer (some ⟨b8, 0, none⟩)) := hF 8 (freeM_of (by kernel_rfl))
        have g49 := get_eqS (hD 0 49 (by simp [Region.binds]) (by kernel_rfl)) s49
        refine ob_yes (wanted_none rfl) ?_
        clear hF hD
        go_simp
        exact hK _ _ (Below.refl _ _) (rt_eqS s50)
      refine obsR_cons ?_ ?_
      · intro T wx K hB hF hD hK
        have g50 := get_eqS (hD 1 50 (by simp [Region.binds]) (by kernel_rfl)) s50
        refine ob_yes (wanted_none rfl) ?_
        clear hF hD
        have c0 := blk_cell (blk_call H8.out hB) 1 _ rfl
        go_simp
        exact hK _ _ (Below.refl _ _) (rt_eqS s51)
      refine obsR_cons ?_ ?_
      · intro T wx K hB hF hD hK
        have g2 : T[2]? = some (.pointer (some ⟨w.heap.size, 0, none⟩)) := hF 2 (freeM_of (by kernel_rfl))
        refine ob_yes (wanted_none rfl) ?_
        clear hF hD
        go_simp
        exact hK _ _ (Below.refl _ _) (rt_eqS s52)
      refine obsR_cons ?_ ?_
      · intro T wx K hB hF hD hK
        have g52 := get_eqS (hD 3 52 (by simp [Region.binds]) (by kernel_rfl)) s52
        refine ob_yes (wanted_none rfl) ?_
        clear hF hD
        have c0 := blk_cell (blk_call HA.out hB) 0 _ rfl
        have c1 := blk_cell (blk_call HA.out hB) 1 _ rfl
        go_simp
        exact hK _ _ (Below.refl _ _) (rt_eqS s53)
      refine obsR_cons ?_ ?_
      · intro T wx K hB hF hD hK
        have g51 := get_eqS (hD 2 51 (by simp [Region.binds]) (by kernel_rfl)) s51
        have g53 := get_eqS (hD 4 53 (by simp [Region.binds]) (by kernel_rfl)) s53
        refine ob_yes (wanted_none rfl) ?_
        clear hF hD
        go_simp
        refine (quarter14_is g1 4 X Y L1 U1 _ (TT.out.below hB) GN1.out hU1 (prow_below R1.out hB) GV1.out BX.out.1 BX.out.2).mono ?_; rintro e w9 ⟨⟨g9, c9, rfl, pr⟩, hb⟩
        exact hK _ _ hb (rt_S s54 ⟨g9, c9, rfl, pr⟩)
      refine obsR_cons ?_ ?_
      · intro T wx K hB hF hD hK
        obtain ⟨v54, g54, p54⟩ := getS (hD 5 54 (by simp [Region.binds]) (by kernel_rfl)) s54
        refine ob_yes (wanted_none rfl) ?_
        clear hF hD
        go_simp
        exact hK _ _ (Below.refl _ _) (rt_S s48 p54)
      refine obsR_cons ?_ ?_
      · intro T wx K hB hF hD hK
        obtain ⟨v48, g48, p48⟩ := getS (hD 6 48 (by simp [Region.binds]) (by kernel_rfl)) s48
        refine ob_yes (wanted_none rfl) ?_
        clear hF hD
        obtain ⟨g9, c9, rfl, pr⟩ := p48
        go_simp
        exact hK _ _ (Below.refl _ _) (rt_S s55 ⟨g9, c9, rfl, pr⟩)
      refine obsR_cons ?_ ?_
      · intro T wx K hB hF hD hK
        obtain ⟨v48, g48, p48⟩ := getS (hD 6 48 (by simp [Region.binds]) (by kernel_rfl)) s48
        refine ob_yes (wanted_none rfl) ?_
        clear hF hD
        obtain ⟨g9, c9, rfl, pr⟩ := p48
        go_simp
        exact hK _ _ (Below.refl _ _) (rt_eqS s56)
      refine obsR_cons ?_ ?_
      · intro T wx K hB hF hD hK
        obtain ⟨v55, g55, p55⟩ := getS (hD 7 55 (by simp [Region.binds]) (by kernel_rfl)) s55
        refine ob_yes (wanted_none rfl) ?_
        clear hF hD
        go_simp
        exact hK _ _ (Below.refl _ _) (rt_S s11 p55)
      refine obsR_cons ?_ ?_
      · intro T wx K hB hF hD hK
        have g56 := get_eqS (hD 8 56 (by simp [Region.binds]) (by kernel_rfl)) s56
        refine ob_yes (wanted_none rfl) ?_
        clear hF hD
        go_simp
        exact hK _ _ (Below.refl _ _) (rt_eqS s12)
      exact obsR_nil
    · intro T1 V1 hb8 hF hs hD
      have g49 := get_eqS (hD 0 49 (by decide) (by kernel_rfl)) s49
      have g50 := get_eqS (hD 1 50 (by decide) (by kernel_rfl)) s50
      have g51 := get_eqS (hD 2 51 (by decide) (by kernel_rfl)) s51
      have g52 := get_eqS (hD 3 52 (by decide) (by kernel_rfl)) s52
      have g53 := get_eqS (hD 4 53 (by decide) (by kernel_rfl)) s53
      obtain ⟨v54, g54, p54⟩ := getS (hD 5 54 (by decide) (by kernel_rfl)) s54
      obtain ⟨v48, g48, p48⟩ := getS (hD 6 48 (by decide) (by kernel_rfl)) s48
      obtain ⟨v55, g55, p55⟩ := getS (hD 7 55 (by decide) (by kernel_rfl)) s55
      have g56 := get_eqS (hD 8 56 (by decide) (by kernel_rfl)) s56
      obtain ⟨v11, g11, p11⟩ := getS (hD 9 11 (by decide) (by kernel_rfl)) s11
      have g12 := get_eqS (hD 10 12 (by decide) (by kernel_rfl)) s12
      have hT := conc [(49, .int .i64 1), (50, .pointer (some ⟨b8, 1, none⟩)), (51, .slice (some ⟨g1, 0, none⟩) 4 4), (52, .pointer (some ⟨w.heap.size, 0, none⟩)), (53, .agg #[.int .i64 X, .int .i64 Y]), (54, v54), (48, v48), (55, v55), (56, .bool true), (11, v11), (12, .bool true)] hs hF (by simp only [List.forall_mem_cons]; exact ⟨g49, g50, g51, g52, g53, g54, g48, g55, g56, g11, g12, fun p hp => absurd hp List.not_mem_nil⟩) (by kernel_rfl)
      simp only [List.foldl, List.setIfInBounds_toArray, List.set_cons_succ, List.set_cons_zero] at hT
      subst hT
      clear hF hD hs g49 g50 g51 g52 g53 g54 g48 g55 g56 g11 g12 s11 s12 s48 s49 s50 s51 s52 s53 s54 s55 s56
      obtain ⟨gx, cx_, rfl, px⟩ := p11
      replace HA := Lib.hid (blk_call HA.out hb8)
      replace R0 := Lib.hid (prow_below R0.out hb8)
      replace R1 := Lib.hid (prow_below R1.out hb8)
      replace R2 := Lib.hid (prow_below R2.out hb8)
      replace H8 := Lib.hid (blk_call H8.out hb8)
      replace M0 := Lib.hid (prow_below M0.out hb8)
      replace M1 := Lib.hid (prow_below M1.out hb8)
      replace M2 := Lib.hid (prow_below M2.out hb8)
      replace H9 := Lib.hid (blk_call H9.out hb8)
      replace B := Lib.hid (belT B.out hb8)
      replace TT := Lib.hid (Tab.below TT.out hb8)
      clear hb8
      have PX := Lib.hid px
      clear px
      have c0 := blk_cell H9.out 0 _ rfl
      have c1 := blk_cell H9.out 1 _ rfl
      have c2 := blk_cell H9.out 2 _ rfl
      go_wp2_with fail
      refine (equal_is _ _ U1.length 4 cx_ 4 U1 U1 true _ rfl NN1.out (Lib.hid (decide_eq_true rfl)) (by have := NN1.out; omega) (by have := NN1.out; omega) PX.out M1.out).mono ?_
      rintro e w10 ⟨rfl, hb10⟩
      clear c0 c1 c2
      replace HA := Lib.hid (blk_call HA.out hb10)
      replace R0 := Lib.hid (prow_below R0.out hb10)
      replace R1 := Lib.hid (prow_below R1.out hb10)
      replace R2 := Lib.hid (prow_below R2.out hb10)
      replace H8 := Lib.hid (blk_call H8.out hb10)
      replace M0 := Lib.hid (prow_below M0.out hb10)
      replace M1 := Lib.hid (prow_below M1.out hb10)
      replace M2 := Lib.hid (prow_below M2.out hb10)
      replace H9 := Lib.hid (blk_call H9.out hb10)
      replace PX := Lib.hid (prow_below PX.out hb10)
      replace B := Lib.hid (belT B.out hb10)
      replace TT := Lib.hid (Tab.below TT.out hb10)
      clear hb10
      clear PX
      have c0 := blk_cell H9.out 0 _ rfl
      have c1 := blk_cell H9.out 1 _ rfl
      have c2 := blk_cell H9.out 2 _ rfl
      go_wp2_with fail
      refine (valid_is _ 4 4 U1 true _ NN1.out NV1 (by have := NN1.out; omega) M1.out).mono ?_
      rintro e w11 ⟨rfl, hb11⟩
      clear c0 c1 c2
      replace HA := Lib.hid (blk_call HA.out hb11)
      replace R0 := Lib.hid (prow_below R0.out hb11)
      replace R1 := Lib.hid (prow_below R1.out hb11)
      replace R2 := Lib.hid (prow_below R2.out hb11)
      replace H8 := Lib.hid (blk_call H8.out hb11)
      replace M0 := Lib.hid (prow_below M0.out hb11)
      replace M1 := Lib.hid (prow_below M1.out hb11)
      replace M2 := Lib.hid (prow_below M2.out hb11)
      replace H9 := Lib.hid (blk_call H9.out hb11)
      replace B := Lib.hid (belT B.out hb11)
      replace TT := Lib.hid (Tab.below TT.out hb11)
      clear hb11
      go_wp2_with fail
      refine wp_loop_rounds 2 ?_
      rw [rounds_succ]
      go_wp2_with fail
      obtain ⟨sp, hsp⟩ : ∃ sp : ToldS, sp = [none, none, none, none, none, none, none, none, none, none, none, none, none, none, none, none, none, none, none, none, none, none, none, none, none, none, none, none, none, none, none, none, none, none, none, none, none, none, none, none, none, none, none, none, none, none, none, none, none, none, none, none, none, none, none, none, none, none, none, none, none, none, none, none, none, none, none, none, none, none, none, none, none, none, none, none, none, none, none, some (eqS (.int .i64 0)), some (eqS (.pointer (some ⟨b8, 0, none⟩))), some (eqS (.slice (some ⟨g0, 0, none⟩) 4 4)), some (eqS (.int .i64 1)), some (eqS (.pointer (some ⟨b8, 1, none⟩))), some (eqS (.slice (some ⟨g1, 0, none⟩) 4 4)), some (eqS (.bool t01)), some (eqS (.int .i64 0)), some (eqS (.pointer (some ⟨b9, 0, none⟩))), some (eqS (.slice (some ⟨m0, 0, none⟩) 4 4)), some (eqS (.int .i64 1)), some (eqS (.pointer (some ⟨b9, 1, none⟩))), some (eqS (.slice (some ⟨m1, 0, none⟩) 4 4)), some (eqS (.bool t01)), some (eqS (.bool false))] := ⟨_, rfl⟩
      have s79 : sp.getD 79 none = some (eqS (.int .i64 0)) := by rw [hsp]; rfl
      have s80 : sp.getD 80 none = some (eqS (.pointer (some ⟨b8, 0, none⟩))) := by rw [hsp]; rfl
      have s81 : sp.getD 81 none = some (eqS (.slice (some ⟨g0, 0, none⟩) 4 4)) := by rw [hsp]; rfl
      have s82 : sp.getD 82 none = some (eqS (.int .i64 1)) := by rw [hsp]; rfl
      have s83 : sp.getD 83 none = some (eqS (.pointer (some ⟨b8, 1, none⟩))) := by rw [hsp]; rfl
      have s84 : sp.getD 84 none = some (eqS (.slice (some ⟨g1, 0, none⟩) 4 4)) := by rw [hsp]; rfl
      have s85 : sp.getD 85 none = some (eqS (.bool t01)) := by rw [hsp]; rfl
      have s86 : sp.getD 86 none = some (eqS (.int .i64 0)) := by rw [hsp]; rfl
      have s87 : sp.getD 87 none = some (eqS (.pointer (some ⟨b9, 0, none⟩))) := by rw [hsp]; rfl
      have s88 : sp.getD 88 none = some (eqS (.slice (some ⟨m0, 0, none⟩) 4 4)) := by rw [hsp]; rfl
      have s89 : sp.getD 89 none = some (eqS (.int .i64 1)) := by rw [hsp]; rfl
      have s90 : sp.getD 90 none = some (eqS (.pointer (some ⟨b9, 1, none⟩))) := by rw [hsp]; rfl
      have s91 : sp.getD 91 none = some (eqS (.slice (some ⟨m1, 0, none⟩) 4 4)) := by rw [hsp]; rfl
      have s92 : sp.getD 92 none = some (eqS (.bool t01)) := by rw [hsp]; rfl
      have s93 : sp.getD 93 none = some (eqS (.bool false)) := by rw [hsp]; rfl
      clear hsp
      refine (wpIn_wide (n := 0)).1 (region_allR (RtS sp) (rtS_keep sp) rfl rfl rfl (by kernel_rfl) (by kernel_rfl) (by kernel_rfl) ?_ ?_)
      · intro Q'
        refine obsR_cons ?_ ?_
        · intro T wx K hB hF hD hK
          have g13 : T[13]? = some (.int .i64 0) := hF 13 (freeM_of (by kernel_rfl))
          refine ob_yes (wanted_none rfl) ?_
          clear hF hD
          go_simp
          exact hK _ _ (Below.refl _ _) (rt_eqS s79)
        refine obsR_cons ?_ ?_
        · intro T wx K hB hF hD hK
          have g8 : T[8]? = some (.pointer (some ⟨b8, 0, none⟩)) := hF 8 (freeM_of (by kernel_rfl))
          have g79 := get_eqS (hD 0 79 (by simp [Region.binds]) (by kernel_rfl)) s79
          refine ob_yes (wanted_none rfl) ?_
          clear hF hD
          go_simp
          exact hK _ _ (Below.refl _ _) (rt_eqS s80)
        refine obsR_cons ?_ ?_
        · intro T wx K hB hF hD hK
          have g80 := get_eqS (hD 1 80 (by simp [Region.binds]) (by kernel_rfl)) s80
          refine ob_yes (wanted_none rfl) ?_
          clear hF hD
          have c0 := blk_cell (blk_call H8.out hB) 0 _ rfl
          go_simp
          exact hK _ _ (Below.refl _ _) (rt_eqS s81)
        refine obsR_cons ?_ ?_
        · intro T wx K hB hF hD hK
          have g10 : T[10]? = some (.int .i64 1) := hF 10 (freeM_of (by kernel_rfl))
          refine ob_yes (wanted_none rfl) ?_
          clear hF hD
          go_simp
          exact hK _ _ (Below.refl _ _) (rt_eqS s82)
        refine obsR_cons ?_ ?_
        · intro T wx K hB hF hD hK
          have g8 : T[8]? = some (.pointer (some ⟨b8, 0, none⟩)) := hF 8 (freeM_of (by kernel_rfl))
          have g82 := get_eqS (hD 3 82 (by simp [Region.binds]) (by kernel_rfl)) s82
          refine ob_yes (wanted_none rfl) ?_
          clear hF hD
          go_simp
          exact hK _ _ (Below.refl _ _) (rt_eqS s83)
        refine obsR_cons ?_ ?_
        · intro T wx K hB hF hD hK
          have g83 := get_eqS (hD 4 83 (by simp [Region.binds]) (by kernel_rfl)) s83
          refine ob_yes (wanted_none rfl) ?_
          clear hF hD
          have c0 := blk_cell (blk_call H8.out hB) 1 _ rfl
          go_simp
          exact hK _ _ (Below.refl _ _) (rt_eqS s84)
        refine obsR_cons ?_ ?_
        · intro T wx K hB hF hD hK
          have g81 := get_eqS (hD 2 81 (by simp [Region.binds]) (by kernel_rfl)) s81
          have g84 := get_eqS (hD 5 84 (by simp [Region.binds]) (by kernel_rfl)) s84
          refine ob_yes (wanted_none rfl) ?_
          clear hF hD
          go_simp
          refine (polygons_is _ _ 4 4 4 4 L0 L1 t01 _ GN0.out GN1.out ht01 (by omega) (by omega) (by omega) (by omega) (prow_below R0.out hB) (prow_below R1.out hB) GV0.out.allr2 GV1.out.allr2).mono ?_; rintro e w9 ⟨rfl, hb⟩
          exact hK _ _ hb (rt_eqS s85)
        refine obsR_cons ?_ ?_
        · intro T wx K hB hF hD hK
          have g13 : T[13]? = some (.int .i64 0) := hF 13 (freeM_of (by kernel_rfl))
          refine ob_yes (wanted_none rfl) ?_
          clear hF hD
          go_simp
          exact hK _ _ (Below.refl _ _) (rt_eqS s86)
        refine obsR_cons ?_ ?_
        · intro T wx K hB hF hD hK
          have g9 : T[9]? = some (.pointer (some ⟨b9, 0, none⟩)) := hF 9 (freeM_of (by kernel_rfl))
          have g86 := get_eqS (hD 7 86 (by simp [Region.binds]) (by kernel_rfl)) s86
          refine ob_yes (wanted_none rfl) ?_
          clear hF hD
          go_simp
          exact hK _ _ (Below.refl _ _) (rt_eqS s87)
        refine obsR_cons ?_ ?_
        · intro T wx K hB hF hD hK
          have g87 := get_eqS (hD 8 87 (by simp [Region.binds]) (by kernel_rfl)) s87
          refine ob_yes (wanted_none rfl) ?_
          clear hF hD
          have c0 := blk_cell (blk_call H9.out hB) 0 _ rfl
          go_simp
          exact hK _ _ (Below.refl _ _) (rt_eqS s88)
        refine obsR_cons ?_ ?_
        · intro T wx K hB hF hD hK
          have g10 : T[10]? = some (.int .i64 1) := hF 10 (freeM_of (by kernel_rfl))
          refine ob_yes (wanted_none rfl) ?_
          clear hF hD
          go_simp
          exact hK _ _ (Below.refl _ _) (rt_eqS s89)
        refine obsR_cons ?_ ?_
        · intro T wx K hB hF hD hK
          have g9 : T[9]? = some (.pointer (some ⟨b9, 0, none⟩)) := hF 9 (freeM_of (by kernel_rfl))
          have g89 := get_eqS (hD 10 89 (by simp [Region.binds]) (by kernel_rfl)) s89
          refine ob_yes (wanted_none rfl) ?_
          clear hF hD
          go_simp
          exact hK _ _ (Below.refl _ _) (rt_eqS s90)
        refine obsR_cons ?_ ?_
        · intro T wx K hB hF hD hK
          have g90 := get_eqS (hD 11 90 (by simp [Region.binds]) (by kernel_rfl)) s90
          refine ob_yes (wanted_none rfl) ?_
          clear hF hD
          have c0 := blk_cell (blk_call H9.out hB) 1 _ rfl
          go_simp
          exact hK _ _ (Below.refl _ _) (rt_eqS s91)
        refine obsR_cons ?_ ?_
        · intro T wx K hB hF hD hK
          have g88 := get_eqS (hD 9 88 (by simp [Region.binds]) (by kernel_rfl)) s88
          have g91 := get_eqS (hD 12 91 (by simp [Region.binds]) (by kernel_rfl)) s91
          refine ob_yes (wanted_none rfl) ?_
          clear hF hD
          go_simp
          refine (polygons_is _ _ 4 4 4 4 U0 U1 t01 _ NN0.out NN1.out hu01 (by omega) (by omega) (by omega) (by omega) (prow_below M0.out hB) (prow_below M1.out hB) NA0.out.allr2 NA1.out.allr2).mono ?_; rintro e w9 ⟨rfl, hb⟩
          exact hK _ _ hb (rt_eqS s92)
        refine obsR_cons ?_ ?_
        · intro T wx K hB hF hD hK
          have g85 := get_eqS (hD 6 85 (by simp [Region.binds]) (by kernel_rfl)) s85
          have g92 := get_eqS (hD 13 92 (by simp [Region.binds]) (by kernel_rfl)) s92
          refine ob_yes (wanted_none rfl) ?_
          clear hF hD
          have bb : (t01 != t01) = false := by cases t01 <;> rfl
          go_simp
          exact hK _ _ (Below.refl _ _) (rt_eqS s93)
        exact obsR_nil
      · intro S01 Y01 hb8 hF hs hD
        have g79 := get_eqS (hD 0 79 (by decide) (by kernel_rfl)) s79
        have g80 := get_eqS (hD 1 80 (by decide) (by kernel_rfl)) s80
        have g81 := get_eqS (hD 2 81 (by decide) (by kernel_rfl)) s81
        have g82 := get_eqS (hD 3 82 (by decide) (by kernel_rfl)) s82
        have g83 := get_eqS (hD 4 83 (by decide) (by kernel_rfl)) s83
        have g84 := get_eqS (hD 5 84 (by decide) (by kernel_rfl)) s84
        have g85 := get_eqS (hD 6 85 (by decide) (by kernel_rfl)) s85
        have g86 := get_eqS (hD 7 86 (by decide) (by kernel_rfl)) s86
        have g87 := get_eqS (hD 8 87 (by decide) (by kernel_rfl)) s87
        have g88 := get_eqS (hD 9 88 (by decide) (by kernel_rfl)) s88
        have g89 := get_eqS (hD 10 89 (by decide) (by kernel_rfl)) s89
        have g90 := get_eqS (hD 11 90 (by decide) (by kernel_rfl)) s90
        have g91 := get_eqS (hD 12 91 (by decide) (by kernel_rfl)) s91
        have g92 := get_eqS (hD 13 92 (by decide) (by kernel_rfl)) s92
        have g93 := get_eqS (hD 14 93 (by decide) (by kernel_rfl)) s93
        have hT := conc [(79, .int .i64 0), (80, .pointer (some ⟨b8, 0, none⟩)), (81, .slice (some ⟨g0, 0, none⟩) 4 4), (82, .int .i64 1), (83, .pointer (some ⟨b8, 1, none⟩)), (84, .slice (some ⟨g1, 0, none⟩) 4 4), (85, .bool t01), (86, .int .i64 0), (87, .pointer (some ⟨b9, 0, none⟩)), (88, .slice (some ⟨m0, 0, none⟩) 4 4), (89, .int .i64 1), (90, .pointer (some ⟨b9, 1, none⟩)), (91, .slice (some ⟨m1, 0, none⟩) 4 4), (92, .bool t01), (93, .bool false)] hs hF (by simp only [List.forall_mem_cons]; exact ⟨g79, g80, g81, g82, g83, g84, g85, g86, g87, g88, g89, g90, g91, g92, g93, fun p hp => absurd hp List.not_mem_nil⟩) (by kernel_rfl)
        simp only [List.foldl, List.setIfInBounds_toArray, List.set_cons_succ, List.set_cons_zero] at hT
        subst hT
        clear hF hD hs g79 g80 g81 g82 g83 g84 g85 g86 g87 g88 g89 g90 g91 g92 g93 s79 s80 s81 s82 s83 s84 s85 s86 s87 s88 s89 s90 s91 s92 s93
        replace HA := Lib.hid (blk_call HA.out hb8)
        replace R0 := Lib.hid (prow_below R0.out hb8)
        replace R1 := Lib.hid (prow_below R1.out hb8)
        replace R2 := Lib.hid (prow_below R2.out hb8)
        replace H8 := Lib.hid (blk_call H8.out hb8)
        replace M0 := Lib.hid (prow_below M0.out hb8)
        replace M1 := Lib.hid (prow_below M1.out hb8)
        replace M2 := Lib.hid (prow_below M2.out hb8)
        replace H9 := Lib.hid (blk_call H9.out hb8)
        replace B := Lib.hid (belT B.out hb8)
        replace TT := Lib.hid (Tab.below TT.out hb8)
        clear hb8
        go_wp2_with fail
        rw [rounds_succ]
        go_wp2_with fail
        rw [rounds_succ]
        go_wp2_with fail
        obtain ⟨sp, hsp⟩ : ∃ sp : ToldS, sp = [none, none, none, none, none, none, none, none, none, none, none, some (rowB U2), some (eqS (.bool true)), none, none, none, none, none, none, none, none, none, none, none, none, none, none, none, none, none, none, none, none, none, none, none, none, none, none, none, none, none, none, none, none, none, none, none, some (turnS U2), some (eqS (.int .i64 2)), some (eqS (.pointer (some ⟨b8, 2, none⟩))), some (eqS (.slice (some ⟨g2, 0, none⟩) 4 4)), some (eqS (.pointer (some ⟨w.heap.size, 0, none⟩))), some (eqS (.agg #[.int .i64 X, .int .i64 Y])), some (turnS U2), some (rowB U2), some (eqS (.bool true))] := ⟨_, rfl⟩
        have s11 : sp.getD 11 none = some (rowB U2) := by rw [hsp]; rfl
        have s12 : sp.getD 12 none = some (eqS (.bool true)) := by rw [hsp]; rfl
        have s48 : sp.getD 48 none = some (turnS U2) := by rw [hsp]; rfl
        have s49 : sp.getD 49 none = some (eqS (.int .i64 2)) := by rw [hsp]; rfl
        have s50 : sp.getD 50 none = some (eqS (.pointer (some ⟨b8, 2, none⟩))) := by rw [hsp]; rfl
        have s51 : sp.getD 51 none = some (eqS (.slice (some ⟨g2, 0, none⟩) 4 4)) := by rw [hsp]; rfl
        have s52 : sp.getD 52 none = some (eqS (.pointer (some ⟨w.heap.size, 0, none⟩))) := by rw [hsp]; rfl
        have s53 : sp.getD 53 none = some (eqS (.agg #[.int .i64 X, .int .i64 Y])) := by rw [hsp]; rfl
        have s54 : sp.getD 54 none = some (turnS U2) := by rw [hsp]; rfl
        have s55 : sp.getD 55 none = some (rowB U2) := by rw [hsp]; rfl
        have s56 : sp.getD 56 none = some (eqS (.bool true)) := by rw [hsp]; rfl
        clear hsp
        refine (wpIn_wide (n := 0)).1 (region_allR (RtS sp) (rtS_keep sp) rfl rfl rfl (by kernel_rfl) (by kernel_rfl) (by kernel_rfl) ?_ ?_)
        · intro Q'
          refine obsR_cons ?_ ?_
          · intro T wx K hB hF hD hK
            have g10 : T[10]? = some (.int .i64 2) := hF 10 (freeM_of (by kernel_rfl))
            refine ob_yes (wanted_none rfl) ?_
            clear hF hD
            go_simp
            exact hK _ _ (Below.refl _ _) (rt_eqS s49)
          refine obsR_cons ?_ ?_
          · intro T wx K hB hF hD hK
            have g8 : T[8]? = some (.pointer (some ⟨b8, 0, none⟩)) := hF 8 (freeM_of (by kernel_rfl))
            have g49 := get_eqS (hD 0 49 (by simp [Region.binds]) (by kernel_rfl)) s49
            refine ob_yes (wanted_none rfl) ?_
            clear hF hD
            go_simp
            exact hK _ _ (Below.refl _ _) (rt_eqS s50)
          refine obsR_cons ?_ ?_
          · intro T wx K hB hF hD hK
            have g50 := get_eqS (hD 1 50 (by simp [Region.binds]) (by kernel_rfl)) s50
            refine ob_yes (wanted_none rfl) ?_
            clear hF hD
            have c0 := blk_cell (blk_call H8.out hB) 2 _ rfl
            go_simp
            exact hK _ _ (Below.refl _ _) (rt_eqS s51)
          refine obsR_cons ?_ ?_
          · intro T wx K hB hF hD hK
            have g2 : T[2]? = some (.pointer (some ⟨w.heap.size, 0, none⟩)) := hF 2 (freeM_of (by kernel_rfl))
            refine ob_yes (wanted_none rfl) ?_
            clear hF hD
            go_simp
            exact hK _ _ (Below.refl _ _) (rt_eqS s52)
          refine obsR_cons ?_ ?_
          · intro T wx K hB hF hD hK
            have g52 := get_eqS (hD 3 52 (by simp [Region.binds]) (by kernel_rfl)) s52
            refine ob_yes (wanted_none rfl) ?_
            clear hF hD
            have c0 := blk_cell (blk_call HA.out hB) 0 _ rfl
            have c1 := blk_cell (blk_call HA.out hB) 1 _ rfl
            go_simp
            exact hK _ _ (Below.refl _ _) (rt_eqS s53)
          refine obsR_cons ?_ ?_
          · intro T wx K hB hF hD hK
            have g51 := get_eqS (hD 2 51 (by simp [Region.binds]) (by kernel_rfl)) s51
            have g53 := get_eqS (hD 4 53 (by simp [Region.binds]) (by kernel_rfl)) s53
            refine ob_yes (wanted_none rfl) ?_
            clear hF hD
            go_simp
            refine (quarter14_is g2 4 X Y L2 U2 _ (TT.out.below hB) GN2.out hU2 (prow_below R2.out hB) GV2.out BX.out.1 BX.out.2).mono ?_; rintro e w9 ⟨⟨g9, c9, rfl, pr⟩, hb⟩
            exact hK _ _ hb (rt_S s54 ⟨g9, c9, rfl, pr⟩)
          refine obsR_cons ?_ ?_
          · intro T wx K hB hF hD hK
            obtain ⟨v54, g54, p54⟩ := getS (hD 5 54 (by simp [Region.binds]) (by kernel_rfl)) s54
            refine ob_yes (wanted_none rfl) ?_
            clear hF hD
            go_simp
            exact hK _ _ (Below.refl _ _) (rt_S s48 p54)
          refine obsR_cons ?_ ?_
          · intro T wx K hB hF hD hK
            obtain ⟨v48, g48, p48⟩ := getS (hD 6 48 (by simp [Region.binds]) (by kernel_rfl)) s48
            refine ob_yes (wanted_none rfl) ?_
            clear hF hD
            obtain ⟨g9, c9, rfl, pr⟩ := p48
            go_simp
            exact hK _ _ (Below.refl _ _) (rt_S s55 ⟨g9, c9, rfl, pr⟩)
          refine obsR_cons ?_ ?_
          · intro T wx K hB hF hD hK
            obtain ⟨v48, g48, p48⟩ := getS (hD 6 48 (by simp [Region.binds]) (by kernel_rfl)) s48
            refine ob_yes (wanted_none rfl) ?_
            clear hF hD
            obtain ⟨g9, c9, rfl, pr⟩ := p48
            go_simp
            exact hK _ _ (Below.refl _ _) (rt_eqS s56)
          refine obsR_cons ?_ ?_
          · intro T wx K hB hF hD hK
            obtain ⟨v55, g55, p55⟩ := getS (hD 7 55 (by simp [Region.binds]) (by kernel_rfl)) s55
            refine ob_yes (wanted_none rfl) ?_
            clear hF hD
            go_simp
            exact hK _ _ (Below.refl _ _) (rt_S s11 p55)
          refine obsR_cons ?_ ?_
          · intro T wx K hB hF hD hK
            have g56 := get_eqS (hD 8 56 (by simp [Region.binds]) (by kernel_rfl)) s56
            refine ob_yes (wanted_none rfl) ?_
            clear hF hD
            go_simp
            exact hK _ _ (Below.refl _ _) (rt_eqS s12)
          exact obsR_nil
        · intro T2 V2 hb8 hF hs hD
          have g49 := get_eqS (hD 0 49 (by decide) (by kernel_rfl)) s49
          have g50 := get_eqS (hD 1 50 (by decide) (by kernel_rfl)) s50
          have g51 := get_eqS (hD 2 51 (by decide) (by kernel_rfl)) s51
          have g52 := get_eqS (hD 3 52 (by decide) (by kernel_rfl)) s52
          have g53 := get_eqS (hD 4 53 (by decide) (by kernel_rfl)) s53
          obtain ⟨v54, g54, p54⟩ := getS (hD 5 54 (by decide) (by kernel_rfl)) s54
          obtain ⟨v48, g48, p48⟩ := getS (hD 6 48 (by decide) (by kernel_rfl)) s48
          obtain ⟨v55, g55, p55⟩ := getS (hD 7 55 (by decide) (by kernel_rfl)) s55
          have g56 := get_eqS (hD 8 56 (by decide) (by kernel_rfl)) s56
          obtain ⟨v11, g11, p11⟩ := getS (hD 9 11 (by decide) (by kernel_rfl)) s11
          have g12 := get_eqS (hD 10 12 (by decide) (by kernel_rfl)) s12
          have hT := conc [(49, .int .i64 2), (50, .pointer (some ⟨b8, 2, none⟩)), (51, .slice (some ⟨g2, 0, none⟩) 4 4), (52, .pointer (some ⟨w.heap.size, 0, none⟩)), (53, .agg #[.int .i64 X, .int .i64 Y]), (54, v54), (48, v48), (55, v55), (56, .bool true), (11, v11), (12, .bool true)] hs hF (by simp only [List.forall_mem_cons]; exact ⟨g49, g50, g51, g52, g53, g54, g48, g55, g56, g11, g12, fun p hp => absurd hp List.not_mem_nil⟩) (by kernel_rfl)
          simp only [List.foldl, List.setIfInBounds_toArray, List.set_cons_succ, List.set_cons_zero] at hT
          subst hT
          clear hF hD hs g49 g50 g51 g52 g53 g54 g48 g55 g56 g11 g12 s11 s12 s48 s49 s50 s51 s52 s53 s54 s55 s56
          obtain ⟨gx, cx_, rfl, px⟩ := p11
          replace HA := Lib.hid (blk_call HA.out hb8)
          replace R0 := Lib.hid (prow_below R0.out hb8)
          replace R1 := Lib.hid (prow_below R1.out hb8)
          replace R2 := Lib.hid (prow_below R2.out hb8)
          replace H8 := Lib.hid (blk_call H8.out hb8)
          replace M0 := Lib.hid (prow_below M0.out hb8)
          replace M1 := Lib.hid (prow_below M1.out hb8)
          replace M2 := Lib.hid (prow_below M2.out hb8)
          replace H9 := Lib.hid (blk_call H9.out hb8)
          replace B := Lib.hid (belT B.out hb8)
          replace TT := Lib.hid (Tab.below TT.out hb8)
          clear hb8
          have PX := Lib.hid px
          clear px
          have c0 := blk_cell H9.out 0 _ rfl
          have c1 := blk_cell H9.out 1 _ rfl
          have c2 := blk_cell H9.out 2 _ rfl
          go_wp2_with fail
          refine (equal_is _ _ U2.length 4 cx_ 4 U2 U2 true _ rfl NN2.out (Lib.hid (decide_eq_true rfl)) (by have := NN2.out; omega) (by have := NN2.out; omega) PX.out M2.out).mono ?_
          rintro e w12 ⟨rfl, hb12⟩
          clear c0 c1 c2
          replace HA := Lib.hid (blk_call HA.out hb12)
          replace R0 := Lib.hid (prow_below R0.out hb12)
          replace R1 := Lib.hid (prow_below R1.out hb12)
          replace R2 := Lib.hid (prow_below R2.out hb12)
          replace H8 := Lib.hid (blk_call H8.out hb12)
          replace M0 := Lib.hid (prow_below M0.out hb12)
          replace M1 := Lib.hid (prow_below M1.out hb12)
          replace M2 := Lib.hid (prow_below M2.out hb12)
          replace H9 := Lib.hid (blk_call H9.out hb12)
          replace PX := Lib.hid (prow_below PX.out hb12)
          replace B := Lib.hid (belT B.out hb12)
          replace TT := Lib.hid (Tab.below TT.out hb12)
          clear hb12
          clear PX
          have c0 := blk_cell H9.out 0 _ rfl
          have c1 := blk_cell H9.out 1 _ rfl
          have c2 := blk_cell H9.out 2 _ rfl
          go_wp2_with fail
          refine (valid_is _ 4 4 U2 true _ NN2.out NV2 (by have := NN2.out; omega) M2.out).mono ?_
          rintro e w13 ⟨rfl, hb13⟩
          clear c0 c1 c2
          replace HA := Lib.hid (blk_call HA.out hb13)
          replace R0 := Lib.hid (prow_below R0.out hb13)
          replace R1 := Lib.hid (prow_below R1.out hb13)
          replace R2 := Lib.hid (prow_below R2.out hb13)
          replace H8 := Lib.hid (blk_call H8.out hb13)
          replace M0 := Lib.hid (prow_below M0.out hb13)
          replace M1 := Lib.hid (prow_below M1.out hb13)
          replace M2 := Lib.hid (prow_below M2.out hb13)
          replace H9 := Lib.hid (blk_call H9.out hb13)
          replace B := Lib.hid (belT B.out hb13)
          replace TT := Lib.hid (Tab.below TT.out hb13)
          clear hb13
          go_wp2_with fail
          refine wp_loop_rounds 3 ?_
          rw [rounds_succ]
          go_wp2_with fail
          obtain ⟨sp, hsp⟩ : ∃ sp : ToldS, sp = [none, none, none, none, none, none, none, none, none, none, none, none, none, none, none, none, none, none, none, none, none, none, none, none, none, none, none, none, none, none, none, none, none, none, none, none, none, none, none, none, none, none, none, none, none, none, none, none, none, none, none, none, none, none, none, none, none, none, none, none, none, none, none, none, none, none, none, none, none, none, none, none, none, none, none, none, none, none, none, some (eqS (.int .i64 0)), some (eqS (.pointer (some ⟨b8, 0, none⟩))), some (eqS (.slice (some ⟨g0, 0, none⟩) 4 4)), some (eqS (.int .i64 2)), some (eqS (.pointer (some ⟨b8, 2, none⟩))), some (eqS (.slice (some ⟨g2, 0, none⟩) 4 4)), some (eqS (.bool t02)), some (eqS (.int .i64 0)), some (eqS (.pointer (some ⟨b9, 0, none⟩))), some (eqS (.slice (some ⟨m0, 0, none⟩) 4 4)), some (eqS (.int .i64 2)), some (eqS (.pointer (some ⟨b9, 2, none⟩))), some (eqS (.slice (some ⟨m2, 0, none⟩) 4 4)), some (eqS (.bool t02)), some (eqS (.bool false))] := ⟨_, rfl⟩
          have s79 : sp.getD 79 none = some (eqS (.int .i64 0)) := by rw [hsp]; rfl
          have s80 : sp.getD 80 none = some (eqS (.pointer (some ⟨b8, 0, none⟩))) := by rw [hsp]; rfl
          have s81 : sp.getD 81 none = some (eqS (.slice (some ⟨g0, 0, none⟩) 4 4)) := by rw [hsp]; rfl
          have s82 : sp.getD 82 none = some (eqS (.int .i64 2)) := by rw [hsp]; rfl
          have s83 : sp.getD 83 none = some (eqS (.pointer (some ⟨b8, 2, none⟩))) := by rw [hsp]; rfl
          have s84 : sp.getD 84 none = some (eqS (.slice (some ⟨g2, 0, none⟩) 4 4)) := by rw [hsp]; rfl
          have s85 : sp.getD 85 none = some (eqS (.bool t02)) := by rw [hsp]; rfl
          have s86 : sp.getD 86 none = some (eqS (.int .i64 0)) := by rw [hsp]; rfl
          have s87 : sp.getD 87 none = some (eqS (.pointer (some ⟨b9, 0, none⟩))) := by rw [hsp]; rfl
          have s88 : sp.getD 88 none = some (eqS (.slice (some ⟨m0, 0, none⟩) 4 4)) := by rw [hsp]; rfl
          have s89 : sp.getD 89 none = some (eqS (.int .i64 2)) := by rw [hsp]; rfl
          have s90 : sp.getD 90 none = some (eqS (.pointer (some ⟨b9, 2, none⟩))) := by rw [hsp]; rfl
          have s91 : sp.getD 91 none = some (eqS (.slice (some ⟨m2, 0, none⟩) 4 4)) := by rw [hsp]; rfl
          have s92 : sp.getD 92 none = some (eqS (.bool t02)) := by rw [hsp]; rfl
          have s93 : sp.getD 93 none = some (eqS (.bool false)) := by rw [hsp]; rfl
          clear hsp
          refine (wpIn_wide (n := 0)).1 (region_allR (RtS sp) (rtS_keep sp) rfl rfl rfl (by kernel_rfl) (by kernel_rfl) (by kernel_rfl) ?_ ?_)
          · intro Q'
            refine obsR_cons ?_ ?_
            · intro T wx K hB hF hD hK
              have g13 : T[13]? = some (.int .i64 0) := hF 13 (freeM_of (by kernel_rfl))
              refine ob_yes (wanted_none rfl) ?_
              clear hF hD
              go_simp
              exact hK _ _ (Below.refl _ _) (rt_eqS s79)
            refine obsR_cons ?_ ?_
            · intro T wx K hB hF hD hK
              have g8 : T[8]? = some (.pointer (some ⟨b8, 0, none⟩)) := hF 8 (freeM_of (by kernel_rfl))
              have g79 := get_eqS (hD 0 79 (by simp [Region.binds]) (by kernel_rfl)) s79
              refine ob_yes (wanted_none rfl) ?_
              clear hF hD
              go_simp
              exact hK _ _ (Below.refl _ _) (rt_eqS s80)
            refine obsR_cons ?_ ?_
            · intro T wx K hB hF hD hK
              have g80 := get_eqS (hD 1 80 (by simp [Region.binds]) (by kernel_rfl)) s80
              refine ob_yes (wanted_none rfl) ?_
              clear hF hD
              have c0 := blk_cell (blk_call H8.out hB) 0 _ rfl
              go_simp
              exact hK _ _ (Below.refl _ _) (rt_eqS s81)
            refine obsR_cons ?_ ?_
            · intro T wx K hB hF hD hK
              have g10 : T[10]? = some (.int .i64 2) := hF 10 (freeM_of (by kernel_rfl))
              refine ob_yes (wanted_none rfl) ?_
              clear hF hD
              go_simp
              exact hK _ _ (Below.refl _ _) (rt_eqS s82)
            refine obsR_cons ?_ ?_
            · intro T wx K hB hF hD hK
              have g8 : T[8]? = some (.pointer (some ⟨b8, 0, none⟩)) := hF 8 (freeM_of (by kernel_rfl))
              have g82 := get_eqS (hD 3 82 (by simp [Region.binds]) (by kernel_rfl)) s82
              refine ob_yes (wanted_none rfl) ?_
              clear hF hD
              go_simp
              exact hK _ _ (Below.refl _ _) (rt_eqS s83)
            refine obsR_cons ?_ ?_
            · intro T wx K hB hF hD hK
              have g83 := get_eqS (hD 4 83 (by simp [Region.binds]) (by kernel_rfl)) s83
              refine ob_yes (wanted_none rfl) ?_
              clear hF hD
              have c0 := blk_cell (blk_call H8.out hB) 2 _ rfl
              go_simp
              exact hK _ _ (Below.refl _ _) (rt_eqS s84)
            refine obsR_cons ?_ ?_
            · intro T wx K hB hF hD hK
              have g81 := get_eqS (hD 2 81 (by simp [Region.binds]) (by kernel_rfl)) s81
              have g84 := get_eqS (hD 5 84 (by simp [Region.binds]) (by kernel_rfl)) s84
              refine ob_yes (wanted_none rfl) ?_
              clear hF hD
              go_simp
              refine (polygons_is _ _ 4 4 4 4 L0 L2 t02 _ GN0.out GN2.out ht02 (by omega) (by omega) (by omega) (by omega) (prow_below R0.out hB) (prow_below R2.out hB) GV0.out.allr2 GV2.out.allr2).mono ?_; rintro e w9 ⟨rfl, hb⟩
              exact hK _ _ hb (rt_eqS s85)
            refine obsR_cons ?_ ?_
            · intro T wx K hB hF hD hK
              have g13 : T[13]? = some (.int .i64 0) := hF 13 (freeM_of (by kernel_rfl))
              refine ob_yes (wanted_none rfl) ?_
              clear hF hD
              go_simp
              exact hK _ _ (Below.refl _ _) (rt_eqS s86)
            refine obsR_cons ?_ ?_
            · intro T wx K hB hF hD hK
              have g9 : T[9]? = some (.pointer (some ⟨b9, 0, none⟩)) := hF 9 (freeM_of (by kernel_rfl))
              have g86 := get_eqS (hD 7 86 (by simp [Region.binds]) (by kernel_rfl)) s86
              refine ob_yes (wanted_none rfl) ?_
              clear hF hD
              go_simp
              exact hK _ _ (Below.refl _ _) (rt_eqS s87)
            refine obsR_cons ?_ ?_
            · intro T wx K hB hF hD hK
              have g87 := get_eqS (hD 8 87 (by simp [Region.binds]) (by kernel_rfl)) s87
              refine ob_yes (wanted_none rfl) ?_
              clear hF hD
              have c0 := blk_cell (blk_call H9.out hB) 0 _ rfl
              go_simp
              exact hK _ _ (Below.refl _ _) (rt_eqS s88)
            refine obsR_cons ?_ ?_
            · intro T wx K hB hF hD hK
              have g10 : T[10]? = some (.int .i64 2) := hF 10 (freeM_of (by kernel_rfl))
              refine ob_yes (wanted_none rfl) ?_
              clear hF hD
              go_simp
              exact hK _ _ (Below.refl _ _) (rt_eqS s89)
            refine obsR_cons ?_ ?_
            · intro T wx K hB hF hD hK
              have g9 : T[9]? = some (.pointer (some ⟨b9, 0, none⟩)) := hF 9 (freeM_of (by kernel_rfl))
              have g89 := get_eqS (hD 10 89 (by simp [Region.binds]) (by kernel_rfl)) s89
              refine ob_yes (wanted_none rfl) ?_
              clear hF hD
              go_simp
              exact hK _ _ (Below.refl _ _) (rt_eqS s90)
            refine obsR_cons ?_ ?_
            · intro T wx K hB hF hD hK
              have g90 := get_eqS (hD 11 90 (by simp [Region.binds]) (by kernel_rfl)) s90
              refine ob_yes (wanted_none rfl) ?_
              clear hF hD
              have c0 := blk_cell (blk_call H9.out hB) 2 _ rfl
              go_simp
              exact hK _ _ (Below.refl _ _) (rt_eqS s91)
            refine obsR_cons ?_ ?_
            · intro T wx K hB hF hD hK
              have g88 := get_eqS (hD 9 88 (by simp [Region.binds]) (by kernel_rfl)) s88
              have g91 := get_eqS (hD 12 91 (by simp [Region.binds]) (by kernel_rfl)) s91
              refine ob_yes (wanted_none rfl) ?_
              clear hF hD
              go_simp
              refine (polygons_is _ _ 4 4 4 4 U0 U2 t02 _ NN0.out NN2.out hu02 (by omega) (by omega) (by omega) (by omega) (prow_below M0.out hB) (prow_below M2.out hB) NA0.out.allr2 NA2.out.allr2).mono ?_; rintro e w9 ⟨rfl, hb⟩
              exact hK _ _ hb (rt_eqS s92)
            refine obsR_cons ?_ ?_
            · intro T wx K hB hF hD hK
              have g85 := get_eqS (hD 6 85 (by simp [Region.binds]) (by kernel_rfl)) s85
              have g92 := get_eqS (hD 13 92 (by simp [Region.binds]) (by kernel_rfl)) s92
              refine ob_yes (wanted_none rfl) ?_
              clear hF hD
              have bb : (t02 != t02) = false := by cases t02 <;> rfl
              go_simp
              exact hK _ _ (Below.refl _ _) (rt_eqS s93)
            exact obsR_nil
          · intro S02 Y02 hb8 hF hs hD
            have g79 := get_eqS (hD 0 79 (by decide) (by kernel_rfl)) s79
            have g80 := get_eqS (hD 1 80 (by decide) (by kernel_rfl)) s80
            have g81 := get_eqS (hD 2 81 (by decide) (by kernel_rfl)) s81
            have g82 := get_eqS (hD 3 82 (by decide) (by kernel_rfl)) s82
            have g83 := get_eqS (hD 4 83 (by decide) (by kernel_rfl)) s83
            have g84 := get_eqS (hD 5 84 (by decide) (by kernel_rfl)) s84
            have g85 := get_eqS (hD 6 85 (by decide) (by kernel_rfl)) s85
            have g86 := get_eqS (hD 7 86 (by decide) (by kernel_rfl)) s86
            have g87 := get_eqS (hD 8 87 (by decide) (by kernel_rfl)) s87
            have g88 := get_eqS (hD 9 88 (by decide) (by kernel_rfl)) s88
            have g89 := get_eqS (hD 10 89 (by decide) (by kernel_rfl)) s89
            have g90 := get_eqS (hD 11 90 (by decide) (by kernel_rfl)) s90
            have g91 := get_eqS (hD 12 91 (by decide) (by kernel_rfl)) s91
            have g92 := get_eqS (hD 13 92 (by decide) (by kernel_rfl)) s92
            have g93 := get_eqS (hD 14 93 (by decide) (by kernel_rfl)) s93
            have hT := conc [(79, .int .i64 0), (80, .pointer (some ⟨b8, 0, none⟩)), (81, .slice (some ⟨g0, 0, none⟩) 4 4), (82, .int .i64 2), (83, .pointer (some ⟨b8, 2, none⟩)), (84, .slice (some ⟨g2, 0, none⟩) 4 4), (85, .bool t02), (86, .int .i64 0), (87, .pointer (some ⟨b9, 0, none⟩)), (88, .slice (some ⟨m0, 0, none⟩) 4 4), (89, .int .i64 2), (90, .pointer (some ⟨b9, 2, none⟩)), (91, .slice (some ⟨m2, 0, none⟩) 4 4), (92, .bool t02), (93, .bool false)] hs hF (by simp only [List.forall_mem_cons]; exact ⟨g79, g80, g81, g82, g83, g84, g85, g86, g87, g88, g89, g90, g91, g92, g93, fun p hp => absurd hp List.not_mem_nil⟩) (by kernel_rfl)
            simp only [List.foldl, List.setIfInBounds_toArray, List.set_cons_succ, List.set_cons_zero] at hT
            subst hT
            clear hF hD hs g79 g80 g81 g82 g83 g84 g85 g86 g87 g88 g89 g90 g91 g92 g93 s79 s80 s81 s82 s83 s84 s85 s86 s87 s88 s89 s90 s91 s92 s93
            replace HA := Lib.hid (blk_call HA.out hb8)
            replace R0 := Lib.hid (prow_below R0.out hb8)
            replace R1 := Lib.hid (prow_below R1.out hb8)
            replace R2 := Lib.hid (prow_below R2.out hb8)
            replace H8 := Lib.hid (blk_call H8.out hb8)
            replace M0 := Lib.hid (prow_below M0.out hb8)
            replace M1 := Lib.hid (prow_below M1.out hb8)
            replace M2 := Lib.hid (prow_below M2.out hb8)
            replace H9 := Lib.hid (blk_call H9.out hb8)
            replace B := Lib.hid (belT B.out hb8)
            replace TT := Lib.hid (Tab.below TT.out hb8)
            clear hb8
            go_wp2_with fail
            rw [rounds_succ]
            go_wp2_with fail
            obtain ⟨sp, hsp⟩ : ∃ sp : ToldS, sp = [none, none, none, none, none, none, none, none, none, none, none, none, none, none, none, none, none, none, none, none, none, none, none, none, none, none, none, none, none, none, none, none, none, none, none, none, none, none, none, none, none, none, none, none, none, none, none, none, none, none, none, none, none, none, none, none, none, none, none, none, none, none, none, none, none, none, none, none, none, none, none, none, none, none, none, none, none, none, none, some (eqS (.int .i64 1)), some (eqS (.pointer (some ⟨b8, 1, none⟩))), some (eqS (.slice (some ⟨g1, 0, none⟩) 4 4)), some (eqS (.int .i64 2)), some (eqS (.pointer (some ⟨b8, 2, none⟩))), some (eqS (.slice (some ⟨g2, 0, none⟩) 4 4)), some (eqS (.bool t12)), some (eqS (.int .i64 1)), some (eqS (.pointer (some ⟨b9, 1, none⟩))), some (eqS (.slice (some ⟨m1, 0, none⟩) 4 4)), some (eqS (.int .i64 2)), some (eqS (.pointer (some ⟨b9, 2, none⟩))), some (eqS (.slice (some ⟨m2, 0, none⟩) 4 4)), some (eqS (.bool t12)), some (eqS (.bool false))] := ⟨_, rfl⟩
            have s79 : sp.getD 79 none = some (eqS (.int .i64 1)) := by rw [hsp]; rfl
            have s80 : sp.getD 80 none = some (eqS (.pointer (some ⟨b8, 1, none⟩))) := by rw [hsp]; rfl
            have s81 : sp.getD 81 none = some (eqS (.slice (some ⟨g1, 0, none⟩) 4 4)) := by rw [hsp]; rfl
            have s82 : sp.getD 82 none = some (eqS (.int .i64 2)) := by rw [hsp]; rfl
            have s83 : sp.getD 83 none = some (eqS (.pointer (some ⟨b8, 2, none⟩))) := by rw [hsp]; rfl
            have s84 : sp.getD 84 none = some (eqS (.slice (some ⟨g2, 0, none⟩) 4 4)) := by rw [hsp]; rfl
            have s85 : sp.getD 85 none = some (eqS (.bool t12)) := by rw [hsp]; rfl
            have s86 : sp.getD 86 none = some (eqS (.int .i64 1)) := by rw [hsp]; rfl
            have s87 : sp.getD 87 none = some (eqS (.pointer (some ⟨b9, 1, none⟩))) := by rw [hsp]; rfl
            have s88 : sp.getD 88 none = some (eqS (.slice (some ⟨m1, 0, none⟩) 4 4)) := by rw [hsp]; rfl
            have s89 : sp.getD 89 none = some (eqS (.int .i64 2)) := by rw [hsp]; rfl
            have s90 : sp.getD 90 none = some (eqS (.pointer (some ⟨b9, 2, none⟩))) := by rw [hsp]; rfl
            have s91 : sp.getD 91 none = some (eqS (.slice (some ⟨m2, 0, none⟩) 4 4)) := by rw [hsp]; rfl
            have s92 : sp.getD 92 none = some (eqS (.bool t12)) := by rw [hsp]; rfl
            have s93 : sp.getD 93 none = some (eqS (.bool false)) := by rw [hsp]; rfl
            clear hsp
            refine (wpIn_wide (n := 0)).1 (region_allR (RtS sp) (rtS_keep sp) rfl rfl rfl (by kernel_rfl) (by kernel_rfl) (by kernel_rfl) ?_ ?_)
            · intro Q'
              refine obsR_cons ?_ ?_
              · intro T wx K hB hF hD hK
                have g13 : T[13]? = some (.int .i64 1) := hF 13 (freeM_of (by kernel_rfl))
                refine ob_yes (wanted_none rfl) ?_
                clear hF hD
                go_simp
                exact hK _ _ (Below.refl _ _) (rt_eqS s79)
              refine obsR_cons ?_ ?_
              · intro T wx K hB hF hD hK
                have g8 : T[8]? = some (.pointer (some ⟨b8, 0, none⟩)) := hF 8 (freeM_of (by kernel_rfl))
                have g79 := get_eqS (hD 0 79 (by simp [Region.binds]) (by kernel_rfl)) s79
                refine ob_yes (wanted_none rfl) ?_
                clear hF hD
                go_simp
                exact hK _ _ (Below.refl _ _) (rt_eqS s80)
              refine obsR_cons ?_ ?_
              · intro T wx K hB hF hD hK
                have g80 := get_eqS (hD 1 80 (by simp [Region.binds]) (by kernel_rfl)) s80
                refine ob_yes (wanted_none rfl) ?_
                clear hF hD
                have c0 := blk_cell (blk_call H8.out hB) 1 _ rfl
                go_simp
                exact hK _ _ (Below.refl _ _) (rt_eqS s81)
              refine obsR_cons ?_ ?_
              · intro T wx K hB hF hD hK
                have g10 : T[10]? = some (.int .i64 2) := hF 10 (freeM_of (by kernel_rfl))
                refine ob_yes (wanted_none rfl) ?_
                clear hF hD
                go_simp
                exact hK _ _ (Below.refl _ _) (rt_eqS s82)
              refine obsR_cons ?_ ?_
              · intro T wx K hB hF hD hK
                have g8 : T[8]? = some (.pointer (some ⟨b8, 0, none⟩)) := hF 8 (freeM_of (by kernel_rfl))
                have g82 := get_eqS (hD 3 82 (by simp [Region.binds]) (by kernel_rfl)) s82
                refine ob_yes (wanted_none rfl) ?_
                clear hF hD
                go_simp
                exact hK _ _ (Below.refl _ _) (rt_eqS s83)
              refine obsR_cons ?_ ?_
              · intro T wx K hB hF hD hK
                have g83 := get_eqS (hD 4 83 (by simp [Region.binds]) (by kernel_rfl)) s83
                refine ob_yes (wanted_none rfl) ?_
                clear hF hD
                have c0 := blk_cell (blk_call H8.out hB) 2 _ rfl
                go_simp
                exact hK _ _ (Below.refl _ _) (rt_eqS s84)
              refine obsR_cons ?_ ?_
              · intro T wx K hB hF hD hK
                have g81 := get_eqS (hD 2 81 (by simp [Region.binds]) (by kernel_rfl)) s81
                have g84 := get_eqS (hD 5 84 (by simp [Region.binds]) (by kernel_rfl)) s84
                refine ob_yes (wanted_none rfl) ?_
                clear hF hD
                go_simp
                refine (polygons_is _ _ 4 4 4 4 L1 L2 t12 _ GN1.out GN2.out ht12 (by omega) (by omega) (by omega) (by omega) (prow_below R1.out hB) (prow_below R2.out hB) GV1.out.allr2 GV2.out.allr2).mono ?_; rintro e w9 ⟨rfl, hb⟩
                exact hK _ _ hb (rt_eqS s85)
              refine obsR_cons ?_ ?_
              · intro T wx K hB hF hD hK
                have g13 : T[13]? = some (.int .i64 1) := hF 13 (freeM_of (by kernel_rfl))
                refine ob_yes (wanted_none rfl) ?_
                clear hF hD
                go_simp
                exact hK _ _ (Below.refl _ _) (rt_eqS s86)
              refine obsR_cons ?_ ?_
              · intro T wx K hB hF hD hK
                have g9 : T[9]? = some (.pointer (some ⟨b9, 0, none⟩)) := hF 9 (freeM_of (by kernel_rfl))
                have g86 := get_eqS (hD 7 86 (by simp [Region.binds]) (by kernel_rfl)) s86
                refine ob_yes (wanted_none rfl) ?_
                clear hF hD
                go_simp
                exact hK _ _ (Below.refl _ _) (rt_eqS s87)
              refine obsR_cons ?_ ?_
              · intro T wx K hB hF hD hK
                have g87 := get_eqS (hD 8 87 (by simp [Region.binds]) (by kernel_rfl)) s87
                refine ob_yes (wanted_none rfl) ?_
                clear hF hD
                have c0 := blk_cell (blk_call H9.out hB) 1 _ rfl
                go_simp
                exact hK _ _ (Below.refl _ _) (rt_eqS s88)
              refine obsR_cons ?_ ?_
              · intro T wx K hB hF hD hK
                have g10 : T[10]? = some (.int .i64 2) := hF 10 (freeM_of (by kernel_rfl))
                refine ob_yes (wanted_none rfl) ?_
                clear hF hD
                go_simp
                exact hK _ _ (Below.refl _ _) (rt_eqS s89)
              refine obsR_cons ?_ ?_
              · intro T wx K hB hF hD hK
                have g9 : T[9]? = some (.pointer (some ⟨b9, 0, none⟩)) := hF 9 (freeM_of (by kernel_rfl))
                have g89 := get_eqS (hD 10 89 (by simp [Region.binds]) (by kernel_rfl)) s89
                refine ob_yes (wanted_none rfl) ?_
                clear hF hD
                go_simp
                exact hK _ _ (Below.refl _ _) (rt_eqS s90)
              refine obsR_cons ?_ ?_
              · intro T wx K hB hF hD hK
                have g90 := get_eqS (hD 11 90 (by simp [Region.binds]) (by kernel_rfl)) s90
                refine ob_yes (wanted_none rfl) ?_
                clear hF hD
                have c0 := blk_cell (blk_call H9.out hB) 2 _ rfl
                go_simp
                exact hK _ _ (Below.refl _ _) (rt_eqS s91)
              refine obsR_cons ?_ ?_
              · intro T wx K hB hF hD hK
                have g88 := get_eqS (hD 9 88 (by simp [Region.binds]) (by kernel_rfl)) s88
                have g91 := get_eqS (hD 12 91 (by simp [Region.binds]) (by kernel_rfl)) s91
                refine ob_yes (wanted_none rfl) ?_
                clear hF hD
                go_simp
                refine (polygons_is _ _ 4 4 4 4 U1 U2 t12 _ NN1.out NN2.out hu12 (by omega) (by omega) (by omega) (by omega) (prow_below M1.out hB) (prow_below M2.out hB) NA1.out.allr2 NA2.out.allr2).mono ?_; rintro e w9 ⟨rfl, hb⟩
                exact hK _ _ hb (rt_eqS s92)
              refine obsR_cons ?_ ?_
              · intro T wx K hB hF hD hK
                have g85 := get_eqS (hD 6 85 (by simp [Region.binds]) (by kernel_rfl)) s85
                have g92 := get_eqS (hD 13 92 (by simp [Region.binds]) (by kernel_rfl)) s92
                refine ob_yes (wanted_none rfl) ?_
                clear hF hD
                have bb : (t12 != t12) = false := by cases t12 <;> rfl
                go_simp
                exact hK _ _ (Below.refl _ _) (rt_eqS s93)
              exact obsR_nil
            · intro S12 Y12 hb8 hF hs hD
              have g79 := get_eqS (hD 0 79 (by decide) (by kernel_rfl)) s79
              have g80 := get_eqS (hD 1 80 (by decide) (by kernel_rfl)) s80
              have g81 := get_eqS (hD 2 81 (by decide) (by kernel_rfl)) s81
              have g82 := get_eqS (hD 3 82 (by decide) (by kernel_rfl)) s82
              have g83 := get_eqS (hD 4 83 (by decide) (by kernel_rfl)) s83
              have g84 := get_eqS (hD 5 84 (by decide) (by kernel_rfl)) s84
              have g85 := get_eqS (hD 6 85 (by decide) (by kernel_rfl)) s85
              have g86 := get_eqS (hD 7 86 (by decide) (by kernel_rfl)) s86
              have g87 := get_eqS (hD 8 87 (by decide) (by kernel_rfl)) s87
              have g88 := get_eqS (hD 9 88 (by decide) (by kernel_rfl)) s88
              have g89 := get_eqS (hD 10 89 (by decide) (by kernel_rfl)) s89
              have g90 := get_eqS (hD 11 90 (by decide) (by kernel_rfl)) s90
              have g91 := get_eqS (hD 12 91 (by decide) (by kernel_rfl)) s91
              have g92 := get_eqS (hD 13 92 (by decide) (by kernel_rfl)) s92
              have g93 := get_eqS (hD 14 93 (by decide) (by kernel_rfl)) s93
              have hT := conc [(79, .int .i64 1), (80, .pointer (some ⟨b8, 1, none⟩)), (81, .slice (some ⟨g1, 0, none⟩) 4 4), (82, .int .i64 2), (83, .pointer (some ⟨b8, 2, none⟩)), (84, .slice (some ⟨g2, 0, none⟩) 4 4), (85, .bool t12), (86, .int .i64 1), (87, .pointer (some ⟨b9, 1, none⟩)), (88, .slice (some ⟨m1, 0, none⟩) 4 4), (89, .int .i64 2), (90, .pointer (some ⟨b9, 2, none⟩)), (91, .slice (some ⟨m2, 0, none⟩) 4 4), (92, .bool t12), (93, .bool false)] hs hF (by simp only [List.forall_mem_cons]; exact ⟨g79, g80, g81, g82, g83, g84, g85, g86, g87, g88, g89, g90, g91, g92, g93, fun p hp => absurd hp List.not_mem_nil⟩) (by kernel_rfl)
              simp only [List.foldl, List.setIfInBounds_toArray, List.set_cons_succ, List.set_cons_zero] at hT
              subst hT
              clear hF hD hs g79 g80 g81 g82 g83 g84 g85 g86 g87 g88 g89 g90 g91 g92 g93 s79 s80 s81 s82 s83 s84 s85 s86 s87 s88 s89 s90 s91 s92 s93
              replace HA := Lib.hid (blk_call HA.out hb8)
              replace R0 := Lib.hid (prow_below R0.out hb8)
              replace R1 := Lib.hid (prow_below R1.out hb8)
              replace R2 := Lib.hid (prow_below R2.out hb8)
              replace H8 := Lib.hid (blk_call H8.out hb8)
              replace M0 := Lib.hid (prow_below M0.out hb8)
              replace M1 := Lib.hid (prow_below M1.out hb8)
              replace M2 := Lib.hid (prow_below M2.out hb8)
              replace H9 := Lib.hid (blk_call H9.out hb8)
              replace B := Lib.hid (belT B.out hb8)
              replace TT := Lib.hid (Tab.below TT.out hb8)
              clear hb8
              go_wp2_with fail
              rw [rounds_succ]
              go_wp2_with fail
              rw [rounds_succ]
              go_wp2_with fail
              go_ret
              exact ⟨rfl, B.out⟩

set_option maxRecDepth 100000 in
theorem lifted (os : Os) (started : os.Started) (H : Type) (enc : TypeId × Value → H) :
    ReturnsInHanded {} Tryd.checked os 9 .any (fun w args => (Rows.topQuarterTurnSpec.pre enc Tryd.prog Tryd.f9 [] false w args ∧ laidMetH Tryd.prog Rows.topQuarterTurnRow.laid w) ∧ sizedMet enc Tryd.prog Tryd.f9 (OpenSpec.ofChange Rows.topQuarterTurnSpec) false w args)
      (Rows.topQuarterTurnSpec.post enc Tryd.prog Tryd.f9 false true false false) := by
  refine returnsInHanded_of_change_and (C := Tryd.checked) (X := fun w _ => laidMetH Tryd.prog Rows.topQuarterTurnRow.laid w) (fun _ _ _ hh h => h.of_heap hh) own started (by kernel_rfl) Tryd.func9
    (ChangeSpec.witness_shaped (enc := enc) (C := Tryd.checked) (os := os) (X := fun w _ => laidMetH Tryd.prog Rows.topQuarterTurnRow.laid w) false (World.doorLaid Tryd.prog 600 os) #[.agg #[.int .i64 0, .int .i64 0, .int .i64 0, .int .i64 0, .int .i64 0, .int .i64 0, .int .i64 0, .int .i64 0, .int .i64 0, .int .i64 0, .int .i64 0, .int .i64 0], .agg #[.int .u8 0, .int .u8 0, .int .u8 0]] 8 rfl (World.shaped_of_RefB (by kernel_rfl) (by kernel_rfl)) (by kernel_rfl) (by kernel_rfl) (by kernel_rfl) (show laidMetH Tryd.prog [(qn, Rows.laid_ambidexter_rotation_quadrant)] _ from door_met os _)) ?_
  intro W base args ds gs before hval0 hW _ _ hL _
  have hval : ∀ (j : Nat) t v, Tryd.f9.params[j]? = some t → args[j]? = some v → Value.okWide Tryd.prog W .any base t v := hval0
  have hW' := hW
  obtain ⟨p, q, hA0, hV, rfl, hfz, hnd⟩ := hW
  have hA : DataW.TrodAll enc Tryd.prog W 0 (fun _ => true) true Tryd.f9.params.toList args.toList ds p := hA0
  rw [Tryd.params9] at hA hval
  obtain ⟨v0, vs0, d0, ds0, p0, q0, hargs, rfl, rfl, h0, r0⟩ := trodAll_cons hA
  obtain ⟨v1, vs1, d1, ds1, p1, q1, rfl, rfl, rfl, h1, r1⟩ := trodAll_cons r0
  obtain ⟨rfl, rfl, rfl⟩ := trodAll_nil r1
  obtain rfl : args = #[v0, v1] := by cases args; simp_all
  obtain ⟨rfl, rfl⟩ := trodVars_none hV
  have k0 := h0
  have lt0 : ∀ x ∈ p0, x.block < W.heap.size := by obtain ⟨m, hm⟩ := k0; exact DataW.trod_lt m _ _ _ hm
  obtain ⟨c0_0, c0_1, c0_2, c0_3, c0_4, c0_5, c0_6, c0_7, c0_8, c0_9, c0_10, c0_11, rfl⟩ := AFr.open_arm (hval 0 27 v0 rfl rfl) h0
  have k1 := h1
  have lt1 : ∀ x ∈ p1, x.block < W.heap.size := by obtain ⟨m, hm⟩ := k1; exact DataW.trod_lt m _ _ _ hm
  obtain ⟨c1_0, c1_1, c1_2, rfl, b1_0, b1_1, b1_2⟩ := AFr.open_raw (hval 1 28 v1 rfl rfl) h1
  clear hA0 hval0
  simp only [List.append_nil] at hW'
  refine (walk c0_0 c0_1 c0_2 c0_3 c0_4 c0_5 c0_6 c0_7 c0_8 c0_9 c0_10 c0_11 c1_0 c1_1 c1_2 b1_0 b1_1 b1_2 W (tab_of_laid hL)).mono fun e W' ⟨he, bel⟩ => ?_
  subst he
  exact ⟨_, rfl, _, _, _, [], _, [], hW', trodAll_mk1 (shut_bool Tryd.underlying4 _), (trodAll_cons_mk (Below.trod HFr.laidOut (by kernel_rfl) (of_decide_eq_true (by kernel_rfl)) k0 bel lt0) (trodAll_cons_mk (Below.trod HFr.laidOut (by kernel_rfl) (of_decide_eq_true (by kernel_rfl)) k1 bel lt1) trodAll_mk0)), rfl, bel.frame _, fun h => by cases h⟩

theorem holds : Rows.TopQuarterTurnSaid :=
  OpenClaim.holds_of_wide 9 Tryd.f9 rfl rfl rfl rfl rfl rfl rfl ⟨rfl, rfl, rfl, rfl, rfl⟩ rfl rfl rfl rfl rfl (by kernel_rfl) Tryd.func9 (by kernel_rfl)
    (of_decide_eq_true (by kernel_rfl)) (by unfold Func.isWrapper; first | (rw [if_pos (by decide +kernel)]; kernel_rfl) | (rw [if_neg (by decide +kernel)]; exact ⟨rfl, rfl⟩))
    (fun os started H enc _ => lifted os started H enc)

/-- THE STATEMENT: the tied card. -/
theorem card_holds : Rows.TopQuarterTurnCardSaid :=
  Claim7.holds_tied_plain_at .later [] [.data] true Rows.topQuarterTurnCard.stood.harness false
    holds (fun _ h => by cases h) (by kernel_rfl) (fun _ h => by cases h) topQuarterTurn_row_tie rfl ⟨rfl, rfl⟩ (by kernel_rfl) rfl
    (fun f fn hf hfn => by
      obtain rfl : f = 9 := Option.some.inj ((show Tryd.prog.funcNamed Rows.topQuarterTurnRow.func = some 9 by kernel_rfl).symm.trans hf) |>.symm
      obtain rfl : fn = Tryd.f9 := (Option.some.inj (Tryd.func9.symm.trans hfn)).symm
      exact ⟨by kernel_rfl, fun j t ht => by
        rw [Tryd.params9] at ht
        have hm : t ∈ [27, 28] := by have := Array.mem_of_getElem? ht; simp only [List.mem_toArray, List.mem_cons, List.not_mem_nil, or_false] at this ⊢; grind
        have hall : ([27, 28].all fun u => !Tryd.prog.wantsStandIn u) = true := by kernel_rfl
        exact (show Tryd.prog.wantsStandIn t = false by simpa using List.all_eq_true.1 hall t hm)⟩)
    (by kernel_rfl)
#print axioms card_holds
end Go.Proofs.YtalhkcmlacppjaaDoor.topQuarterTurn
