/- For every valid arm and every valid polygon, consecutive links meet, every link's body is a convex quadrilateral that holds both of its joint points, and a polygon whose box lies apart from the box of the arm's hull meets no link.
Conditions: none on the arguments; the table of rotations lies as the program's text lays it (the card's tie). -/
import Derived.Test.YtalhkcmlacppjaaGreatDoorTie
import Derived.Test.YtalhkcmlacppjaaGreatDoorCards
import Derived.SevenTiedAt
import Derived.Test.YtalhkcmlacppjaaGreatDoorZlTzE
import Derived.Test.YtalhkcmlacppjaaGreatDoorZlTqH
import Derived.Test.YtalhkcmlacppjaaGreatDoorZlAmG
import Derived.Test.YtalhkcmlacppjaaGreatDoorZlAmU
import Derived.Test.YtalhkcmlacppjaaGreatDoorZlDirs
namespace Go.Proofs.YtalhkcmlacppjaaGreatDoor.topLinkBodies
open Go.ChangeShapes Go.WideShapes Go.ChangeAt Go.RowKit
set_option linter.unusedVariables false
set_option linter.unusedSimpArgs false
set_option maxRecDepth 100000

set_option maxHeartbeats 4000000 in
theorem walk (X Y n0 n1 n2 W l0 l1 l2 h0 h1 h2 : Int) (r0 r1 r2 : Int) (hr0 : 0 ≤ r0 ∧ r0 ≤ 255) (hr1 : 0 ≤ r1 ∧ r1 ≤ 255) (hr2 : 0 ≤ r2 ∧ r2 ≤ 255) (bo : Option Addr) (cb : Nat) (b : List (Int × Int)) (nb : b.length ≤ 9223372036854775807) (w : World) (hB : PRow w bo b) (hT : Tab w) :
    Calls Tryz.prog 3 #[.agg #[.int .i64 X, .int .i64 Y, .int .i64 n0, .int .i64 n1, .int .i64 n2, .int .i64 W, .int .i64 l0, .int .i64 l1, .int .i64 l2, .int .i64 h0, .int .i64 h1, .int .i64 h2], .agg #[.int .u8 r0, .int .u8 r1, .int .u8 r2], .slice bo b.length cb] w fun e w' => e = .returned (.bool true) ∧ Below w.heap.size w w' := by
  have B := Lib.hid (Below.refl w.heap.size w)
  have TT := Lib.hid hT
  clear hT
  have RB := Lib.hid hB
  clear hB
  go_enter Tryz.func3, Tryz.ntmps3
  go_wp2_with fail
  refine (head07_is _ (Tab.alloc (Tab.alloc TT.out (.cells #[.int .i64 X, .int .i64 Y, .int .i64 n0, .int .i64 n1, .int .i64 n2, .int .i64 W, .int .i64 l0, .int .i64 l1, .int .i64 l2, .int .i64 h0, .int .i64 h1, .int .i64 h2] 27)) (.cells #[.int .u8 r0, .int .u8 r1, .int .u8 r2] 28))).mono ?_
  rintro e w1 ⟨rfl, hb1⟩
  replace RB := Lib.hid (prow_below (prow_alloc (prow_alloc RB.out (.cells #[.int .i64 X, .int .i64 Y, .int .i64 n0, .int .i64 n1, .int .i64 n2, .int .i64 W, .int .i64 l0, .int .i64 l1, .int .i64 l2, .int .i64 h0, .int .i64 h1, .int .i64 h2] 27)) (.cells #[.int .u8 r0, .int .u8 r1, .int .u8 r2] 28)) hb1)
  have HA := Lib.hid (blk_call (blk_alloc (blk_new w (.cells #[.int .i64 X, .int .i64 Y, .int .i64 n0, .int .i64 n1, .int .i64 n2, .int .i64 W, .int .i64 l0, .int .i64 l1, .int .i64 l2, .int .i64 h0, .int .i64 h1, .int .i64 h2] 27) (w.heap.size) rfl) (.cells #[.int .u8 r0, .int .u8 r1, .int .u8 r2] 28)) hb1)
  have HW := Lib.hid (blk_call (blk_new (w.alloc (.cells #[.int .i64 X, .int .i64 Y, .int .i64 n0, .int .i64 n1, .int .i64 n2, .int .i64 W, .int .i64 l0, .int .i64 l1, .int .i64 l2, .int .i64 h0, .int .i64 h1, .int .i64 h2] 27)) (.cells #[.int .u8 r0, .int .u8 r1, .int .u8 r2] 28) (w.heap.size + 1) (by simp)) hb1)
  replace B := Lib.hid (belT (belA (belA B.out (.cells #[.int .i64 X, .int .i64 Y, .int .i64 n0, .int .i64 n1, .int .i64 n2, .int .i64 W, .int .i64 l0, .int .i64 l1, .int .i64 l2, .int .i64 h0, .int .i64 h1, .int .i64 h2] 27)) (.cells #[.int .u8 r0, .int .u8 r1, .int .u8 r2] 28)) hb1)
  replace TT := Lib.hid (Tab.below (Tab.alloc (Tab.alloc TT.out (.cells #[.int .i64 X, .int .i64 Y, .int .i64 n0, .int .i64 n1, .int .i64 n2, .int .i64 W, .int .i64 l0, .int .i64 l1, .int .i64 l2, .int .i64 h0, .int .i64 h1, .int .i64 h2] 27)) (.cells #[.int .u8 r0, .int .u8 r1, .int .u8 r2] 28)) hb1)
  clear hb1
  obtain ⟨t, ht⟩ : ∃ t, armB X Y n0 n1 n2 W l0 l1 l2 h0 h1 h2 = t := ⟨_, rfl⟩
  have HT := Lib.hid ht
  clear ht
  obtain ⟨tb, htb⟩ : ∃ t, validP b = t := ⟨_, rfl⟩
  have HTB := Lib.hid htb
  clear htb
  have c0 := blk_cell HA.out 0 _ rfl
  have c1 := blk_cell HA.out 1 _ rfl
  have c2 := blk_cell HA.out 2 _ rfl
  have c3 := blk_cell HA.out 3 _ rfl
  have c4 := blk_cell HA.out 4 _ rfl
  have c5 := blk_cell HA.out 5 _ rfl
  have c6 := blk_cell HA.out 6 _ rfl
  have c7 := blk_cell HA.out 7 _ rfl
  have c8 := blk_cell HA.out 8 _ rfl
  have c9 := blk_cell HA.out 9 _ rfl
  have c10 := blk_cell HA.out 10 _ rfl
  have c11 := blk_cell HA.out 11 _ rfl
  go_wp2_with fail
  refine (right7_is X Y n0 n1 n2 W l0 l1 l2 h0 h1 h2 t _ HT).mono ?_
  rintro e w2 ⟨rfl, hb2⟩
  clear c0 c1 c2 c3 c4 c5 c6 c7 c8 c9 c10 c11
  replace RB := Lib.hid (prow_below RB.out hb2)
  replace HA := Lib.hid (blk_call HA.out hb2)
  replace HW := Lib.hid (blk_call HW.out hb2)
  replace B := Lib.hid (belT B.out hb2)
  replace TT := Lib.hid (Tab.below TT.out hb2)
  clear hb2
  cases t
  · go_wp2_with fail
    go_ret
    exact ⟨rfl, B.out⟩
  go_wp2_with fail
  refine (right_is bo _ cb b tb _ rfl HTB nb RB.out).mono ?_
  rintro e w3 ⟨rfl, hb3⟩
  replace RB := Lib.hid (prow_below RB.out hb3)
  replace HA := Lib.hid (blk_call HA.out hb3)
  replace HW := Lib.hid (blk_call HW.out hb3)
  replace B := Lib.hid (belT B.out hb3)
  replace TT := Lib.hid (Tab.below TT.out hb3)
  clear hb3
  cases tb
  · go_wp2_with fail
    go_ret
    exact ⟨rfl, B.out⟩
  obtain ⟨b3', b12, bV⟩ := vparts HTB.out
  have VB := Lib.hid bV
  have GB := Lib.hid (ccw_valid HTB.out).good
  clear bV
  have JB0 := Lib.hid (jq_bd (l := l0) (h := h0) (by have := (armB_iff X Y n0 n1 n2 W l0 l1 l2 h0 h1 h2).1 HT.out; omega) hr0.1)
  have JB1 := Lib.hid (jq_bd (l := l1) (h := h1) (by have := (armB_iff X Y n0 n1 n2 W l0 l1 l2 h0 h1 h2).1 HT.out; omega) hr1.1)
  have JB2 := Lib.hid (jq_bd (l := l2) (h := h2) (by have := (armB_iff X Y n0 n1 n2 W l0 l1 l2 h0 h1 h2).1 HT.out; omega) hr2.1)
  obtain ⟨q0, hq0⟩ : ∃ q, jq l0 h0 r0 = q := ⟨_, rfl⟩
  rw [hq0] at JB0
  have k0 : -1000 ≤ q0 ∧ q0 ≤ 1000 := by have := (armB_iff X Y n0 n1 n2 W l0 l1 l2 h0 h1 h2).1 HT.out; have := JB0.out; omega
  replace hq0 := Lib.hid hq0
  obtain ⟨q1, hq1⟩ : ∃ q, jq l1 h1 r1 = q := ⟨_, rfl⟩
  rw [hq1] at JB1
  have k1 : -1000 ≤ q1 ∧ q1 ≤ 1000 := by have := (armB_iff X Y n0 n1 n2 W l0 l1 l2 h0 h1 h2).1 HT.out; have := JB1.out; omega
  replace hq1 := Lib.hid hq1
  obtain ⟨q2, hq2⟩ : ∃ q, jq l2 h2 r2 = q := ⟨_, rfl⟩
  rw [hq2] at JB2
  have k2 : -1000 ≤ q2 ∧ q2 ≤ 1000 := by have := (armB_iff X Y n0 n1 n2 W l0 l1 l2 h0 h1 h2).1 HT.out; have := JB2.out; omega
  replace hq2 := Lib.hid hq2
  have JQ : Hid (∀ w : World, Calls Tryz.prog 8 #[.agg #[.int .i64 X, .int .i64 Y, .int .i64 n0, .int .i64 n1, .int .i64 n2, .int .i64 W, .int .i64 l0, .int .i64 l1, .int .i64 l2, .int .i64 h0, .int .i64 h1, .int .i64 h2], .agg #[.int .u8 r0, .int .u8 r1, .int .u8 r2]] w fun e w' => e = .returned (.agg #[.int .i64 q0, .int .i64 q1, .int .i64 q2]) ∧ Below w.heap.size w w') := Lib.hid (fun w => by have := joint_is X Y n0 n1 n2 W l0 l1 l2 h0 h1 h2 r0 r1 r2 w HT hr0 hr1 hr2; rwa [hq0.out, hq1.out, hq2.out] at this)
  obtain ⟨x1, x2, x3, y1, y2, y3, u1, u2, u3, v1, v2, v3, a1, a2, a3, b1, b2, b3, PP⟩ := pose_ex X Y n0 n1 n2 q0 q1 q2
  replace PP := Lib.hid PP
  have FQ : Hid (fitB l0 l1 l2 h0 h1 h2 q0 q1 q2 = true) := Lib.hid (decide_eq_true (by have := JB0.out; have := JB1.out; have := JB2.out; omega))
  have c0 := blk_cell HA.out 0 _ rfl
  have c1 := blk_cell HA.out 1 _ rfl
  have c2 := blk_cell HA.out 2 _ rfl
  have c3 := blk_cell HA.out 3 _ rfl
  have c4 := blk_cell HA.out 4 _ rfl
  have c5 := blk_cell HA.out 5 _ rfl
  have c6 := blk_cell HA.out 6 _ rfl
  have c7 := blk_cell HA.out 7 _ rfl
  have c8 := blk_cell HA.out 8 _ rfl
  have c9 := blk_cell HA.out 9 _ rfl
  have c10 := blk_cell HA.out 10 _ rfl
  have c11 := blk_cell HA.out 11 _ rfl
  have d0 := blk_cell HW.out 0 _ rfl
  have d1 := blk_cell HW.out 1 _ rfl
  have d2 := blk_cell HW.out 2 _ rfl
  go_wp2_with fail
  refine (JQ.out _).mono ?_
  rintro e w4 ⟨rfl, hb4⟩
  clear c0 c1 c2 c3 c4 c5 c6 c7 c8 c9 c10 c11 d0 d1 d2
  replace RB := Lib.hid (prow_below RB.out hb4)
  replace HA := Lib.hid (blk_call HA.out hb4)
  replace HW := Lib.hid (blk_call HW.out hb4)
  replace B := Lib.hid (belT B.out hb4)
  replace TT := Lib.hid (Tab.below TT.out hb4)
  clear hb4
  go_upto_region 5 with fail
  replace RB := Lib.hid (prow_alloc RB.out (.cells #[.int .i64 q0, .int .i64 q1, .int .i64 q2] 25))
  replace HA := Lib.hid (blk_alloc HA.out (.cells #[.int .i64 q0, .int .i64 q1, .int .i64 q2] 25))
  replace HW := Lib.hid (blk_alloc HW.out (.cells #[.int .i64 q0, .int .i64 q1, .int .i64 q2] 25))
  have HQ := Lib.hid (blk_new w4 (.cells #[.int .i64 q0, .int .i64 q1, .int .i64 q2] 25) (w4.heap.size) rfl)
  replace B := Lib.hid (belA B.out (.cells #[.int .i64 q0, .int .i64 q1, .int .i64 q2] 25))
  replace TT := Lib.hid (Tab.alloc TT.out (.cells #[.int .i64 q0, .int .i64 q1, .int .i64 q2] 25))
  generalize (w4.alloc (.cells #[.int .i64 q0, .int .i64 q1, .int .i64 q2] 25)) = W1 at *
  have c0 := blk_cell HA.out 0 _ rfl
  have c1 := blk_cell HA.out 1 _ rfl
  have c2 := blk_cell HA.out 2 _ rfl
  have c3 := blk_cell HA.out 3 _ rfl
  have c4 := blk_cell HA.out 4 _ rfl
  have c5 := blk_cell HA.out 5 _ rfl
  have c6 := blk_cell HA.out 6 _ rfl
  have c7 := blk_cell HA.out 7 _ rfl
  have c8 := blk_cell HA.out 8 _ rfl
  have c9 := blk_cell HA.out 9 _ rfl
  have c10 := blk_cell HA.out 10 _ rfl
  have c11 := blk_cell HA.out 11 _ rfl
  have d0 := blk_cell HQ.out 0 _ rfl
  have d1 := blk_cell HQ.out 1 _ rfl
  have d2 := blk_cell HQ.out 2 _ rfl
  go_wp2_with fail
  refine (fits7_is X Y n0 n1 n2 W l0 l1 l2 h0 h1 h2 q0 q1 q2 true _ FQ).mono ?_
  rintro e w5 ⟨rfl, hb5⟩
  clear c0 c1 c2 c3 c4 c5 c6 c7 c8 c9 c10 c11 d0 d1 d2
  replace RB := Lib.hid (prow_below RB.out hb5)
  replace HA := Lib.hid (blk_call HA.out hb5)
  replace HW := Lib.hid (blk_call HW.out hb5)
  replace HQ := Lib.hid (blk_call HQ.out hb5)
  replace B := Lib.hid (belT B.out hb5)
  replace TT := Lib.hid (Tab.below TT.out hb5)
  clear hb5
  have G4 := pose_link4 PP.out HT.out
  obtain ⟨L0, hL0⟩ : ∃ L, bodL X Y a1 b1 (W * u1) (W * v1) = L := ⟨_, rfl⟩
  rw [hL0] at G4
  replace hL0 := Lib.hid hL0
  obtain ⟨L1, hL1⟩ : ∃ L, bodL a1 b1 a2 b2 (W * u2) (W * v2) = L := ⟨_, rfl⟩
  rw [hL1] at G4
  replace hL1 := Lib.hid hL1
  obtain ⟨L2, hL2⟩ : ∃ L, bodL a2 b2 a3 b3 (W * u3) (W * v3) = L := ⟨_, rfl⟩
  rw [hL2] at G4
  replace hL2 := Lib.hid hL2
  obtain ⟨gc0, gv0, ga0, gn0, go0, gp0⟩ := G4.1
  obtain ⟨gc1, gv1, ga1, gn1, go1, gp1⟩ := G4.2.1
  obtain ⟨gc2, gv2, ga2, gn2, go2, gp2⟩ := G4.2.2
  clear G4
  have tc01 : Hid (touchB L0 L1 = true) := Lib.hid (touch_point gc0 gc1 (p := (a1, b1)) (by rw [gp0]; decide) (by rw [go1]; decide))
  have tc12 : Hid (touchB L1 L2 = true) := Lib.hid (touch_point gc1 gc2 (p := (a2, b2)) (by rw [gp1]; decide) (by rw [go2]; decide))
  obtain ⟨L, hL⟩ : ∃ L, L0 ++ L1 ++ L2 = L := ⟨_, rfl⟩
  have LN : Hid (L.length = 12) := Lib.hid (by rw [← hL, List.length_append, List.length_append, gn0, gn1, gn2])
  have LV : Hid (AllV L) := Lib.hid (by rw [← hL]; exact allV_app (allV_app ga0 ga1) ga2)
  have S0 : ∀ q, q ∈ L0 → q ∈ L := fun q hq => by rw [← hL]; simp [hq]
  have S1 : ∀ q, q ∈ L1 → q ∈ L := fun q hq => by rw [← hL]; simp [hq]
  have S2 : ∀ q, q ∈ L2 → q ∈ L := fun q hq => by rw [← hL]; simp [hq]
  obtain ⟨hne, hH⟩ := hull_with gc0 S0
  have hl12 := hull_le hH
  have hl3 := hH.1.1
  have hav := hull_allV hH LV.out
  obtain ⟨d, hd⟩ : ∃ d, boxD (hullL L) b = d := ⟨_, rfl⟩
  have AN0 : Hid (0 < d → touchB L0 b = false) := Lib.hid (fun h => apart_no gc0 S0 GB.out (by rw [hd]; exact h))
  have BN0 : Hid (touchB L0 b = true → ¬ 0 < boxD L0 b) := Lib.hid (box_no gc0 GB.out)
  obtain ⟨t0, ht0⟩ : ∃ t, touchB L0 b = t := ⟨_, rfl⟩
  obtain ⟨d0, hd0⟩ : ∃ t, boxD L0 b = t := ⟨_, rfl⟩
  rw [ht0] at AN0 BN0
  rw [hd0] at BN0
  replace ht0 := Lib.hid ht0
  replace hd0 := Lib.hid hd0
  have GC0 := Lib.hid ((convB_iff L0).2 gc0)
  have GV0 := Lib.hid gv0
  have GA0 := Lib.hid ga0
  have GN0 := Lib.hid gn0
  have GO0 := Lib.hid go0
  have GP0 := Lib.hid gp0
  clear gc0 gv0 ga0 gn0 go0 gp0
  have AN1 : Hid (0 < d → touchB L1 b = false) := Lib.hid (fun h => apart_no gc1 S1 GB.out (by rw [hd]; exact h))
  have BN1 : Hid (touchB L1 b = true → ¬ 0 < boxD L1 b) := Lib.hid (box_no gc1 GB.out)
  obtain ⟨t1, ht1⟩ : ∃ t, touchB L1 b = t := ⟨_, rfl⟩
  obtain ⟨d1, hd1⟩ : ∃ t, boxD L1 b = t := ⟨_, rfl⟩
  rw [ht1] at AN1 BN1
  rw [hd1] at BN1
  replace ht1 := Lib.hid ht1
  replace hd1 := Lib.hid hd1
  have GC1 := Lib.hid ((convB_iff L1).2 gc1)
  have GV1 := Lib.hid gv1
  have GA1 := Lib.hid ga1
  have GN1 := Lib.hid gn1
  have GO1 := Lib.hid go1
  have GP1 := Lib.hid gp1
  clear gc1 gv1 ga1 gn1 go1 gp1
  have AN2 : Hid (0 < d → touchB L2 b = false) := Lib.hid (fun h => apart_no gc2 S2 GB.out (by rw [hd]; exact h))
  have BN2 : Hid (touchB L2 b = true → ¬ 0 < boxD L2 b) := Lib.hid (box_no gc2 GB.out)
  obtain ⟨t2, ht2⟩ : ∃ t, touchB L2 b = t := ⟨_, rfl⟩
  obtain ⟨d2, hd2⟩ : ∃ t, boxD L2 b = t := ⟨_, rfl⟩
  rw [ht2] at AN2 BN2
  rw [hd2] at BN2
  replace ht2 := Lib.hid ht2
  replace hd2 := Lib.hid hd2
  have GC2 := Lib.hid ((convB_iff L2).2 gc2)
  have GV2 := Lib.hid gv2
  have GA2 := Lib.hid ga2
  have GN2 := Lib.hid gn2
  have GO2 := Lib.hid go2
  have GP2 := Lib.hid gp2
  clear gc2 gv2 ga2 gn2 go2 gp2
  obtain ⟨h, hh⟩ : ∃ h, hullL L = h := ⟨_, rfl⟩
  rw [hh] at hne hl12 hl3 hav hd
  rw [LN.out] at hl12
  have EH := Lib.hid hh
  have NH : Hid (decide (h ≠ []) = true) := Lib.hid (decide_eq_true hne)
  have HV := Lib.hid hav
  replace hd := Lib.hid hd
  replace hL := Lib.hid hL
  clear hh hne hav hH S0 S1 S2
  have PB := Lib.hid (pose_bd PP.out HT.out)
  have WB := Lib.hid ((armB_iff X Y n0 n1 n2 W l0 l1 l2 h0 h1 h2).1 HT.out).1.2.2.2
  have c0 := blk_cell HA.out 0 _ rfl
  have c1 := blk_cell HA.out 1 _ rfl
  have c2 := blk_cell HA.out 2 _ rfl
  have c3 := blk_cell HA.out 3 _ rfl
  have c4 := blk_cell HA.out 4 _ rfl
  have c5 := blk_cell HA.out 5 _ rfl
  have c6 := blk_cell HA.out 6 _ rfl
  have c7 := blk_cell HA.out 7 _ rfl
  have c8 := blk_cell HA.out 8 _ rfl
  have c9 := blk_cell HA.out 9 _ rfl
  have c10 := blk_cell HA.out 10 _ rfl
  have c11 := blk_cell HA.out 11 _ rfl
  have d0 := blk_cell HQ.out 0 _ rfl
  have d1 := blk_cell HQ.out 1 _ rfl
  have d2 := blk_cell HQ.out 2 _ rfl
  go_wp2_with fail
  refine (links_is X Y n0 n1 n2 W l0 l1 l2 h0 h1 h2 q0 q1 q2 x1 x2 x3 y1 y2 y3 u1 u2 u3 v1 v2 v3 a1 a2 a3 b1 b2 b3 L0 L1 L2 _ TT.out k0 k1 k2 HT PP hL0 hL1 hL2).mono ?_
  rintro e w6 ⟨⟨g0, g1, g2, rfl, p0, p1, p2⟩, hb6⟩
  clear c0 c1 c2 c3 c4 c5 c6 c7 c8 c9 c10 c11 d0 d1 d2
  replace RB := Lib.hid (prow_below RB.out hb6)
  replace HA := Lib.hid (blk_call HA.out hb6)
  replace HW := Lib.hid (blk_call HW.out hb6)
  replace HQ := Lib.hid (blk_call HQ.out hb6)
  replace B := Lib.hid (belT B.out hb6)
  replace TT := Lib.hid (Tab.below TT.out hb6)
  clear hb6
  have R0 := Lib.hid p0
  have R1 := Lib.hid p1
  have R2 := Lib.hid p2
  clear p0 p1 p2
  go_upto_region 8 with fail
  replace RB := Lib.hid (prow_alloc RB.out (.cells #[.slice (some ⟨g0, 0, none⟩) 4 4, .slice (some ⟨g1, 0, none⟩) 4 4, .slice (some ⟨g2, 0, none⟩) 4 4] 36))
  replace HA := Lib.hid (blk_alloc HA.out (.cells #[.slice (some ⟨g0, 0, none⟩) 4 4, .slice (some ⟨g1, 0, none⟩) 4 4, .slice (some ⟨g2, 0, none⟩) 4 4] 36))
  replace HW := Lib.hid (blk_alloc HW.out (.cells #[.slice (some ⟨g0, 0, none⟩) 4 4, .slice (some ⟨g1, 0, none⟩) 4 4, .slice (some ⟨g2, 0, none⟩) 4 4] 36))
  replace HQ := Lib.hid (blk_alloc HQ.out (.cells #[.slice (some ⟨g0, 0, none⟩) 4 4, .slice (some ⟨g1, 0, none⟩) 4 4, .slice (some ⟨g2, 0, none⟩) 4 4] 36))
  replace R0 := Lib.hid (prow_alloc R0.out (.cells #[.slice (some ⟨g0, 0, none⟩) 4 4, .slice (some ⟨g1, 0, none⟩) 4 4, .slice (some ⟨g2, 0, none⟩) 4 4] 36))
  replace R1 := Lib.hid (prow_alloc R1.out (.cells #[.slice (some ⟨g0, 0, none⟩) 4 4, .slice (some ⟨g1, 0, none⟩) 4 4, .slice (some ⟨g2, 0, none⟩) 4 4] 36))
  replace R2 := Lib.hid (prow_alloc R2.out (.cells #[.slice (some ⟨g0, 0, none⟩) 4 4, .slice (some ⟨g1, 0, none⟩) 4 4, .slice (some ⟨g2, 0, none⟩) 4 4] 36))
  have H9 := Lib.hid (blk_new w6 (.cells #[.slice (some ⟨g0, 0, none⟩) 4 4, .slice (some ⟨g1, 0, none⟩) 4 4, .slice (some ⟨g2, 0, none⟩) 4 4] 36) (w6.heap.size) rfl)
  replace B := Lib.hid (belA B.out (.cells #[.slice (some ⟨g0, 0, none⟩) 4 4, .slice (some ⟨g1, 0, none⟩) 4 4, .slice (some ⟨g2, 0, none⟩) 4 4] 36))
  replace TT := Lib.hid (Tab.alloc TT.out (.cells #[.slice (some ⟨g0, 0, none⟩) 4 4, .slice (some ⟨g1, 0, none⟩) 4 4, .slice (some ⟨g2, 0, none⟩) 4 4] 36))
  generalize (w6.alloc (.cells #[.slice (some ⟨g0, 0, none⟩) 4 4, .slice (some ⟨g1, 0, none⟩) 4 4, .slice (some ⟨g2, 0, none⟩) 4 4] 36)) = W2 at *
  obtain ⟨b9, hb9⟩ : ∃ z, w6.heap.size = z := ⟨_, rfl⟩
  rw [hb9] at H9 ⊢
  clear hb9
  have c0 := blk_cell HA.out 0 _ rfl
  have c1 := blk_cell HA.out 1 _ rfl
  have c2 := blk_cell HA.out 2 _ rfl
  have c3 := blk_cell HA.out 3 _ rfl
  have c4 := blk_cell HA.out 4 _ rfl
  have c5 := blk_cell HA.out 5 _ rfl
  have c6 := blk_cell HA.out 6 _ rfl
  have c7 := blk_cell HA.out 7 _ rfl
  have c8 := blk_cell HA.out 8 _ rfl
  have c9 := blk_cell HA.out 9 _ rfl
  have c10 := blk_cell HA.out 10 _ rfl
  have c11 := blk_cell HA.out 11 _ rfl
  have d0 := blk_cell HQ.out 0 _ rfl
  have d1 := blk_cell HQ.out 1 _ rfl
  have d2 := blk_cell HQ.out 2 _ rfl
  go_wp2_with fail
  refine (jpts_is X Y n0 n1 n2 W l0 l1 l2 h0 h1 h2 q0 q1 q2 x1 x2 x3 y1 y2 y3 u1 u2 u3 v1 v2 v3 a1 a2 a3 b1 b2 b3 _ TT.out k0 k1 k2 HT PP).mono ?_
  rintro e w7 ⟨rfl, hb7⟩
  clear c0 c1 c2 c3 c4 c5 c6 c7 c8 c9 c10 c11 d0 d1 d2
  replace RB := Lib.hid (prow_below RB.out hb7)
  replace HA := Lib.hid (blk_call HA.out hb7)
  replace HW := Lib.hid (blk_call HW.out hb7)
  replace HQ := Lib.hid (blk_call HQ.out hb7)
  replace R0 := Lib.hid (prow_below R0.out hb7)
  replace R1 := Lib.hid (prow_below R1.out hb7)
  replace R2 := Lib.hid (prow_below R2.out hb7)
  replace H9 := Lib.hid (blk_call H9.out hb7)
  replace B := Lib.hid (belT B.out hb7)
  replace TT := Lib.hid (Tab.below TT.out hb7)
  clear hb7
  go_upto_region 9 with fail
  replace RB := Lib.hid (prow_alloc RB.out (.cells #[.int .i64 X, .int .i64 Y, .int .i64 a1, .int .i64 b1, .int .i64 a2, .int .i64 b2, .int .i64 a3, .int .i64 b3] 38))
  replace HA := Lib.hid (blk_alloc HA.out (.cells #[.int .i64 X, .int .i64 Y, .int .i64 a1, .int .i64 b1, .int .i64 a2, .int .i64 b2, .int .i64 a3, .int .i64 b3] 38))
  replace HW := Lib.hid (blk_alloc HW.out (.cells #[.int .i64 X, .int .i64 Y, .int .i64 a1, .int .i64 b1, .int .i64 a2, .int .i64 b2, .int .i64 a3, .int .i64 b3] 38))
  replace HQ := Lib.hid (blk_alloc HQ.out (.cells #[.int .i64 X, .int .i64 Y, .int .i64 a1, .int .i64 b1, .int .i64 a2, .int .i64 b2, .int .i64 a3, .int .i64 b3] 38))
  replace R0 := Lib.hid (prow_alloc R0.out (.cells #[.int .i64 X, .int .i64 Y, .int .i64 a1, .int .i64 b1, .int .i64 a2, .int .i64 b2, .int .i64 a3, .int .i64 b3] 38))
  replace R1 := Lib.hid (prow_alloc R1.out (.cells #[.int .i64 X, .int .i64 Y, .int .i64 a1, .int .i64 b1, .int .i64 a2, .int .i64 b2, .int .i64 a3, .int .i64 b3] 38))
  replace R2 := Lib.hid (prow_alloc R2.out (.cells #[.int .i64 X, .int .i64 Y, .int .i64 a1, .int .i64 b1, .int .i64 a2, .int .i64 b2, .int .i64 a3, .int .i64 b3] 38))
  replace H9 := Lib.hid (blk_alloc H9.out (.cells #[.int .i64 X, .int .i64 Y, .int .i64 a1, .int .i64 b1, .int .i64 a2, .int .i64 b2, .int .i64 a3, .int .i64 b3] 38))
  have H10 := Lib.hid (blk_new w7 (.cells #[.int .i64 X, .int .i64 Y, .int .i64 a1, .int .i64 b1, .int .i64 a2, .int .i64 b2, .int .i64 a3, .int .i64 b3] 38) (w7.heap.size) rfl)
  replace B := Lib.hid (belA B.out (.cells #[.int .i64 X, .int .i64 Y, .int .i64 a1, .int .i64 b1, .int .i64 a2, .int .i64 b2, .int .i64 a3, .int .i64 b3] 38))
  replace TT := Lib.hid (Tab.alloc TT.out (.cells #[.int .i64 X, .int .i64 Y, .int .i64 a1, .int .i64 b1, .int .i64 a2, .int .i64 b2, .int .i64 a3, .int .i64 b3] 38))
  generalize (w7.alloc (.cells #[.int .i64 X, .int .i64 Y, .int .i64 a1, .int .i64 b1, .int .i64 a2, .int .i64 b2, .int .i64 a3, .int .i64 b3] 38)) = W3 at *
  obtain ⟨b10, hb10⟩ : ∃ z, w7.heap.size = z := ⟨_, rfl⟩
  rw [hb10] at H10 ⊢
  clear hb10
  clear HQ HW HA TT JQ
  go_wp2_with fail
  have BZ := Lib.hid (Below.refl W3.heap.size W3)
  have HO := Lib.hid (World.ownsRow_nil W3 W3.heap.size 23 2)
  obtain ⟨i0, hi, hz0, hz1', hz2⟩ := info_parts infoP
  refine wp_loop_rounds 4 ?_
  rw [rounds_succ]
  go_wp2_with fail
  obtain ⟨sp, hsp⟩ : ∃ sp : ToldS, sp = [none, none, none, none, none, none, none, none, none, none, none, none, none, none, none, none, none, none, none, none, none, none, none, none, none, none, none, none, none, none, none, none, none, none, none, none, none, none, none, none, none, none, none, none, none, some (eqS (.int .i64 0)), some (eqS (.pointer (some ⟨b9, 0, none⟩))), some (eqS (.slice (some ⟨g0, 0, none⟩) 4 4)), some (eqS (.int .i64 4)), some (eqS (.bool false)), some (eqS (.bool false)), some (eqS (.int .i64 0)), some (eqS (.pointer (some ⟨b9, 0, none⟩))), some (eqS (.slice (some ⟨g0, 0, none⟩) 4 4)), some (eqS (.bool true)), some (eqS (.bool false)), some (eqS (.bool false)), some (eqS (.bool false)), some (eqS (.int .i64 0)), some (eqS (.pointer (some ⟨b9, 0, none⟩))), some (eqS (.slice (some ⟨g0, 0, none⟩) 4 4)), some (eqS (.bool true)), some (eqS (.bool false)), some (eqS (.bool false)), some (eqS (.bool false)), some (eqS (.int .i64 0)), some (eqS (.pointer (some ⟨b9, 0, none⟩))), some (eqS (.slice (some ⟨g0, 0, none⟩) 4 4)), some (eqS (.int .i64 0)), some (eqS (.pointer (some ⟨b10, 0, none⟩))), some (eqS (.agg #[.int .i64 X, .int .i64 Y])), some (eqS (.int .i64 0)), some (eqS (.bool false)), some (eqS (.bool false)), some (eqS (.bool false)), some (eqS (.int .i64 0)), some (eqS (.pointer (some ⟨b9, 0, none⟩))), some (eqS (.slice (some ⟨g0, 0, none⟩) 4 4)), some (eqS (.int .i64 0)), some (eqS (.int .i64 1)), some (eqS (.pointer (some ⟨b10, 2, none⟩))), some (eqS (.agg #[.int .i64 a1, .int .i64 b1])), some (eqS (.int .i64 0)), some (eqS (.bool false)), some (eqS (.bool false))] := ⟨_, rfl⟩
  have s45 : sp.getD 45 none = some (eqS (.int .i64 0)) := by rw [hsp]; rfl
  have s46 : sp.getD 46 none = some (eqS (.pointer (some ⟨b9, 0, none⟩))) := by rw [hsp]; rfl
  have s47 : sp.getD 47 none = some (eqS (.slice (some ⟨g0, 0, none⟩) 4 4)) := by rw [hsp]; rfl
  have s48 : sp.getD 48 none = some (eqS (.int .i64 4)) := by rw [hsp]; rfl
  have s49 : sp.getD 49 none = some (eqS (.bool false)) := by rw [hsp]; rfl
  have s50 : sp.getD 50 none = some (eqS (.bool false)) := by rw [hsp]; rfl
  have s51 : sp.getD 51 none = some (eqS (.int .i64 0)) := by rw [hsp]; rfl
  have s52 : sp.getD 52 none = some (eqS (.pointer (some ⟨b9, 0, none⟩))) := by rw [hsp]; rfl
  have s53 : sp.getD 53 none = some (eqS (.slice (some ⟨g0, 0, none⟩) 4 4)) := by rw [hsp]; rfl
  have s54 : sp.getD 54 none = some (eqS (.bool true)) := by rw [hsp]; rfl
  have s55 : sp.getD 55 none = some (eqS (.bool false)) := by rw [hsp]; rfl
  have s56 : sp.getD 56 none = some (eqS (.bool false)) := by rw [hsp]; rfl
  have s57 : sp.getD 57 none = some (eqS (.bool false)) := by rw [hsp]; rfl
  have s58 : sp.getD 58 none = some (eqS (.int .i64 0)) := by rw [hsp]; rfl
  have s59 : sp.getD 59 none = some (eqS (.pointer (some ⟨b9, 0, none⟩))) := by rw [hsp]; rfl
  have s60 : sp.getD 60 none = some (eqS (.slice (some ⟨g0, 0, none⟩) 4 4)) := by rw [hsp]; rfl
  have s61 : sp.getD 61 none = some (eqS (.bool true)) := by rw [hsp]; rfl
  have s62 : sp.getD 62 none = some (eqS (.bool false)) := by rw [hsp]; rfl
  have s63 : sp.getD 63 none = some (eqS (.bool false)) := by rw [hsp]; rfl
  have s64 : sp.getD 64 none = some (eqS (.bool false)) := by rw [hsp]; rfl
  have s65 : sp.getD 65 none = some (eqS (.int .i64 0)) := by rw [hsp]; rfl
  have s66 : sp.getD 66 none = some (eqS (.pointer (some ⟨b9, 0, none⟩))) := by rw [hsp]; rfl
  have s67 : sp.getD 67 none = some (eqS (.slice (some ⟨g0, 0, none⟩) 4 4)) := by rw [hsp]; rfl
  have s68 : sp.getD 68 none = some (eqS (.int .i64 0)) := by rw [hsp]; rfl
  have s69 : sp.getD 69 none = some (eqS (.pointer (some ⟨b10, 0, none⟩))) := by rw [hsp]; rfl
  have s70 : sp.getD 70 none = some (eqS (.agg #[.int .i64 X, .int .i64 Y])) := by rw [hsp]; rfl
  have s71 : sp.getD 71 none = some (eqS (.int .i64 0)) := by rw [hsp]; rfl
  have s72 : sp.getD 72 none = some (eqS (.bool false)) := by rw [hsp]; rfl
  have s73 : sp.getD 73 none = some (eqS (.bool false)) := by rw [hsp]; rfl
  have s74 : sp.getD 74 none = some (eqS (.bool false)) := by rw [hsp]; rfl
  have s75 : sp.getD 75 none = some (eqS (.int .i64 0)) := by rw [hsp]; rfl
  have s76 : sp.getD 76 none = some (eqS (.pointer (some ⟨b9, 0, none⟩))) := by rw [hsp]; rfl
  have s77 : sp.getD 77 none = some (eqS (.slice (some ⟨g0, 0, none⟩) 4 4)) := by rw [hsp]; rfl
  have s78 : sp.getD 78 none = some (eqS (.int .i64 0)) := by rw [hsp]; rfl
  have s79 : sp.getD 79 none = some (eqS (.int .i64 1)) := by rw [hsp]; rfl
  have s80 : sp.getD 80 none = some (eqS (.pointer (some ⟨b10, 2, none⟩))) := by rw [hsp]; rfl
  have s81 : sp.getD 81 none = some (eqS (.agg #[.int .i64 a1, .int .i64 b1])) := by rw [hsp]; rfl
  have s82 : sp.getD 82 none = some (eqS (.int .i64 0)) := by rw [hsp]; rfl
  have s83 : sp.getD 83 none = some (eqS (.bool false)) := by rw [hsp]; rfl
  have s84 : sp.getD 84 none = some (eqS (.bool false)) := by rw [hsp]; rfl
  clear hsp
  refine (wpIn_wide (n := 0)).1 (region_allR (RtS sp) (rtS_keep sp) rfl rfl rfl (by kernel_rfl) (by kernel_rfl) (by kernel_rfl) ?_ ?_)
  · intro Q'
    refine obsR_cons ?_ ?_
    · intro T wx K hB hF hD hK
      have g12 : T[12]? = some (.int .i64 0) := hF 12 (freeM_of (by kernel_rfl))
      refine ob_yes (wanted_none rfl) ?_
      clear hF hD
      go_simp
      exact hK _ _ (Below.refl _ _) (rt_eqS s45)
    refine obsR_cons ?_ ?_
    · intro T wx K hB hF hD hK
      have g9 : T[9]? = some (.pointer (some ⟨b9, 0, none⟩)) := hF 9 (freeM_of (by kernel_rfl))
      have g45 := get_eqS (hD 0 45 (by simp [Region.binds]) (by kernel_rfl)) s45
      refine ob_yes (wanted_none rfl) ?_
      clear hF hD
      go_simp
      exact hK _ _ (Below.refl _ _) (rt_eqS s46)
    refine obsR_cons ?_ ?_
    · intro T wx K hB hF hD hK
      have g46 := get_eqS (hD 1 46 (by simp [Region.binds]) (by kernel_rfl)) s46
      refine ob_yes (wanted_none rfl) ?_
      clear hF hD
      have c0 := blk_cell (blk_call H9.out (belT BZ.out hB)) 0 _ rfl
      go_simp
      exact hK _ _ (Below.refl _ _) (rt_eqS s47)
    refine obsR_cons ?_ ?_
    · intro T wx K hB hF hD hK
      have g47 := get_eqS (hD 2 47 (by simp [Region.binds]) (by kernel_rfl)) s47
      refine ob_yes (wanted_none rfl) ?_
      clear hF hD
      go_simp
      exact hK _ _ (Below.refl _ _) (rt_eqS s48)
    refine obsR_cons ?_ ?_
    · intro T wx K hB hF hD hK
      have g48 := get_eqS (hD 3 48 (by simp [Region.binds]) (by kernel_rfl)) s48
      refine ob_yes (wanted_none rfl) ?_
      clear hF hD
      go_simp
      exact hK _ _ (Below.refl _ _) (rt_eqS s49)
    refine obsR_cons ?_ ?_
    · intro T wx K hB hF hD hK
      have g49 := get_eqS (hD 4 49 (by simp [Region.binds]) (by kernel_rfl)) s49
      refine ob_yes (wanted_none rfl) ?_
      clear hF hD
      go_simp
      exact hK _ _ (Below.refl _ _) (rt_eqS s50)
    refine obsR_cons ?_ ?_
    · intro T wx K hB hF hD hK
      have g50 := get_eqS (hD 5 50 (by simp [Region.binds]) (by kernel_rfl)) s50
      have g12 : T[12]? = some (.int .i64 0) := hF 12 (freeM_of (by kernel_rfl))
      refine ob_yes (wanted_yes rfl (by kernel_rfl) g50) ?_
      clear hF hD
      go_simp
      exact hK _ _ (Below.refl _ _) (rt_eqS s51)
    refine obsR_cons ?_ ?_
    · intro T wx K hB hF hD hK
      have g50 := get_eqS (hD 5 50 (by simp [Region.binds]) (by kernel_rfl)) s50
      have g9 : T[9]? = some (.pointer (some ⟨b9, 0, none⟩)) := hF 9 (freeM_of (by kernel_rfl))
      have g51 := get_eqS (hD 6 51 (by simp [Region.binds]) (by kernel_rfl)) s51
      refine ob_yes (wanted_yes rfl (by kernel_rfl) g50) ?_
      clear hF hD
      go_simp
      exact hK _ _ (Below.refl _ _) (rt_eqS s52)
    refine obsR_cons ?_ ?_
    · intro T wx K hB hF hD hK
      have g50 := get_eqS (hD 5 50 (by simp [Region.binds]) (by kernel_rfl)) s50
      have g52 := get_eqS (hD 7 52 (by simp [Region.binds]) (by kernel_rfl)) s52
      refine ob_yes (wanted_yes rfl (by kernel_rfl) g50) ?_
      clear hF hD
      have c0 := blk_cell (blk_call H9.out (belT BZ.out hB)) 0 _ rfl
      go_simp
      exact hK _ _ (Below.refl _ _) (rt_eqS s53)
    refine obsR_cons ?_ ?_
    · intro T wx K hB hF hD hK
      have g50 := get_eqS (hD 5 50 (by simp [Region.binds]) (by kernel_rfl)) s50
      have g53 := get_eqS (hD 8 53 (by simp [Region.binds]) (by kernel_rfl)) s53
      refine ob_yes (wanted_yes rfl (by kernel_rfl) g50) ?_
      clear hF hD
      go_simp
      refine (valid_is _ 4 4 L0 true _ GN0.out GV0 (by have := GN0.out; omega) (prow_below R0.out (belT BZ.out hB))).mono ?_; rintro e w9 ⟨rfl, hb⟩
      exact hK _ _ hb (rt_eqS s54)
    refine obsR_cons ?_ ?_
    · intro T wx K hB hF hD hK
      have g50 := get_eqS (hD 5 50 (by simp [Region.binds]) (by kernel_rfl)) s50
      have g54 := get_eqS (hD 9 54 (by simp [Region.binds]) (by kernel_rfl)) s54
      refine ob_yes (wanted_yes rfl (by kernel_rfl) g50) ?_
      clear hF hD
      go_simp
      exact hK _ _ (Below.refl _ _) (rt_eqS s55)
    refine obsR_cons ?_ ?_
    · intro T wx K hB hF hD hK
      have g50 := get_eqS (hD 5 50 (by simp [Region.binds]) (by kernel_rfl)) s50
      have g55 := get_eqS (hD 10 55 (by simp [Region.binds]) (by kernel_rfl)) s55
      refine ob_yes (wanted_none rfl) ?_
      clear hF hD
      go_simp
      exact hK _ _ (Below.refl _ _) (rt_eqS s56)
    refine obsR_cons ?_ ?_
    · intro T wx K hB hF hD hK
      have g56 := get_eqS (hD 11 56 (by simp [Region.binds]) (by kernel_rfl)) s56
      refine ob_yes (wanted_none rfl) ?_
      clear hF hD
      go_simp
      exact hK _ _ (Below.refl _ _) (rt_eqS s57)
    refine obsR_cons ?_ ?_
    · intro T wx K hB hF hD hK
      have g57 := get_eqS (hD 12 57 (by simp [Region.binds]) (by kernel_rfl)) s57
      have g12 : T[12]? = some (.int .i64 0) := hF 12 (freeM_of (by kernel_rfl))
      refine ob_yes (wanted_yes rfl (by kernel_rfl) g57) ?_
      clear hF hD
      go_simp
      exact hK _ _ (Below.refl _ _) (rt_eqS s58)
    refine obsR_cons ?_ ?_
    · intro T wx K hB hF hD hK
      have g57 := get_eqS (hD 12 57 (by simp [Region.binds]) (by kernel_rfl)) s57
      have g9 : T[9]? = some (.pointer (some ⟨b9, 0, none⟩)) := hF 9 (freeM_of (by kernel_rfl))
      have g58 := get_eqS (hD 13 58 (by simp [Region.binds]) (by kernel_rfl)) s58
      refine ob_yes (wanted_yes rfl (by kernel_rfl) g57) ?_
      clear hF hD
      go_simp
      exact hK _ _ (Below.refl _ _) (rt_eqS s59)
    refine obsR_cons ?_ ?_
    · intro T wx K hB hF hD hK
      have g57 := get_eqS (hD 12 57 (by simp [Region.binds]) (by kernel_rfl)) s57
      have g59 := get_eqS (hD 14 59 (by simp [Region.binds]) (by kernel_rfl)) s59
      refine ob_yes (wanted_yes rfl (by kernel_rfl) g57) ?_
      clear hF hD
      have c0 := blk_cell (blk_call H9.out (belT BZ.out hB)) 0 _ rfl
      go_simp
      exact hK _ _ (Below.refl _ _) (rt_eqS s60)
    refine obsR_cons ?_ ?_
    · intro T wx K hB hF hD hK
      have g57 := get_eqS (hD 12 57 (by simp [Region.binds]) (by kernel_rfl)) s57
      have g60 := get_eqS (hD 15 60 (by simp [Region.binds]) (by kernel_rfl)) s60
      refine ob_yes (wanted_yes rfl (by kernel_rfl) g57) ?_
      clear hF hD
      go_simp
      refine (conv_is _ 4 4 L0 true _ GN0.out GC0 (by omega) (prow_below R0.out (belT BZ.out hB)) GA0.out).mono ?_; rintro e w9 ⟨rfl, hb⟩
      exact hK _ _ hb (rt_eqS s61)
    refine obsR_cons ?_ ?_
    · intro T wx K hB hF hD hK
      have g57 := get_eqS (hD 12 57 (by simp [Region.binds]) (by kernel_rfl)) s57
      have g61 := get_eqS (hD 16 61 (by simp [Region.binds]) (by kernel_rfl)) s61
      refine ob_yes (wanted_yes rfl (by kernel_rfl) g57) ?_
      clear hF hD
      go_simp
      exact hK _ _ (Below.refl _ _) (rt_eqS s62)
    refine obsR_cons ?_ ?_
    · intro T wx K hB hF hD hK
      have g57 := get_eqS (hD 12 57 (by simp [Region.binds]) (by kernel_rfl)) s57
      have g62 := get_eqS (hD 17 62 (by simp [Region.binds]) (by kernel_rfl)) s62
      refine ob_yes (wanted_none rfl) ?_
      clear hF hD
      go_simp
      exact hK _ _ (Below.refl _ _) (rt_eqS s63)
    refine obsR_cons ?_ ?_
    · intro T wx K hB hF hD hK
      have g63 := get_eqS (hD 18 63 (by simp [Region.binds]) (by kernel_rfl)) s63
      refine ob_yes (wanted_none rfl) ?_
      clear hF hD
      go_simp
      exact hK _ _ (Below.refl _ _) (rt_eqS s64)
    refine obsR_cons ?_ ?_
    · intro T wx K hB hF hD hK
      have g64 := get_eqS (hD 19 64 (by simp [Region.binds]) (by kernel_rfl)) s64
      have g12 : T[12]? = some (.int .i64 0) := hF 12 (freeM_of (by kernel_rfl))
      refine ob_yes (wanted_yes rfl (by kernel_rfl) g64) ?_
      clear hF hD
      go_simp
      exact hK _ _ (Below.refl _ _) (rt_eqS s65)
    refine obsR_cons ?_ ?_
    · intro T wx K hB hF hD hK
      have g64 := get_eqS (hD 19 64 (by simp [Region.binds]) (by kernel_rfl)) s64
      have g9 : T[9]? = some (.pointer (some ⟨b9, 0, none⟩)) := hF 9 (freeM_of (by kernel_rfl))
      have g65 := get_eqS (hD 20 65 (by simp [Region.binds]) (by kernel_rfl)) s65
      refine ob_yes (wanted_yes rfl (by kernel_rfl) g64) ?_
      clear hF hD
      go_simp
      exact hK _ _ (Below.refl _ _) (rt_eqS s66)
    refine obsR_cons ?_ ?_
    · intro T wx K hB hF hD hK
      have g64 := get_eqS (hD 19 64 (by simp [Region.binds]) (by kernel_rfl)) s64
      have g66 := get_eqS (hD 21 66 (by simp [Region.binds]) (by kernel_rfl)) s66
      refine ob_yes (wanted_yes rfl (by kernel_rfl) g64) ?_
      clear hF hD
      have c0 := blk_cell (blk_call H9.out (belT BZ.out hB)) 0 _ rfl
      go_simp
      exact hK _ _ (Below.refl _ _) (rt_eqS s67)
    refine obsR_cons ?_ ?_
    · intro T wx K hB hF hD hK
      have g64 := get_eqS (hD 19 64 (by simp [Region.binds]) (by kernel_rfl)) s64
      have g12 : T[12]? = some (.int .i64 0) := hF 12 (freeM_of (by kernel_rfl))
      refine ob_yes (wanted_yes rfl (by kernel_rfl) g64) ?_
      clear hF hD
      go_simp
      exact hK _ _ (Below.refl _ _) (rt_eqS s68)
    refine obsR_cons ?_ ?_
    · intro T wx K hB hF hD hK
      have g64 := get_eqS (hD 19 64 (by simp [Region.binds]) (by kernel_rfl)) s64
      have g10 : T[10]? = some (.pointer (some ⟨b10, 0, none⟩)) := hF 10 (freeM_of (by kernel_rfl))
      have g68 := get_eqS (hD 23 68 (by simp [Region.binds]) (by kernel_rfl)) s68
      refine ob_yes (wanted_yes rfl (by kernel_rfl) g64) ?_
      clear hF hD
      go_simp
      exact hK _ _ (Below.refl _ _) (rt_eqS s69)
    refine obsR_cons ?_ ?_
    · intro T wx K hB hF hD hK
      have g64 := get_eqS (hD 19 64 (by simp [Region.binds]) (by kernel_rfl)) s64
      have g69 := get_eqS (hD 24 69 (by simp [Region.binds]) (by kernel_rfl)) s69
      refine ob_yes (wanted_yes rfl (by kernel_rfl) g64) ?_
      clear hF hD
      have c0 := blk_cell (blk_call H10.out (belT BZ.out hB)) 0 _ rfl
      have c1 := blk_cell (blk_call H10.out (belT BZ.out hB)) 1 _ rfl
      go_simp
      exact hK _ _ (Below.refl _ _) (rt_eqS s70)
    refine obsR_cons ?_ ?_
    · intro T wx K hB hF hD hK
      have g64 := get_eqS (hD 19 64 (by simp [Region.binds]) (by kernel_rfl)) s64
      have g67 := get_eqS (hD 22 67 (by simp [Region.binds]) (by kernel_rfl)) s67
      have g70 := get_eqS (hD 25 70 (by simp [Region.binds]) (by kernel_rfl)) s70
      refine ob_yes (wanted_yes rfl (by kernel_rfl) g64) ?_
      clear hF hD
      go_simp
      refine (locate_at _ 4 4 L0 X Y 0 _ GN0.out GO0 (by have := GN0.out; omega) (by have := GN0.out; omega) (prow_below R0.out (belT BZ.out hB)) GA0.out.allr2 (by unfold InR; have := PB.out.1; have := WB.out; omega) (by unfold InR; have := PB.out.1; have := WB.out; omega)).mono ?_; rintro e w9 ⟨rfl, hb⟩
      exact hK _ _ hb (rt_eqS s71)
    refine obsR_cons ?_ ?_
    · intro T wx K hB hF hD hK
      have g64 := get_eqS (hD 19 64 (by simp [Region.binds]) (by kernel_rfl)) s64
      have g71 := get_eqS (hD 26 71 (by simp [Region.binds]) (by kernel_rfl)) s71
      refine ob_yes (wanted_yes rfl (by kernel_rfl) g64) ?_
      clear hF hD
      go_simp
      exact hK _ _ (Below.refl _ _) (rt_eqS s72)
    refine obsR_cons ?_ ?_
    · intro T wx K hB hF hD hK
      have g64 := get_eqS (hD 19 64 (by simp [Region.binds]) (by kernel_rfl)) s64
      have g72 := get_eqS (hD 27 72 (by simp [Region.binds]) (by kernel_rfl)) s72
      refine ob_yes (wanted_none rfl) ?_
      clear hF hD
      go_simp
      exact hK _ _ (Below.refl _ _) (rt_eqS s73)
    refine obsR_cons ?_ ?_
    · intro T wx K hB hF hD hK
      have g73 := get_eqS (hD 28 73 (by simp [Region.binds]) (by kernel_rfl)) s73
      refine ob_yes (wanted_none rfl) ?_
      clear hF hD
      go_simp
      exact hK _ _ (Below.refl _ _) (rt_eqS s74)
    refine obsR_cons ?_ ?_
    · intro T wx K hB hF hD hK
      have g74 := get_eqS (hD 29 74 (by simp [Region.binds]) (by kernel_rfl)) s74
      have g12 : T[12]? = some (.int .i64 0) := hF 12 (freeM_of (by kernel_rfl))
      refine ob_yes (wanted_yes rfl (by kernel_rfl) g74) ?_
      clear hF hD
      go_simp
      exact hK _ _ (Below.refl _ _) (rt_eqS s75)
    refine obsR_cons ?_ ?_
    · intro T wx K hB hF hD hK
      have g74 := get_eqS (hD 29 74 (by simp [Region.binds]) (by kernel_rfl)) s74
      have g9 : T[9]? = some (.pointer (some ⟨b9, 0, none⟩)) := hF 9 (freeM_of (by kernel_rfl))
      have g75 := get_eqS (hD 30 75 (by simp [Region.binds]) (by kernel_rfl)) s75
      refine ob_yes (wanted_yes rfl (by kernel_rfl) g74) ?_
      clear hF hD
      go_simp
      exact hK _ _ (Below.refl _ _) (rt_eqS s76)
    refine obsR_cons ?_ ?_
    · intro T wx K hB hF hD hK
      have g74 := get_eqS (hD 29 74 (by simp [Region.binds]) (by kernel_rfl)) s74
      have g76 := get_eqS (hD 31 76 (by simp [Region.binds]) (by kernel_rfl)) s76
      refine ob_yes (wanted_yes rfl (by kernel_rfl) g74) ?_
      clear hF hD
      have c0 := blk_cell (blk_call H9.out (belT BZ.out hB)) 0 _ rfl
      go_simp
      exact hK _ _ (Below.refl _ _) (rt_eqS s77)
    refine obsR_cons ?_ ?_
    · intro T wx K hB hF hD hK
      have g74 := get_eqS (hD 29 74 (by simp [Region.binds]) (by kernel_rfl)) s74
      have g12 : T[12]? = some (.int .i64 0) := hF 12 (freeM_of (by kernel_rfl))
      refine ob_yes (wanted_yes rfl (by kernel_rfl) g74) ?_
      clear hF hD
      go_simp
      exact hK _ _ (Below.refl _ _) (rt_eqS s78)
    refine obsR_cons ?_ ?_
    · intro T wx K hB hF hD hK
      have g74 := get_eqS (hD 29 74 (by simp [Region.binds]) (by kernel_rfl)) s74
      have g78 := get_eqS (hD 33 78 (by simp [Region.binds]) (by kernel_rfl)) s78
      refine ob_yes (wanted_yes rfl (by kernel_rfl) g74) ?_
      clear hF hD
      go_simp
      exact hK _ _ (Below.refl _ _) (rt_eqS s79)
    refine obsR_cons ?_ ?_
    · intro T wx K hB hF hD hK
      have g74 := get_eqS (hD 29 74 (by simp [Region.binds]) (by kernel_rfl)) s74
      have g10 : T[10]? = some (.pointer (some ⟨b10, 0, none⟩)) := hF 10 (freeM_of (by kernel_rfl))
      have g79 := get_eqS (hD 34 79 (by simp [Region.binds]) (by kernel_rfl)) s79
      refine ob_yes (wanted_yes rfl (by kernel_rfl) g74) ?_
      clear hF hD
      go_simp
      exact hK _ _ (Below.refl _ _) (rt_eqS s80)
    refine obsR_cons ?_ ?_
    · intro T wx K hB hF hD hK
      have g74 := get_eqS (hD 29 74 (by simp [Region.binds]) (by kernel_rfl)) s74
      have g80 := get_eqS (hD 35 80 (by simp [Region.binds]) (by kernel_rfl)) s80
      refine ob_yes (wanted_yes rfl (by kernel_rfl) g74) ?_
      clear hF hD
      have c0 := blk_cell (blk_call H10.out (belT BZ.out hB)) 2 _ rfl
      have c1 := blk_cell (blk_call H10.out (belT BZ.out hB)) 3 _ rfl
      go_simp
      exact hK _ _ (Below.refl _ _) (rt_eqS s81)
    refine obsR_cons ?_ ?_
    · intro T wx K hB hF hD hK
      have g74 := get_eqS (hD 29 74 (by simp [Region.binds]) (by kernel_rfl)) s74
      have g77 := get_eqS (hD 32 77 (by simp [Region.binds]) (by kernel_rfl)) s77
      have g81 := get_eqS (hD 36 81 (by simp [Region.binds]) (by kernel_rfl)) s81
      refine ob_yes (wanted_yes rfl (by kernel_rfl) g74) ?_
      clear hF hD
      go_simp
      refine (locate_at _ 4 4 L0 a1 b1 0 _ GN0.out GP0 (by have := GN0.out; omega) (by have := GN0.out; omega) (prow_below R0.out (belT BZ.out hB)) GA0.out.allr2 (by unfold InR; have := PB.out.2.1; have := WB.out; omega) (by unfold InR; have := PB.out.2.1; have := WB.out; omega)).mono ?_; rintro e w9 ⟨rfl, hb⟩
      exact hK _ _ hb (rt_eqS s82)
    refine obsR_cons ?_ ?_
    · intro T wx K hB hF hD hK
      have g74 := get_eqS (hD 29 74 (by simp [Region.binds]) (by kernel_rfl)) s74
      have g82 := get_eqS (hD 37 82 (by simp [Region.binds]) (by kernel_rfl)) s82
      refine ob_yes (wanted_yes rfl (by kernel_rfl) g74) ?_
      clear hF hD
      go_simp
      exact hK _ _ (Below.refl _ _) (rt_eqS s83)
    refine obsR_cons ?_ ?_
    · intro T wx K hB hF hD hK
      have g74 := get_eqS (hD 29 74 (by simp [Region.binds]) (by kernel_rfl)) s74
      have g83 := get_eqS (hD 38 83 (by simp [Region.binds]) (by kernel_rfl)) s83
      refine ob_yes (wanted_none rfl) ?_
      clear hF hD
      go_simp
      exact hK _ _ (Below.refl _ _) (rt_eqS s84)
    exact obsR_nil
  · intro T0 X0 hb8 hF hs hD
    have g45 := get_eqS (hD 0 45 (by decide) (by kernel_rfl)) s45
    have g46 := get_eqS (hD 1 46 (by decide) (by kernel_rfl)) s46
    have g47 := get_eqS (hD 2 47 (by decide) (by kernel_rfl)) s47
    have g48 := get_eqS (hD 3 48 (by decide) (by kernel_rfl)) s48
    have g49 := get_eqS (hD 4 49 (by decide) (by kernel_rfl)) s49
    have g50 := get_eqS (hD 5 50 (by decide) (by kernel_rfl)) s50
    have g51 := get_eqS (hD 6 51 (by decide) (by kernel_rfl)) s51
    have g52 := get_eqS (hD 7 52 (by decide) (by kernel_rfl)) s52
    have g53 := get_eqS (hD 8 53 (by decide) (by kernel_rfl)) s53
    have g54 := get_eqS (hD 9 54 (by decide) (by kernel_rfl)) s54
    have g55 := get_eqS (hD 10 55 (by decide) (by kernel_rfl)) s55
    have g56 := get_eqS (hD 11 56 (by decide) (by kernel_rfl)) s56
    have g57 := get_eqS (hD 12 57 (by decide) (by kernel_rfl)) s57
    have g58 := get_eqS (hD 13 58 (by decide) (by kernel_rfl)) s58
    have g59 := get_eqS (hD 14 59 (by decide) (by kernel_rfl)) s59
    have g60 := get_eqS (hD 15 60 (by decide) (by kernel_rfl)) s60
    have g61 := get_eqS (hD 16 61 (by decide) (by kernel_rfl)) s61
    have g62 := get_eqS (hD 17 62 (by decide) (by kernel_rfl)) s62
    have g63 := get_eqS (hD 18 63 (by decide) (by kernel_rfl)) s63
    have g64 := get_eqS (hD 19 64 (by decide) (by kernel_rfl)) s64
    have g65 := get_eqS (hD 20 65 (by decide) (by kernel_rfl)) s65
    have g66 := get_eqS (hD 21 66 (by decide) (by kernel_rfl)) s66
    have g67 := get_eqS (hD 22 67 (by decide) (by kernel_rfl)) s67
    have g68 := get_eqS (hD 23 68 (by decide) (by kernel_rfl)) s68
    have g69 := get_eqS (hD 24 69 (by decide) (by kernel_rfl)) s69
    have g70 := get_eqS (hD 25 70 (by decide) (by kernel_rfl)) s70
    have g71 := get_eqS (hD 26 71 (by decide) (by kernel_rfl)) s71
    have g72 := get_eqS (hD 27 72 (by decide) (by kernel_rfl)) s72
    have g73 := get_eqS (hD 28 73 (by decide) (by kernel_rfl)) s73
    have g74 := get_eqS (hD 29 74 (by decide) (by kernel_rfl)) s74
    have g75 := get_eqS (hD 30 75 (by decide) (by kernel_rfl)) s75
    have g76 := get_eqS (hD 31 76 (by decide) (by kernel_rfl)) s76
    have g77 := get_eqS (hD 32 77 (by decide) (by kernel_rfl)) s77
    have g78 := get_eqS (hD 33 78 (by decide) (by kernel_rfl)) s78
    have g79 := get_eqS (hD 34 79 (by decide) (by kernel_rfl)) s79
    have g80 := get_eqS (hD 35 80 (by decide) (by kernel_rfl)) s80
    have g81 := get_eqS (hD 36 81 (by decide) (by kernel_rfl)) s81
    have g82 := get_eqS (hD 37 82 (by decide) (by kernel_rfl)) s82
    have g83 := get_eqS (hD 38 83 (by decide) (by kernel_rfl)) s83
    have g84 := get_eqS (hD 39 84 (by decide) (by kernel_rfl)) s84
    have hT := conc [(45, .int .i64 0), (46, .pointer (some ⟨b9, 0, none⟩)), (47, .slice (some ⟨g0, 0, none⟩) 4 4), (48, .int .i64 4), (49, .bool false), (50, .bool false), (51, .int .i64 0), (52, .pointer (some ⟨b9, 0, none⟩)), (53, .slice (some ⟨g0, 0, none⟩) 4 4), (54, .bool true), (55, .bool false), (56, .bool false), (57, .bool false), (58, .int .i64 0), (59, .pointer (some ⟨b9, 0, none⟩)), (60, .slice (some ⟨g0, 0, none⟩) 4 4), (61, .bool true), (62, .bool false), (63, .bool false), (64, .bool false), (65, .int .i64 0), (66, .pointer (some ⟨b9, 0, none⟩)), (67, .slice (some ⟨g0, 0, none⟩) 4 4), (68, .int .i64 0), (69, .pointer (some ⟨b10, 0, none⟩)), (70, .agg #[.int .i64 X, .int .i64 Y]), (71, .int .i64 0), (72, .bool false), (73, .bool false), (74, .bool false), (75, .int .i64 0), (76, .pointer (some ⟨b9, 0, none⟩)), (77, .slice (some ⟨g0, 0, none⟩) 4 4), (78, .int .i64 0), (79, .int .i64 1), (80, .pointer (some ⟨b10, 2, none⟩)), (81, .agg #[.int .i64 a1, .int .i64 b1]), (82, .int .i64 0), (83, .bool false), (84, .bool false)] hs hF (by simp only [List.forall_mem_cons]; exact ⟨g45, g46, g47, g48, g49, g50, g51, g52, g53, g54, g55, g56, g57, g58, g59, g60, g61, g62, g63, g64, g65, g66, g67, g68, g69, g70, g71, g72, g73, g74, g75, g76, g77, g78, g79, g80, g81, g82, g83, g84, fun p hp => absurd hp List.not_mem_nil⟩) (by kernel_rfl)
    simp only [List.foldl, List.setIfInBounds_toArray, List.set_cons_succ, List.set_cons_zero] at hT
    subst hT
    clear hF hD hs g45 g46 g47 g48 g49 g50 g51 g52 g53 g54 g55 g56 g57 g58 g59 g60 g61 g62 g63 g64 g65 g66 g67 g68 g69 g70 g71 g72 g73 g74 g75 g76 g77 g78 g79 g80 g81 g82 g83 g84 s45 s46 s47 s48 s49 s50 s51 s52 s53 s54 s55 s56 s57 s58 s59 s60 s61 s62 s63 s64 s65 s66 s67 s68 s69 s70 s71 s72 s73 s74 s75 s76 s77 s78 s79 s80 s81 s82 s83 s84
    replace BZ := Lib.hid (belT BZ.out hb8)
    replace HO := Lib.hid (own_below HO.out hb8)
    clear hb8
    go_wp2_with fail
    obtain ⟨sp, hsp⟩ : ∃ sp : ToldS, sp = [none, none, none, none, none, none, none, none, none, none, none, none, none, none, none, none, none, none, none, none, none, none, none, none, none, none, none, none, none, none, none, none, none, none, none, none, none, none, none, none, none, none, none, none, none, none, none, none, none, none, none, none, none, none, none, none, none, none, none, none, none, none, none, none, none, none, none, none, none, none, none, none, none, none, none, none, none, none, none, none, none, none, none, none, none, some (eqS (.int .i64 0)), some (eqS (.bool false)), some (eqS (.bool false)), some (eqS (undef)), some (eqS (undef)), some (eqS (undef)), some (eqS (undef)), some (eqS (undef)), some (eqS (undef)), some (eqS (undef)), some (eqS (undef)), some (eqS (undef)), some (eqS (.bool false))] := ⟨_, rfl⟩
    have s85 : sp.getD 85 none = some (eqS (.int .i64 0)) := by rw [hsp]; rfl
    have s86 : sp.getD 86 none = some (eqS (.bool false)) := by rw [hsp]; rfl
    have s87 : sp.getD 87 none = some (eqS (.bool false)) := by rw [hsp]; rfl
    have s88 : sp.getD 88 none = some (eqS (undef)) := by rw [hsp]; rfl
    have s89 : sp.getD 89 none = some (eqS (undef)) := by rw [hsp]; rfl
    have s90 : sp.getD 90 none = some (eqS (undef)) := by rw [hsp]; rfl
    have s91 : sp.getD 91 none = some (eqS (undef)) := by rw [hsp]; rfl
    have s92 : sp.getD 92 none = some (eqS (undef)) := by rw [hsp]; rfl
    have s93 : sp.getD 93 none = some (eqS (undef)) := by rw [hsp]; rfl
    have s94 : sp.getD 94 none = some (eqS (undef)) := by rw [hsp]; rfl
    have s95 : sp.getD 95 none = some (eqS (undef)) := by rw [hsp]; rfl
    have s96 : sp.getD 96 none = some (eqS (undef)) := by rw [hsp]; rfl
    have s97 : sp.getD 97 none = some (eqS (.bool false)) := by rw [hsp]; rfl
    clear hsp
    refine (wpIn_wide (n := 0)).1 (region_allR (RtS sp) (rtS_keep sp) rfl rfl rfl (by kernel_rfl) (by kernel_rfl) (by kernel_rfl) ?_ ?_)
    · intro Q'
      refine obsR_cons ?_ ?_
      · intro T wx K hB hF hD hK
        have g12 : T[12]? = some (.int .i64 0) := hF 12 (freeM_of (by kernel_rfl))
        refine ob_yes (wanted_none rfl) ?_
        clear hF hD
        go_simp
        exact hK _ _ (Below.refl _ _) (rt_eqS s85)
      refine obsR_cons ?_ ?_
      · intro T wx K hB hF hD hK
        have g85 := get_eqS (hD 0 85 (by simp [Region.binds]) (by kernel_rfl)) s85
        refine ob_yes (wanted_none rfl) ?_
        clear hF hD
        go_simp
        exact hK _ _ (Below.refl _ _) (rt_eqS s86)
      refine obsR_cons ?_ ?_
      · intro T wx K hB hF hD hK
        have g86 := get_eqS (hD 1 86 (by simp [Region.binds]) (by kernel_rfl)) s86
        refine ob_yes (wanted_none rfl) ?_
        clear hF hD
        go_simp
        exact hK _ _ (Below.refl _ _) (rt_eqS s87)
      refine obsR_cons ?_ ?_
      · intro T wx K hB hF hD hK
        have g87 := get_eqS (hD 2 87 (by simp [Region.binds]) (by kernel_rfl)) s87
        refine ob_no (wanted_no rfl (by kernel_rfl) g87 rfl) ?_
        exact hK _ _ (Below.refl _ _) (rt_eqS s88)
      refine obsR_cons ?_ ?_
      · intro T wx K hB hF hD hK
        have g87 := get_eqS (hD 2 87 (by simp [Region.binds]) (by kernel_rfl)) s87
        refine ob_no (wanted_no rfl (by kernel_rfl) g87 rfl) ?_
        exact hK _ _ (Below.refl _ _) (rt_eqS s89)
      refine obsR_cons ?_ ?_
      · intro T wx K hB hF hD hK
        have g87 := get_eqS (hD 2 87 (by simp [Region.binds]) (by kernel_rfl)) s87
        refine ob_no (wanted_no rfl (by kernel_rfl) g87 rfl) ?_
        exact hK _ _ (Below.refl _ _) (rt_eqS s90)
      refine obsR_cons ?_ ?_
      · intro T wx K hB hF hD hK
        have g87 := get_eqS (hD 2 87 (by simp [Region.binds]) (by kernel_rfl)) s87
        refine ob_no (wanted_no rfl (by kernel_rfl) g87 rfl) ?_
        exact hK _ _ (Below.refl _ _) (rt_eqS s91)
      refine obsR_cons ?_ ?_
      · intro T wx K hB hF hD hK
        have g87 := get_eqS (hD 2 87 (by simp [Region.binds]) (by kernel_rfl)) s87
        refine ob_no (wanted_no rfl (by kernel_rfl) g87 rfl) ?_
        exact hK _ _ (Below.refl _ _) (rt_eqS s92)
      refine obsR_cons ?_ ?_
      · intro T wx K hB hF hD hK
        have g87 := get_eqS (hD 2 87 (by simp [Region.binds]) (by kernel_rfl)) s87
        refine ob_no (wanted_no rfl (by kernel_rfl) g87 rfl) ?_
        exact hK _ _ (Below.refl _ _) (rt_eqS s93)
      refine obsR_cons ?_ ?_
      · intro T wx K hB hF hD hK
        have g87 := get_eqS (hD 2 87 (by simp [Region.binds]) (by kernel_rfl)) s87
        refine ob_no (wanted_no rfl (by kernel_rfl) g87 rfl) ?_
        exact hK _ _ (Below.refl _ _) (rt_eqS s94)
      refine obsR_cons ?_ ?_
      · intro T wx K hB hF hD hK
        have g87 := get_eqS (hD 2 87 (by simp [Region.binds]) (by kernel_rfl)) s87
        refine ob_no (wanted_no rfl (by kernel_rfl) g87 rfl) ?_
        exact hK _ _ (Below.refl _ _) (rt_eqS s95)
      refine obsR_cons ?_ ?_
      · intro T wx K hB hF hD hK
        have g87 := get_eqS (hD 2 87 (by simp [Region.binds]) (by kernel_rfl)) s87
        refine ob_no (wanted_no rfl (by kernel_rfl) g87 rfl) ?_
        exact hK _ _ (Below.refl _ _) (rt_eqS s96)
      refine obsR_cons ?_ ?_
      · intro T wx K hB hF hD hK
        have g87 := get_eqS (hD 2 87 (by simp [Region.binds]) (by kernel_rfl)) s87
        have g96 := get_eqS (hD 11 96 (by simp [Region.binds]) (by kernel_rfl)) s96
        refine ob_yes (wanted_none rfl) ?_
        clear hF hD
        go_simp
        exact hK _ _ (Below.refl _ _) (rt_eqS s97)
      exact obsR_nil
    · intro S0 Y0 hb8 hF hs hD
      have g85 := get_eqS (hD 0 85 (by decide) (by kernel_rfl)) s85
      have g86 := get_eqS (hD 1 86 (by decide) (by kernel_rfl)) s86
      have g87 := get_eqS (hD 2 87 (by decide) (by kernel_rfl)) s87
      have g88 := get_eqS (hD 3 88 (by decide) (by kernel_rfl)) s88
      have g89 := get_eqS (hD 4 89 (by decide) (by kernel_rfl)) s89
      have g90 := get_eqS (hD 5 90 (by decide) (by kernel_rfl)) s90
      have g91 := get_eqS (hD 6 91 (by decide) (by kernel_rfl)) s91
      have g92 := get_eqS (hD 7 92 (by decide) (by kernel_rfl)) s92
      have g93 := get_eqS (hD 8 93 (by decide) (by kernel_rfl)) s93
      have g94 := get_eqS (hD 9 94 (by decide) (by kernel_rfl)) s94
      have g95 := get_eqS (hD 10 95 (by decide) (by kernel_rfl)) s95
      have g96 := get_eqS (hD 11 96 (by decide) (by kernel_rfl)) s96
      have g97 := get_eqS (hD 12 97 (by decide) (by kernel_rfl)) s97
      have hT := conc [(85, .int .i64 0), (86, .bool false), (87, .bool false), (88, undef), (89, undef), (90, undef), (91, undef), (92, undef), (93, undef), (94, undef), (95, undef), (96, undef), (97, .bool false)] hs hF (by simp only [List.forall_mem_cons]; exact ⟨g85, g86, g87, g88, g89, g90, g91, g92, g93, g94, g95, g96, g97, fun p hp => absurd hp List.not_mem_nil⟩) (by kernel_rfl)
      simp only [List.foldl, List.setIfInBounds_toArray, List.set_cons_succ, List.set_cons_zero] at hT
      subst hT
      clear hF hD hs g85 g86 g87 g88 g89 g90 g91 g92 g93 g94 g95 g96 g97 s85 s86 s87 s88 s89 s90 s91 s92 s93 s94 s95 s96 s97
      replace BZ := Lib.hid (belT BZ.out hb8)
      replace HO := Lib.hid (own_below HO.out hb8)
      clear hb8
      have e0 := blk_cell (blk_call H9.out BZ.out) 0 _ rfl
      go_wp2_with (at_builtin; refine wpList_append_two rfl _ _ 29 30 rfl W3.heap.size i0 (.agg #[.int .i64 0, .int .i64 0]) Tryz.underlying29 Tryz.underlying30 hi hz0 hz1' hz2 rfl _ _ _ rfl HO.out g0 4 4 L0 rfl GN0.out (prow_below R0.out BZ.out) (by omega) BZ.out.size ?_)
      intro sv0 Z0 hown hgrow
      replace BZ := Lib.hid (BZ.out.grown hgrow BZ.out.size (fun j hj => (HO.out.lt j hj).1))
      replace HO := Lib.hid hown
      clear hown hgrow e0
      go_wp2_with fail
      rw [rounds_succ]
      go_wp2_with fail
      obtain ⟨sp, hsp⟩ : ∃ sp : ToldS, sp = [none, none, none, none, none, none, none, none, none, none, none, none, none, none, none, none, none, none, none, none, none, none, none, none, none, none, none, none, none, none, none, none, none, none, none, none, none, none, none, none, none, none, none, none, none, some (eqS (.int .i64 1)), some (eqS (.pointer (some ⟨b9, 1, none⟩))), some (eqS (.slice (some ⟨g1, 0, none⟩) 4 4)), some (eqS (.int .i64 4)), some (eqS (.bool false)), some (eqS (.bool false)), some (eqS (.int .i64 1)), some (eqS (.pointer (some ⟨b9, 1, none⟩))), some (eqS (.slice (some ⟨g1, 0, none⟩) 4 4)), some (eqS (.bool true)), some (eqS (.bool false)), some (eqS (.bool false)), some (eqS (.bool false)), some (eqS (.int .i64 1)), some (eqS (.pointer (some ⟨b9, 1, none⟩))), some (eqS (.slice (some ⟨g1, 0, none⟩) 4 4)), some (eqS (.bool true)), some (eqS (.bool false)), some (eqS (.bool false)), some (eqS (.bool false)), some (eqS (.int .i64 1)), some (eqS (.pointer (some ⟨b9, 1, none⟩))), some (eqS (.slice (some ⟨g1, 0, none⟩) 4 4)), some (eqS (.int .i64 1)), some (eqS (.pointer (some ⟨b10, 2, none⟩))), some (eqS (.agg #[.int .i64 a1, .int .i64 b1])), some (eqS (.int .i64 0)), some (eqS (.bool false)), some (eqS (.bool false)), some (eqS (.bool false)), some (eqS (.int .i64 1)), some (eqS (.pointer (some ⟨b9, 1, none⟩))), some (eqS (.slice (some ⟨g1, 0, none⟩) 4 4)), some (eqS (.int .i64 1)), some (eqS (.int .i64 2)), some (eqS (.pointer (some ⟨b10, 4, none⟩))), some (eqS (.agg #[.int .i64 a2, .int .i64 b2])), some (eqS (.int .i64 0)), some (eqS (.bool false)), some (eqS (.bool false))] := ⟨_, rfl⟩
      have s45 : sp.getD 45 none = some (eqS (.int .i64 1)) := by rw [hsp]; rfl
      have s46 : sp.getD 46 none = some (eqS (.pointer (some ⟨b9, 1, none⟩))) := by rw [hsp]; rfl
      have s47 : sp.getD 47 none = some (eqS (.slice (some ⟨g1, 0, none⟩) 4 4)) := by rw [hsp]; rfl
      have s48 : sp.getD 48 none = some (eqS (.int .i64 4)) := by rw [hsp]; rfl
      have s49 : sp.getD 49 none = some (eqS (.bool false)) := by rw [hsp]; rfl
      have s50 : sp.getD 50 none = some (eqS (.bool false)) := by rw [hsp]; rfl
      have s51 : sp.getD 51 none = some (eqS (.int .i64 1)) := by rw [hsp]; rfl
      have s52 : sp.getD 52 none = some (eqS (.pointer (some ⟨b9, 1, none⟩))) := by rw [hsp]; rfl
      have s53 : sp.getD 53 none = some (eqS (.slice (some ⟨g1, 0, none⟩) 4 4)) := by rw [hsp]; rfl
      have s54 : sp.getD 54 none = some (eqS (.bool true)) := by rw [hsp]; rfl
      have s55 : sp.getD 55 none = some (eqS (.bool false)) := by rw [hsp]; rfl
      have s56 : sp.getD 56 none = some (eqS (.bool false)) := by rw [hsp]; rfl
      have s57 : sp.getD 57 none = some (eqS (.bool false)) := by rw [hsp]; rfl
      have s58 : sp.getD 58 none = some (eqS (.int .i64 1)) := by rw [hsp]; rfl
      have s59 : sp.getD 59 none = some (eqS (.pointer (some ⟨b9, 1, none⟩))) := by rw [hsp]; rfl
      have s60 : sp.getD 60 none = some (eqS (.slice (some ⟨g1, 0, none⟩) 4 4)) := by rw [hsp]; rfl
      have s61 : sp.getD 61 none = some (eqS (.bool true)) := by rw [hsp]; rfl
      have s62 : sp.getD 62 none = some (eqS (.bool false)) := by rw [hsp]; rfl
      have s63 : sp.getD 63 none = some (eqS (.bool false)) := by rw [hsp]; rfl
      have s64 : sp.getD 64 none = some (eqS (.bool false)) := by rw [hsp]; rfl
      have s65 : sp.getD 65 none = some (eqS (.int .i64 1)) := by rw [hsp]; rfl
      have s66 : sp.getD 66 none = some (eqS (.pointer (some ⟨b9, 1, none⟩))) := by rw [hsp]; rfl
      have s67 : sp.getD 67 none = some (eqS (.slice (some ⟨g1, 0, none⟩) 4 4)) := by rw [hsp]; rfl
      have s68 : sp.getD 68 none = some (eqS (.int .i64 1)) := by rw [hsp]; rfl
      have s69 : sp.getD 69 none = some (eqS (.pointer (some ⟨b10, 2, none⟩))) := by rw [hsp]; rfl
      have s70 : sp.getD 70 none = some (eqS (.agg #[.int .i64 a1, .int .i64 b1])) := by rw [hsp]; rfl
      have s71 : sp.getD 71 none = some (eqS (.int .i64 0)) := by rw [hsp]; rfl
      have s72 : sp.getD 72 none = some (eqS (.bool false)) := by rw [hsp]; rfl
      have s73 : sp.getD 73 none = some (eqS (.bool false)) := by rw [hsp]; rfl
      have s74 : sp.getD 74 none = some (eqS (.bool false)) := by rw [hsp]; rfl
      have s75 : sp.getD 75 none = some (eqS (.int .i64 1)) := by rw [hsp]; rfl
      have s76 : sp.getD 76 none = some (eqS (.pointer (some ⟨b9, 1, none⟩))) := by rw [hsp]; rfl
      have s77 : sp.getD 77 none = some (eqS (.slice (some ⟨g1, 0, none⟩) 4 4)) := by rw [hsp]; rfl
      have s78 : sp.getD 78 none = some (eqS (.int .i64 1)) := by rw [hsp]; rfl
      have s79 : sp.getD 79 none = some (eqS (.int .i64 2)) := by rw [hsp]; rfl
      have s80 : sp.getD 80 none = some (eqS (.pointer (some ⟨b10, 4, none⟩))) := by rw [hsp]; rfl
      have s81 : sp.getD 81 none = some (eqS (.agg #[.int .i64 a2, .int .i64 b2])) := by rw [hsp]; rfl
      have s82 : sp.getD 82 none = some (eqS (.int .i64 0)) := by rw [hsp]; rfl
      have s83 : sp.getD 83 none = some (eqS (.bool false)) := by rw [hsp]; rfl
      have s84 : sp.getD 84 none = some (eqS (.bool false)) := by rw [hsp]; rfl
      clear hsp
      refine (wpIn_wide (n := 0)).1 (region_allR (RtS sp) (rtS_keep sp) rfl rfl rfl (by kernel_rfl) (by kernel_rfl) (by kernel_rfl) ?_ ?_)
      · intro Q'
        refine obsR_cons ?_ ?_
        · intro T wx K hB hF hD hK
          have g12 : T[12]? = some (.int .i64 1) := hF 12 (freeM_of (by kernel_rfl))
          refine ob_yes (wanted_none rfl) ?_
          clear hF hD
          go_simp
          exact hK _ _ (Below.refl _ _) (rt_eqS s45)
        refine obsR_cons ?_ ?_
        · intro T wx K hB hF hD hK
          have g9 : T[9]? = some (.pointer (some ⟨b9, 0, none⟩)) := hF 9 (freeM_of (by kernel_rfl))
          have g45 := get_eqS (hD 0 45 (by simp [Region.binds]) (by kernel_rfl)) s45
          refine ob_yes (wanted_none rfl) ?_
          clear hF hD
          go_simp
          exact hK _ _ (Below.refl _ _) (rt_eqS s46)
        refine obsR_cons ?_ ?_
        · intro T wx K hB hF hD hK
          have g46 := get_eqS (hD 1 46 (by simp [Region.binds]) (by kernel_rfl)) s46
          refine ob_yes (wanted_none rfl) ?_
          clear hF hD
          have c0 := blk_cell (blk_call H9.out (belT BZ.out hB)) 1 _ rfl
          go_simp
          exact hK _ _ (Below.refl _ _) (rt_eqS s47)
        refine obsR_cons ?_ ?_
        · intro T wx K hB hF hD hK
          have g47 := get_eqS (hD 2 47 (by simp [Region.binds]) (by kernel_rfl)) s47
          refine ob_yes (wanted_none rfl) ?_
          clear hF hD
          go_simp
          exact hK _ _ (Below.refl _ _) (rt_eqS s48)
        refine obsR_cons ?_ ?_
        · intro T wx K hB hF hD hK
          have g48 := get_eqS (hD 3 48 (by simp [Region.binds]) (by kernel_rfl)) s48
          refine ob_yes (wanted_none rfl) ?_
          clear hF hD
          go_simp
          exact hK _ _ (Below.refl _ _) (rt_eqS s49)
        refine obsR_cons ?_ ?_
        · intro T wx K hB hF hD hK
          have g49 := get_eqS (hD 4 49 (by simp [Region.binds]) (by kernel_rfl)) s49
          refine ob_yes (wanted_none rfl) ?_
          clear hF hD
          go_simp
          exact hK _ _ (Below.refl _ _) (rt_eqS s50)
        refine obsR_cons ?_ ?_
        · intro T wx K hB hF hD hK
          have g50 := get_eqS (hD 5 50 (by simp [Region.binds]) (by kernel_rfl)) s50
          have g12 : T[12]? = some (.int .i64 1) := hF 12 (freeM_of (by kernel_rfl))
          refine ob_yes (wanted_yes rfl (by kernel_rfl) g50) ?_
          clear hF hD
          go_simp
          exact hK _ _ (Below.refl _ _) (rt_eqS s51)
        refine obsR_cons ?_ ?_
        · intro T wx K hB hF hD hK
          have g50 := get_eqS (hD 5 50 (by simp [Region.binds]) (by kernel_rfl)) s50
          have g9 : T[9]? = some (.pointer (some ⟨b9, 0, none⟩)) := hF 9 (freeM_of (by kernel_rfl))
          have g51 := get_eqS (hD 6 51 (by simp [Region.binds]) (by kernel_rfl)) s51
          refine ob_yes (wanted_yes rfl (by kernel_rfl) g50) ?_
          clear hF hD
          go_simp
          exact hK _ _ (Below.refl _ _) (rt_eqS s52)
        refine obsR_cons ?_ ?_
        · intro T wx K hB hF hD hK
          have g50 := get_eqS (hD 5 50 (by simp [Region.binds]) (by kernel_rfl)) s50
          have g52 := get_eqS (hD 7 52 (by simp [Region.binds]) (by kernel_rfl)) s52
          refine ob_yes (wanted_yes rfl (by kernel_rfl) g50) ?_
          clear hF hD
          have c0 := blk_cell (blk_call H9.out (belT BZ.out hB)) 1 _ rfl
          go_simp
          exact hK _ _ (Below.refl _ _) (rt_eqS s53)
        refine obsR_cons ?_ ?_
        · intro T wx K hB hF hD hK
          have g50 := get_eqS (hD 5 50 (by simp [Region.binds]) (by kernel_rfl)) s50
          have g53 := get_eqS (hD 8 53 (by simp [Region.binds]) (by kernel_rfl)) s53
          refine ob_yes (wanted_yes rfl (by kernel_rfl) g50) ?_
          clear hF hD
          go_simp
          refine (valid_is _ 4 4 L1 true _ GN1.out GV1 (by have := GN1.out; omega) (prow_below R1.out (belT BZ.out hB))).mono ?_; rintro e w9 ⟨rfl, hb⟩
          exact hK _ _ hb (rt_eqS s54)
        refine obsR_cons ?_ ?_
        · intro T wx K hB hF hD hK
          have g50 := get_eqS (hD 5 50 (by simp [Region.binds]) (by kernel_rfl)) s50
          have g54 := get_eqS (hD 9 54 (by simp [Region.binds]) (by kernel_rfl)) s54
          refine ob_yes (wanted_yes rfl (by kernel_rfl) g50) ?_
          clear hF hD
          go_simp
          exact hK _ _ (Below.refl _ _) (rt_eqS s55)
        refine obsR_cons ?_ ?_
        · intro T wx K hB hF hD hK
          have g50 := get_eqS (hD 5 50 (by simp [Region.binds]) (by kernel_rfl)) s50
          have g55 := get_eqS (hD 10 55 (by simp [Region.binds]) (by kernel_rfl)) s55
          refine ob_yes (wanted_none rfl) ?_
          clear hF hD
          go_simp
          exact hK _ _ (Below.refl _ _) (rt_eqS s56)
        refine obsR_cons ?_ ?_
        · intro T wx K hB hF hD hK
          have g56 := get_eqS (hD 11 56 (by simp [Region.binds]) (by kernel_rfl)) s56
          refine ob_yes (wanted_none rfl) ?_
          clear hF hD
          go_simp
          exact hK _ _ (Below.refl _ _) (rt_eqS s57)
        refine obsR_cons ?_ ?_
        · intro T wx K hB hF hD hK
          have g57 := get_eqS (hD 12 57 (by simp [Region.binds]) (by kernel_rfl)) s57
          have g12 : T[12]? = some (.int .i64 1) := hF 12 (freeM_of (by kernel_rfl))
          refine ob_yes (wanted_yes rfl (by kernel_rfl) g57) ?_
          clear hF hD
          go_simp
          exact hK _ _ (Below.refl _ _) (rt_eqS s58)
        refine obsR_cons ?_ ?_
        · intro T wx K hB hF hD hK
          have g57 := get_eqS (hD 12 57 (by simp [Region.binds]) (by kernel_rfl)) s57
          have g9 : T[9]? = some (.pointer (some ⟨b9, 0, none⟩)) := hF 9 (freeM_of (by kernel_rfl))
          have g58 := get_eqS (hD 13 58 (by simp [Region.binds]) (by kernel_rfl)) s58
          refine ob_yes (wanted_yes rfl (by kernel_rfl) g57) ?_
          clear hF hD
          go_simp
          exact hK _ _ (Below.refl _ _) (rt_eqS s59)
        refine obsR_cons ?_ ?_
        · intro T wx K hB hF hD hK
          have g57 := get_eqS (hD 12 57 (by simp [Region.binds]) (by kernel_rfl)) s57
          have g59 := get_eqS (hD 14 59 (by simp [Region.binds]) (by kernel_rfl)) s59
          refine ob_yes (wanted_yes rfl (by kernel_rfl) g57) ?_
          clear hF hD
          have c0 := blk_cell (blk_call H9.out (belT BZ.out hB)) 1 _ rfl
          go_simp
          exact hK _ _ (Below.refl _ _) (rt_eqS s60)
        refine obsR_cons ?_ ?_
        · intro T wx K hB hF hD hK
          have g57 := get_eqS (hD 12 57 (by simp [Region.binds]) (by kernel_rfl)) s57
          have g60 := get_eqS (hD 15 60 (by simp [Region.binds]) (by kernel_rfl)) s60
          refine ob_yes (wanted_yes rfl (by kernel_rfl) g57) ?_
          clear hF hD
          go_simp
          refine (conv_is _ 4 4 L1 true _ GN1.out GC1 (by omega) (prow_below R1.out (belT BZ.out hB)) GA1.out).mono ?_; rintro e w9 ⟨rfl, hb⟩
          exact hK _ _ hb (rt_eqS s61)
        refine obsR_cons ?_ ?_
        · intro T wx K hB hF hD hK
          have g57 := get_eqS (hD 12 57 (by simp [Region.binds]) (by kernel_rfl)) s57
          have g61 := get_eqS (hD 16 61 (by simp [Region.binds]) (by kernel_rfl)) s61
          refine ob_yes (wanted_yes rfl (by kernel_rfl) g57) ?_
          clear hF hD
          go_simp
          exact hK _ _ (Below.refl _ _) (rt_eqS s62)
        refine obsR_cons ?_ ?_
        · intro T wx K hB hF hD hK
          have g57 := get_eqS (hD 12 57 (by simp [Region.binds]) (by kernel_rfl)) s57
          have g62 := get_eqS (hD 17 62 (by simp [Region.binds]) (by kernel_rfl)) s62
          refine ob_yes (wanted_none rfl) ?_
          clear hF hD
          go_simp
          exact hK _ _ (Below.refl _ _) (rt_eqS s63)
        refine obsR_cons ?_ ?_
        · intro T wx K hB hF hD hK
          have g63 := get_eqS (hD 18 63 (by simp [Region.binds]) (by kernel_rfl)) s63
          refine ob_yes (wanted_none rfl) ?_
          clear hF hD
          go_simp
          exact hK _ _ (Below.refl _ _) (rt_eqS s64)
        refine obsR_cons ?_ ?_
        · intro T wx K hB hF hD hK
          have g64 := get_eqS (hD 19 64 (by simp [Region.binds]) (by kernel_rfl)) s64
          have g12 : T[12]? = some (.int .i64 1) := hF 12 (freeM_of (by kernel_rfl))
          refine ob_yes (wanted_yes rfl (by kernel_rfl) g64) ?_
          clear hF hD
          go_simp
          exact hK _ _ (Below.refl _ _) (rt_eqS s65)
        refine obsR_cons ?_ ?_
        · intro T wx K hB hF hD hK
          have g64 := get_eqS (hD 19 64 (by simp [Region.binds]) (by kernel_rfl)) s64
          have g9 : T[9]? = some (.pointer (some ⟨b9, 0, none⟩)) := hF 9 (freeM_of (by kernel_rfl))
          have g65 := get_eqS (hD 20 65 (by simp [Region.binds]) (by kernel_rfl)) s65
          refine ob_yes (wanted_yes rfl (by kernel_rfl) g64) ?_
          clear hF hD
          go_simp
          exact hK _ _ (Below.refl _ _) (rt_eqS s66)
        refine obsR_cons ?_ ?_
        · intro T wx K hB hF hD hK
          have g64 := get_eqS (hD 19 64 (by simp [Region.binds]) (by kernel_rfl)) s64
          have g66 := get_eqS (hD 21 66 (by simp [Region.binds]) (by kernel_rfl)) s66
          refine ob_yes (wanted_yes rfl (by kernel_rfl) g64) ?_
          clear hF hD
          have c0 := blk_cell (blk_call H9.out (belT BZ.out hB)) 1 _ rfl
          go_simp
          exact hK _ _ (Below.refl _ _) (rt_eqS s67)
        refine obsR_cons ?_ ?_
        · intro T wx K hB hF hD hK
          have g64 := get_eqS (hD 19 64 (by simp [Region.binds]) (by kernel_rfl)) s64
          have g12 : T[12]? = some (.int .i64 1) := hF 12 (freeM_of (by kernel_rfl))
          refine ob_yes (wanted_yes rfl (by kernel_rfl) g64) ?_
          clear hF hD
          go_simp
          exact hK _ _ (Below.refl _ _) (rt_eqS s68)
        refine obsR_cons ?_ ?_
        · intro T wx K hB hF hD hK
          have g64 := get_eqS (hD 19 64 (by simp [Region.binds]) (by kernel_rfl)) s64
          have g10 : T[10]? = some (.pointer (some ⟨b10, 0, none⟩)) := hF 10 (freeM_of (by kernel_rfl))
          have g68 := get_eqS (hD 23 68 (by simp [Region.binds]) (by kernel_rfl)) s68
          refine ob_yes (wanted_yes rfl (by kernel_rfl) g64) ?_
          clear hF hD
          go_simp
          exact hK _ _ (Below.refl _ _) (rt_eqS s69)
        refine obsR_cons ?_ ?_
        · intro T wx K hB hF hD hK
          have g64 := get_eqS (hD 19 64 (by simp [Region.binds]) (by kernel_rfl)) s64
          have g69 := get_eqS (hD 24 69 (by simp [Region.binds]) (by kernel_rfl)) s69
          refine ob_yes (wanted_yes rfl (by kernel_rfl) g64) ?_
          clear hF hD
          have c0 := blk_cell (blk_call H10.out (belT BZ.out hB)) 2 _ rfl
          have c1 := blk_cell (blk_call H10.out (belT BZ.out hB)) 3 _ rfl
          go_simp
          exact hK _ _ (Below.refl _ _) (rt_eqS s70)
        refine obsR_cons ?_ ?_
        · intro T wx K hB hF hD hK
          have g64 := get_eqS (hD 19 64 (by simp [Region.binds]) (by kernel_rfl)) s64
          have g67 := get_eqS (hD 22 67 (by simp [Region.binds]) (by kernel_rfl)) s67
          have g70 := get_eqS (hD 25 70 (by simp [Region.binds]) (by kernel_rfl)) s70
          refine ob_yes (wanted_yes rfl (by kernel_rfl) g64) ?_
          clear hF hD
          go_simp
          refine (locate_at _ 4 4 L1 a1 b1 0 _ GN1.out GO1 (by have := GN1.out; omega) (by have := GN1.out; omega) (prow_below R1.out (belT BZ.out hB)) GA1.out.allr2 (by unfold InR; have := PB.out.2.1; have := WB.out; omega) (by unfold InR; have := PB.out.2.1; have := WB.out; omega)).mono ?_; rintro e w9 ⟨rfl, hb⟩
          exact hK _ _ hb (rt_eqS s71)
        refine obsR_cons ?_ ?_
        · intro T wx K hB hF hD hK
          have g64 := get_eqS (hD 19 64 (by simp [Region.binds]) (by kernel_rfl)) s64
          have g71 := get_eqS (hD 26 71 (by simp [Region.binds]) (by kernel_rfl)) s71
          refine ob_yes (wanted_yes rfl (by kernel_rfl) g64) ?_
          clear hF hD
          go_simp
          exact hK _ _ (Below.refl _ _) (rt_eqS s72)
        refine obsR_cons ?_ ?_
        · intro T wx K hB hF hD hK
          have g64 := get_eqS (hD 19 64 (by simp [Region.binds]) (by kernel_rfl)) s64
          have g72 := get_eqS (hD 27 72 (by simp [Region.binds]) (by kernel_rfl)) s72
          refine ob_yes (wanted_none rfl) ?_
          clear hF hD
          go_simp
          exact hK _ _ (Below.refl _ _) (rt_eqS s73)
        refine obsR_cons ?_ ?_
        · intro T wx K hB hF hD hK
          have g73 := get_eqS (hD 28 73 (by simp [Region.binds]) (by kernel_rfl)) s73
          refine ob_yes (wanted_none rfl) ?_
          clear hF hD
          go_simp
          exact hK _ _ (Below.refl _ _) (rt_eqS s74)
        refine obsR_cons ?_ ?_
        · intro T wx K hB hF hD hK
          have g74 := get_eqS (hD 29 74 (by simp [Region.binds]) (by kernel_rfl)) s74
          have g12 : T[12]? = some (.int .i64 1) := hF 12 (freeM_of (by kernel_rfl))
          refine ob_yes (wanted_yes rfl (by kernel_rfl) g74) ?_
          clear hF hD
          go_simp
          exact hK _ _ (Below.refl _ _) (rt_eqS s75)
        refine obsR_cons ?_ ?_
        · intro T wx K hB hF hD hK
          have g74 := get_eqS (hD 29 74 (by simp [Region.binds]) (by kernel_rfl)) s74
          have g9 : T[9]? = some (.pointer (some ⟨b9, 0, none⟩)) := hF 9 (freeM_of (by kernel_rfl))
          have g75 := get_eqS (hD 30 75 (by simp [Region.binds]) (by kernel_rfl)) s75
          refine ob_yes (wanted_yes rfl (by kernel_rfl) g74) ?_
          clear hF hD
          go_simp
          exact hK _ _ (Below.refl _ _) (rt_eqS s76)
        refine obsR_cons ?_ ?_
        · intro T wx K hB hF hD hK
          have g74 := get_eqS (hD 29 74 (by simp [Region.binds]) (by kernel_rfl)) s74
          have g76 := get_eqS (hD 31 76 (by simp [Region.binds]) (by kernel_rfl)) s76
          refine ob_yes (wanted_yes rfl (by kernel_rfl) g74) ?_
          clear hF hD
          have c0 := blk_cell (blk_call H9.out (belT BZ.out hB)) 1 _ rfl
          go_simp
          exact hK _ _ (Below.refl _ _) (rt_eqS s77)
        refine obsR_cons ?_ ?_
        · intro T wx K hB hF hD hK
          have g74 := get_eqS (hD 29 74 (by simp [Region.binds]) (by kernel_rfl)) s74
          have g12 : T[12]? = some (.int .i64 1) := hF 12 (freeM_of (by kernel_rfl))
          refine ob_yes (wanted_yes rfl (by kernel_rfl) g74) ?_
          clear hF hD
          go_simp
          exact hK _ _ (Below.refl _ _) (rt_eqS s78)
        refine obsR_cons ?_ ?_
        · intro T wx K hB hF hD hK
          have g74 := get_eqS (hD 29 74 (by simp [Region.binds]) (by kernel_rfl)) s74
          have g78 := get_eqS (hD 33 78 (by simp [Region.binds]) (by kernel_rfl)) s78
          refine ob_yes (wanted_yes rfl (by kernel_rfl) g74) ?_
          clear hF hD
          go_simp
          exact hK _ _ (Below.refl _ _) (rt_eqS s79)
        refine obsR_cons ?_ ?_
        · intro T wx K hB hF hD hK
          have g74 := get_eqS (hD 29 74 (by simp [Region.binds]) (by kernel_rfl)) s74
          have g10 : T[10]? = some (.pointer (some ⟨b10, 0, none⟩)) := hF 10 (freeM_of (by kernel_rfl))
          have g79 := get_eqS (hD 34 79 (by simp [Region.binds]) (by kernel_rfl)) s79
          refine ob_yes (wanted_yes rfl (by kernel_rfl) g74) ?_
          clear hF hD
          go_simp
          exact hK _ _ (Below.refl _ _) (rt_eqS s80)
        refine obsR_cons ?_ ?_
        · intro T wx K hB hF hD hK
          have g74 := get_eqS (hD 29 74 (by simp [Region.binds]) (by kernel_rfl)) s74
          have g80 := get_eqS (hD 35 80 (by simp [Region.binds]) (by kernel_rfl)) s80
          refine ob_yes (wanted_yes rfl (by kernel_rfl) g74) ?_
          clear hF hD
          have c0 := blk_cell (blk_call H10.out (belT BZ.out hB)) 4 _ rfl
          have c1 := blk_cell (blk_call H10.out (belT BZ.out hB)) 5 _ rfl
          go_simp
          exact hK _ _ (Below.refl _ _) (rt_eqS s81)
        refine obsR_cons ?_ ?_
        · intro T wx K hB hF hD hK
          have g74 := get_eqS (hD 29 74 (by simp [Region.binds]) (by kernel_rfl)) s74
          have g77 := get_eqS (hD 32 77 (by simp [Region.binds]) (by kernel_rfl)) s77
          have g81 := get_eqS (hD 36 81 (by simp [Region.binds]) (by kernel_rfl)) s81
          refine ob_yes (wanted_yes rfl (by kernel_rfl) g74) ?_
          clear hF hD
          go_simp
          refine (locate_at _ 4 4 L1 a2 b2 0 _ GN1.out GP1 (by have := GN1.out; omega) (by have := GN1.out; omega) (prow_below R1.out (belT BZ.out hB)) GA1.out.allr2 (by unfold InR; have := PB.out.2.2.1; have := WB.out; omega) (by unfold InR; have := PB.out.2.2.1; have := WB.out; omega)).mono ?_; rintro e w9 ⟨rfl, hb⟩
          exact hK _ _ hb (rt_eqS s82)
        refine obsR_cons ?_ ?_
        · intro T wx K hB hF hD hK
          have g74 := get_eqS (hD 29 74 (by simp [Region.binds]) (by kernel_rfl)) s74
          have g82 := get_eqS (hD 37 82 (by simp [Region.binds]) (by kernel_rfl)) s82
          refine ob_yes (wanted_yes rfl (by kernel_rfl) g74) ?_
          clear hF hD
          go_simp
          exact hK _ _ (Below.refl _ _) (rt_eqS s83)
        refine obsR_cons ?_ ?_
        · intro T wx K hB hF hD hK
          have g74 := get_eqS (hD 29 74 (by simp [Region.binds]) (by kernel_rfl)) s74
          have g83 := get_eqS (hD 38 83 (by simp [Region.binds]) (by kernel_rfl)) s83
          refine ob_yes (wanted_none rfl) ?_
          clear hF hD
          go_simp
          exact hK _ _ (Below.refl _ _) (rt_eqS s84)
        exact obsR_nil
      · intro T1 X1 hb8 hF hs hD
        have g45 := get_eqS (hD 0 45 (by decide) (by kernel_rfl)) s45
        have g46 := get_eqS (hD 1 46 (by decide) (by kernel_rfl)) s46
        have g47 := get_eqS (hD 2 47 (by decide) (by kernel_rfl)) s47
        have g48 := get_eqS (hD 3 48 (by decide) (by kernel_rfl)) s48
        have g49 := get_eqS (hD 4 49 (by decide) (by kernel_rfl)) s49
        have g50 := get_eqS (hD 5 50 (by decide) (by kernel_rfl)) s50
        have g51 := get_eqS (hD 6 51 (by decide) (by kernel_rfl)) s51
        have g52 := get_eqS (hD 7 52 (by decide) (by kernel_rfl)) s52
        have g53 := get_eqS (hD 8 53 (by decide) (by kernel_rfl)) s53
        have g54 := get_eqS (hD 9 54 (by decide) (by kernel_rfl)) s54
        have g55 := get_eqS (hD 10 55 (by decide) (by kernel_rfl)) s55
        have g56 := get_eqS (hD 11 56 (by decide) (by kernel_rfl)) s56
        have g57 := get_eqS (hD 12 57 (by decide) (by kernel_rfl)) s57
        have g58 := get_eqS (hD 13 58 (by decide) (by kernel_rfl)) s58
        have g59 := get_eqS (hD 14 59 (by decide) (by kernel_rfl)) s59
        have g60 := get_eqS (hD 15 60 (by decide) (by kernel_rfl)) s60
        have g61 := get_eqS (hD 16 61 (by decide) (by kernel_rfl)) s61
        have g62 := get_eqS (hD 17 62 (by decide) (by kernel_rfl)) s62
        have g63 := get_eqS (hD 18 63 (by decide) (by kernel_rfl)) s63
        have g64 := get_eqS (hD 19 64 (by decide) (by kernel_rfl)) s64
        have g65 := get_eqS (hD 20 65 (by decide) (by kernel_rfl)) s65
        have g66 := get_eqS (hD 21 66 (by decide) (by kernel_rfl)) s66
        have g67 := get_eqS (hD 22 67 (by decide) (by kernel_rfl)) s67
        have g68 := get_eqS (hD 23 68 (by decide) (by kernel_rfl)) s68
        have g69 := get_eqS (hD 24 69 (by decide) (by kernel_rfl)) s69
        have g70 := get_eqS (hD 25 70 (by decide) (by kernel_rfl)) s70
        have g71 := get_eqS (hD 26 71 (by decide) (by kernel_rfl)) s71
        have g72 := get_eqS (hD 27 72 (by decide) (by kernel_rfl)) s72
        have g73 := get_eqS (hD 28 73 (by decide) (by kernel_rfl)) s73
        have g74 := get_eqS (hD 29 74 (by decide) (by kernel_rfl)) s74
        have g75 := get_eqS (hD 30 75 (by decide) (by kernel_rfl)) s75
        have g76 := get_eqS (hD 31 76 (by decide) (by kernel_rfl)) s76
        have g77 := get_eqS (hD 32 77 (by decide) (by kernel_rfl)) s77
        have g78 := get_eqS (hD 33 78 (by decide) (by kernel_rfl)) s78
        have g79 := get_eqS (hD 34 79 (by decide) (by kernel_rfl)) s79
        have g80 := get_eqS (hD 35 80 (by decide) (by kernel_rfl)) s80
        have g81 := get_eqS (hD 36 81 (by decide) (by kernel_rfl)) s81
        have g82 := get_eqS (hD 37 82 (by decide) (by kernel_rfl)) s82
        have g83 := get_eqS (hD 38 83 (by decide) (by kernel_rfl)) s83
        have g84 := get_eqS (hD 39 84 (by decide) (by kernel_rfl)) s84
        have hT := conc [(45, .int .i64 1), (46, .pointer (some ⟨b9, 1, none⟩)), (47, .slice (some ⟨g1, 0, none⟩) 4 4), (48, .int .i64 4), (49, .bool false), (50, .bool false), (51, .int .i64 1), (52, .pointer (some ⟨b9, 1, none⟩)), (53, .slice (some ⟨g1, 0, none⟩) 4 4), (54, .bool true), (55, .bool false), (56, .bool false), (57, .bool false), (58, .int .i64 1), (59, .pointer (some ⟨b9, 1, none⟩)), (60, .slice (some ⟨g1, 0, none⟩) 4 4), (61, .bool true), (62, .bool false), (63, .bool false), (64, .bool false), (65, .int .i64 1), (66, .pointer (some ⟨b9, 1, none⟩)), (67, .slice (some ⟨g1, 0, none⟩) 4 4), (68, .int .i64 1), (69, .pointer (some ⟨b10, 2, none⟩)), (70, .agg #[.int .i64 a1, .int .i64 b1]), (71, .int .i64 0), (72, .bool false), (73, .bool false), (74, .bool false), (75, .int .i64 1), (76, .pointer (some ⟨b9, 1, none⟩)), (77, .slice (some ⟨g1, 0, none⟩) 4 4), (78, .int .i64 1), (79, .int .i64 2), (80, .pointer (some ⟨b10, 4, none⟩)), (81, .agg #[.int .i64 a2, .int .i64 b2]), (82, .int .i64 0), (83, .bool false), (84, .bool false)] hs hF (by simp only [List.forall_mem_cons]; exact ⟨g45, g46, g47, g48, g49, g50, g51, g52, g53, g54, g55, g56, g57, g58, g59, g60, g61, g62, g63, g64, g65, g66, g67, g68, g69, g70, g71, g72, g73, g74, g75, g76, g77, g78, g79, g80, g81, g82, g83, g84, fun p hp => absurd hp List.not_mem_nil⟩) (by kernel_rfl)
        simp only [List.foldl, List.setIfInBounds_toArray, List.set_cons_succ, List.set_cons_zero] at hT
        subst hT
        clear hF hD hs g45 g46 g47 g48 g49 g50 g51 g52 g53 g54 g55 g56 g57 g58 g59 g60 g61 g62 g63 g64 g65 g66 g67 g68 g69 g70 g71 g72 g73 g74 g75 g76 g77 g78 g79 g80 g81 g82 g83 g84 s45 s46 s47 s48 s49 s50 s51 s52 s53 s54 s55 s56 s57 s58 s59 s60 s61 s62 s63 s64 s65 s66 s67 s68 s69 s70 s71 s72 s73 s74 s75 s76 s77 s78 s79 s80 s81 s82 s83 s84
        replace BZ := Lib.hid (belT BZ.out hb8)
        replace HO := Lib.hid (own_below HO.out hb8)
        clear hb8
        go_wp2_with fail
        obtain ⟨sp, hsp⟩ : ∃ sp : ToldS, sp = [none, none, none, none, none, none, none, none, none, none, none, none, none, none, none, none, none, none, none, none, none, none, none, none, none, none, none, none, none, none, none, none, none, none, none, none, none, none, none, none, none, none, none, none, none, none, none, none, none, none, none, none, none, none, none, none, none, none, none, none, none, none, none, none, none, none, none, none, none, none, none, none, none, none, none, none, none, none, none, none, none, none, none, none, none, some (eqS (.int .i64 1)), some (eqS (.bool true)), some (eqS (.bool true)), some (eqS (.int .i64 1)), some (eqS (.int .i64 0)), some (eqS (.pointer (some ⟨b9, 0, none⟩))), some (eqS (.slice (some ⟨g0, 0, none⟩) 4 4)), some (eqS (.int .i64 1)), some (eqS (.pointer (some ⟨b9, 1, none⟩))), some (eqS (.slice (some ⟨g1, 0, none⟩) 4 4)), some (eqS (.bool true)), some (eqS (.bool false)), some (eqS (.bool false))] := ⟨_, rfl⟩
        have s85 : sp.getD 85 none = some (eqS (.int .i64 1)) := by rw [hsp]; rfl
        have s86 : sp.getD 86 none = some (eqS (.bool true)) := by rw [hsp]; rfl
        have s87 : sp.getD 87 none = some (eqS (.bool true)) := by rw [hsp]; rfl
        have s88 : sp.getD 88 none = some (eqS (.int .i64 1)) := by rw [hsp]; rfl
        have s89 : sp.getD 89 none = some (eqS (.int .i64 0)) := by rw [hsp]; rfl
        have s90 : sp.getD 90 none = some (eqS (.pointer (some ⟨b9, 0, none⟩))) := by rw [hsp]; rfl
        have s91 : sp.getD 91 none = some (eqS (.slice (some ⟨g0, 0, none⟩) 4 4)) := by rw [hsp]; rfl
        have s92 : sp.getD 92 none = some (eqS (.int .i64 1)) := by rw [hsp]; rfl
        have s93 : sp.getD 93 none = some (eqS (.pointer (some ⟨b9, 1, none⟩))) := by rw [hsp]; rfl
        have s94 : sp.getD 94 none = some (eqS (.slice (some ⟨g1, 0, none⟩) 4 4)) := by rw [hsp]; rfl
        have s95 : sp.getD 95 none = some (eqS (.bool true)) := by rw [hsp]; rfl
        have s96 : sp.getD 96 none = some (eqS (.bool false)) := by rw [hsp]; rfl
        have s97 : sp.getD 97 none = some (eqS (.bool false)) := by rw [hsp]; rfl
        clear hsp
        refine (wpIn_wide (n := 0)).1 (region_allR (RtS sp) (rtS_keep sp) rfl rfl rfl (by kernel_rfl) (by kernel_rfl) (by kernel_rfl) ?_ ?_)
        · intro Q'
          refine obsR_cons ?_ ?_
          · intro T wx K hB hF hD hK
            have g12 : T[12]? = some (.int .i64 1) := hF 12 (freeM_of (by kernel_rfl))
            refine ob_yes (wanted_none rfl) ?_
            clear hF hD
            go_simp
            exact hK _ _ (Below.refl _ _) (rt_eqS s85)
          refine obsR_cons ?_ ?_
          · intro T wx K hB hF hD hK
            have g85 := get_eqS (hD 0 85 (by simp [Region.binds]) (by kernel_rfl)) s85
            refine ob_yes (wanted_none rfl) ?_
            clear hF hD
            go_simp
            exact hK _ _ (Below.refl _ _) (rt_eqS s86)
          refine obsR_cons ?_ ?_
          · intro T wx K hB hF hD hK
            have g86 := get_eqS (hD 1 86 (by simp [Region.binds]) (by kernel_rfl)) s86
            refine ob_yes (wanted_none rfl) ?_
            clear hF hD
            go_simp
            exact hK _ _ (Below.refl _ _) (rt_eqS s87)
          refine obsR_cons ?_ ?_
          · intro T wx K hB hF hD hK
            have g87 := get_eqS (hD 2 87 (by simp [Region.binds]) (by kernel_rfl)) s87
            have g12 : T[12]? = some (.int .i64 1) := hF 12 (freeM_of (by kernel_rfl))
            refine ob_yes (wanted_yes rfl (by kernel_rfl) g87) ?_
            clear hF hD
            go_simp
            exact hK _ _ (Below.refl _ _) (rt_eqS s88)
          refine obsR_cons ?_ ?_
          · intro T wx K hB hF hD hK
            have g87 := get_eqS (hD 2 87 (by simp [Region.binds]) (by kernel_rfl)) s87
            have g88 := get_eqS (hD 3 88 (by simp [Region.binds]) (by kernel_rfl)) s88
            refine ob_yes (wanted_yes rfl (by kernel_rfl) g87) ?_
            clear hF hD
            go_simp
            exact hK _ _ (Below.refl _ _) (rt_eqS s89)
          refine obsR_cons ?_ ?_
          · intro T wx K hB hF hD hK
            have g87 := get_eqS (hD 2 87 (by simp [Region.binds]) (by kernel_rfl)) s87
            have g9 : T[9]? = some (.pointer (some ⟨b9, 0, none⟩)) := hF 9 (freeM_of (by kernel_rfl))
            have g89 := get_eqS (hD 4 89 (by simp [Region.binds]) (by kernel_rfl)) s89
            refine ob_yes (wanted_yes rfl (by kernel_rfl) g87) ?_
            clear hF hD
            go_simp
            exact hK _ _ (Below.refl _ _) (rt_eqS s90)
          refine obsR_cons ?_ ?_
          · intro T wx K hB hF hD hK
            have g87 := get_eqS (hD 2 87 (by simp [Region.binds]) (by kernel_rfl)) s87
            have g90 := get_eqS (hD 5 90 (by simp [Region.binds]) (by kernel_rfl)) s90
            refine ob_yes (wanted_yes rfl (by kernel_rfl) g87) ?_
            clear hF hD
            have c0 := blk_cell (blk_call H9.out (belT BZ.out hB)) 0 _ rfl
            go_simp
            exact hK _ _ (Below.refl _ _) (rt_eqS s91)
          refine obsR_cons ?_ ?_
          · intro T wx K hB hF hD hK
            have g87 := get_eqS (hD 2 87 (by simp [Region.binds]) (by kernel_rfl)) s87
            have g12 : T[12]? = some (.int .i64 1) := hF 12 (freeM_of (by kernel_rfl))
            refine ob_yes (wanted_yes rfl (by kernel_rfl) g87) ?_
            clear hF hD
            go_simp
            exact hK _ _ (Below.refl _ _) (rt_eqS s92)
          refine obsR_cons ?_ ?_
          · intro T wx K hB hF hD hK
            have g87 := get_eqS (hD 2 87 (by simp [Region.binds]) (by kernel_rfl)) s87
            have g9 : T[9]? = some (.pointer (some ⟨b9, 0, none⟩)) := hF 9 (freeM_of (by kernel_rfl))
            have g92 := get_eqS (hD 7 92 (by simp [Region.binds]) (by kernel_rfl)) s92
            refine ob_yes (wanted_yes rfl (by kernel_rfl) g87) ?_
            clear hF hD
            go_simp
            exact hK _ _ (Below.refl _ _) (rt_eqS s93)
          refine obsR_cons ?_ ?_
          · intro T wx K hB hF hD hK
            have g87 := get_eqS (hD 2 87 (by simp [Region.binds]) (by kernel_rfl)) s87
            have g93 := get_eqS (hD 8 93 (by simp [Region.binds]) (by kernel_rfl)) s93
            refine ob_yes (wanted_yes rfl (by kernel_rfl) g87) ?_
            clear hF hD
            have c0 := blk_cell (blk_call H9.out (belT BZ.out hB)) 1 _ rfl
            go_simp
            exact hK _ _ (Below.refl _ _) (rt_eqS s94)
          refine obsR_cons ?_ ?_
          · intro T wx K hB hF hD hK
            have g87 := get_eqS (hD 2 87 (by simp [Region.binds]) (by kernel_rfl)) s87
            have g91 := get_eqS (hD 6 91 (by simp [Region.binds]) (by kernel_rfl)) s91
            have g94 := get_eqS (hD 9 94 (by simp [Region.binds]) (by kernel_rfl)) s94
            refine ob_yes (wanted_yes rfl (by kernel_rfl) g87) ?_
            clear hF hD
            go_simp
            refine (polygons_is _ _ 4 4 4 4 L0 L1 true _ GN0.out GN1.out tc01 (by omega) (by omega) (by omega) (by omega) (prow_below R0.out (belT BZ.out hB)) (prow_below R1.out (belT BZ.out hB)) GA0.out.allr2 GA1.out.allr2).mono ?_; rintro e w9 ⟨rfl, hb⟩
            exact hK _ _ hb (rt_eqS s95)
          refine obsR_cons ?_ ?_
          · intro T wx K hB hF hD hK
            have g87 := get_eqS (hD 2 87 (by simp [Region.binds]) (by kernel_rfl)) s87
            have g95 := get_eqS (hD 10 95 (by simp [Region.binds]) (by kernel_rfl)) s95
            refine ob_yes (wanted_yes rfl (by kernel_rfl) g87) ?_
            clear hF hD
            go_simp
            exact hK _ _ (Below.refl _ _) (rt_eqS s96)
          refine obsR_cons ?_ ?_
          · intro T wx K hB hF hD hK
            have g87 := get_eqS (hD 2 87 (by simp [Region.binds]) (by kernel_rfl)) s87
            have g96 := get_eqS (hD 11 96 (by simp [Region.binds]) (by kernel_rfl)) s96
            refine ob_yes (wanted_none rfl) ?_
            clear hF hD
            go_simp
            exact hK _ _ (Below.refl _ _) (rt_eqS s97)
          exact obsR_nil
        · intro S1 Y1 hb8 hF hs hD
          have g85 := get_eqS (hD 0 85 (by decide) (by kernel_rfl)) s85
          have g86 := get_eqS (hD 1 86 (by decide) (by kernel_rfl)) s86
          have g87 := get_eqS (hD 2 87 (by decide) (by kernel_rfl)) s87
          have g88 := get_eqS (hD 3 88 (by decide) (by kernel_rfl)) s88
          have g89 := get_eqS (hD 4 89 (by decide) (by kernel_rfl)) s89
          have g90 := get_eqS (hD 5 90 (by decide) (by kernel_rfl)) s90
          have g91 := get_eqS (hD 6 91 (by decide) (by kernel_rfl)) s91
          have g92 := get_eqS (hD 7 92 (by decide) (by kernel_rfl)) s92
          have g93 := get_eqS (hD 8 93 (by decide) (by kernel_rfl)) s93
          have g94 := get_eqS (hD 9 94 (by decide) (by kernel_rfl)) s94
          have g95 := get_eqS (hD 10 95 (by decide) (by kernel_rfl)) s95
          have g96 := get_eqS (hD 11 96 (by decide) (by kernel_rfl)) s96
          have g97 := get_eqS (hD 12 97 (by decide) (by kernel_rfl)) s97
          have hT := conc [(85, .int .i64 1), (86, .bool true), (87, .bool true), (88, .int .i64 1), (89, .int .i64 0), (90, .pointer (some ⟨b9, 0, none⟩)), (91, .slice (some ⟨g0, 0, none⟩) 4 4), (92, .int .i64 1), (93, .pointer (some ⟨b9, 1, none⟩)), (94, .slice (some ⟨g1, 0, none⟩) 4 4), (95, .bool true), (96, .bool false), (97, .bool false)] hs hF (by simp only [List.forall_mem_cons]; exact ⟨g85, g86, g87, g88, g89, g90, g91, g92, g93, g94, g95, g96, g97, fun p hp => absurd hp List.not_mem_nil⟩) (by kernel_rfl)
          simp only [List.foldl, List.setIfInBounds_toArray, List.set_cons_succ, List.set_cons_zero] at hT
          subst hT
          clear hF hD hs g85 g86 g87 g88 g89 g90 g91 g92 g93 g94 g95 g96 g97 s85 s86 s87 s88 s89 s90 s91 s92 s93 s94 s95 s96 s97
          replace BZ := Lib.hid (belT BZ.out hb8)
          replace HO := Lib.hid (own_below HO.out hb8)
          clear hb8
          have e0 := blk_cell (blk_call H9.out BZ.out) 1 _ rfl
          go_wp2_with (at_builtin; refine wpList_append_two rfl _ _ 29 30 rfl W3.heap.size i0 (.agg #[.int .i64 0, .int .i64 0]) Tryz.underlying29 Tryz.underlying30 hi hz0 hz1' hz2 rfl _ _ _ rfl HO.out g1 4 4 L1 rfl GN1.out (prow_below R1.out BZ.out) (by omega) BZ.out.size ?_)
          intro sv1 Z1 hown hgrow
          replace BZ := Lib.hid (BZ.out.grown hgrow BZ.out.size (fun j hj => (HO.out.lt j hj).1))
          replace HO := Lib.hid hown
          clear hown hgrow e0
          go_wp2_with fail
          rw [rounds_succ]
          go_wp2_with fail
          obtain ⟨sp, hsp⟩ : ∃ sp : ToldS, sp = [none, none, none, none, none, none, none, none, none, none, none, none, none, none, none, none, none, none, none, none, none, none, none, none, none, none, none, none, none, none, none, none, none, none, none, none, none, none, none, none, none, none, none, none, none, some (eqS (.int .i64 2)), some (eqS (.pointer (some ⟨b9, 2, none⟩))), some (eqS (.slice (some ⟨g2, 0, none⟩) 4 4)), some (eqS (.int .i64 4)), some (eqS (.bool false)), some (eqS (.bool false)), some (eqS (.int .i64 2)), some (eqS (.pointer (some ⟨b9, 2, none⟩))), some (eqS (.slice (some ⟨g2, 0, none⟩) 4 4)), some (eqS (.bool true)), some (eqS (.bool false)), some (eqS (.bool false)), some (eqS (.bool false)), some (eqS (.int .i64 2)), some (eqS (.pointer (some ⟨b9, 2, none⟩))), some (eqS (.slice (some ⟨g2, 0, none⟩) 4 4)), some (eqS (.bool true)), some (eqS (.bool false)), some (eqS (.bool false)), some (eqS (.bool false)), some (eqS (.int .i64 2)), some (eqS (.pointer (some ⟨b9, 2, none⟩))), some (eqS (.slice (some ⟨g2, 0, none⟩) 4 4)), some (eqS (.int .i64 2)), some (eqS (.pointer (some ⟨b10, 4, none⟩))), some (eqS (.agg #[.int .i64 a2, .int .i64 b2])), some (eqS (.int .i64 0)), some (eqS (.bool false)), some (eqS (.bool false)), some (eqS (.bool false)), some (eqS (.int .i64 2)), some (eqS (.pointer (some ⟨b9, 2, none⟩))), some (eqS (.slice (some ⟨g2, 0, none⟩) 4 4)), some (eqS (.int .i64 2)), some (eqS (.int .i64 3)), some (eqS (.pointer (some ⟨b10, 6, none⟩))), some (eqS (.agg #[.int .i64 a3, .int .i64 b3])), some (eqS (.int .i64 0)), some (eqS (.bool false)), some (eqS (.bool false))] := ⟨_, rfl⟩
          have s45 : sp.getD 45 none = some (eqS (.int .i64 2)) := by rw [hsp]; rfl
          have s46 : sp.getD 46 none = some (eqS (.pointer (some ⟨b9, 2, none⟩))) := by rw [hsp]; rfl
          have s47 : sp.getD 47 none = some (eqS (.slice (some ⟨g2, 0, none⟩) 4 4)) := by rw [hsp]; rfl
          have s48 : sp.getD 48 none = some (eqS (.int .i64 4)) := by rw [hsp]; rfl
          have s49 : sp.getD 49 none = some (eqS (.bool false)) := by rw [hsp]; rfl
          have s50 : sp.getD 50 none = some (eqS (.bool false)) := by rw [hsp]; rfl
          have s51 : sp.getD 51 none = some (eqS (.int .i64 2)) := by rw [hsp]; rfl
          have s52 : sp.getD 52 none = some (eqS (.pointer (some ⟨b9, 2, none⟩))) := by rw [hsp]; rfl
          have s53 : sp.getD 53 none = some (eqS (.slice (some ⟨g2, 0, none⟩) 4 4)) := by rw [hsp]; rfl
          have s54 : sp.getD 54 none = some (eqS (.bool true)) := by rw [hsp]; rfl
          have s55 : sp.getD 55 none = some (eqS (.bool false)) := by rw [hsp]; rfl
          have s56 : sp.getD 56 none = some (eqS (.bool false)) := by rw [hsp]; rfl
          have s57 : sp.getD 57 none = some (eqS (.bool false)) := by rw [hsp]; rfl
          have s58 : sp.getD 58 none = some (eqS (.int .i64 2)) := by rw [hsp]; rfl
          have s59 : sp.getD 59 none = some (eqS (.pointer (some ⟨b9, 2, none⟩))) := by rw [hsp]; rfl
          have s60 : sp.getD 60 none = some (eqS (.slice (some ⟨g2, 0, none⟩) 4 4)) := by rw [hsp]; rfl
          have s61 : sp.getD 61 none = some (eqS (.bool true)) := by rw [hsp]; rfl
          have s62 : sp.getD 62 none = some (eqS (.bool false)) := by rw [hsp]; rfl
          have s63 : sp.getD 63 none = some (eqS (.bool false)) := by rw [hsp]; rfl
          have s64 : sp.getD 64 none = some (eqS (.bool false)) := by rw [hsp]; rfl
          have s65 : sp.getD 65 none = some (eqS (.int .i64 2)) := by rw [hsp]; rfl
          have s66 : sp.getD 66 none = some (eqS (.pointer (some ⟨b9, 2, none⟩))) := by rw [hsp]; rfl
          have s67 : sp.getD 67 none = some (eqS (.slice (some ⟨g2, 0, none⟩) 4 4)) := by rw [hsp]; rfl
          have s68 : sp.getD 68 none = some (eqS (.int .i64 2)) := by rw [hsp]; rfl
          have s69 : sp.getD 69 none = some (eqS (.pointer (some ⟨b10, 4, none⟩))) := by rw [hsp]; rfl
          have s70 : sp.getD 70 none = some (eqS (.agg #[.int .i64 a2, .int .i64 b2])) := by rw [hsp]; rfl
          have s71 : sp.getD 71 none = some (eqS (.int .i64 0)) := by rw [hsp]; rfl
          have s72 : sp.getD 72 none = some (eqS (.bool false)) := by rw [hsp]; rfl
          have s73 : sp.getD 73 none = some (eqS (.bool false)) := by rw [hsp]; rfl
          have s74 : sp.getD 74 none = some (eqS (.bool false)) := by rw [hsp]; rfl
          have s75 : sp.getD 75 none = some (eqS (.int .i64 2)) := by rw [hsp]; rfl
          have s76 : sp.getD 76 none = some (eqS (.pointer (some ⟨b9, 2, none⟩))) := by rw [hsp]; rfl
          have s77 : sp.getD 77 none = some (eqS (.slice (some ⟨g2, 0, none⟩) 4 4)) := by rw [hsp]; rfl
          have s78 : sp.getD 78 none = some (eqS (.int .i64 2)) := by rw [hsp]; rfl
          have s79 : sp.getD 79 none = some (eqS (.int .i64 3)) := by rw [hsp]; rfl
          have s80 : sp.getD 80 none = some (eqS (.pointer (some ⟨b10, 6, none⟩))) := by rw [hsp]; rfl
          have s81 : sp.getD 81 none = some (eqS (.agg #[.int .i64 a3, .int .i64 b3])) := by rw [hsp]; rfl
          have s82 : sp.getD 82 none = some (eqS (.int .i64 0)) := by rw [hsp]; rfl
          have s83 : sp.getD 83 none = some (eqS (.bool false)) := by rw [hsp]; rfl
          have s84 : sp.getD 84 none = some (eqS (.bool false)) := by rw [hsp]; rfl
          clear hsp
          refine (wpIn_wide (n := 0)).1 (region_allR (RtS sp) (rtS_keep sp) rfl rfl rfl (by kernel_rfl) (by kernel_rfl) (by kernel_rfl) ?_ ?_)
          · intro Q'
            refine obsR_cons ?_ ?_
            · intro T wx K hB hF hD hK
              have g12 : T[12]? = some (.int .i64 2) := hF 12 (freeM_of (by kernel_rfl))
              refine ob_yes (wanted_none rfl) ?_
              clear hF hD
              go_simp
              exact hK _ _ (Below.refl _ _) (rt_eqS s45)
            refine obsR_cons ?_ ?_
            · intro T wx K hB hF hD hK
              have g9 : T[9]? = some (.pointer (some ⟨b9, 0, none⟩)) := hF 9 (freeM_of (by kernel_rfl))
              have g45 := get_eqS (hD 0 45 (by simp [Region.binds]) (by kernel_rfl)) s45
              refine ob_yes (wanted_none rfl) ?_
              clear hF hD
              go_simp
              exact hK _ _ (Below.refl _ _) (rt_eqS s46)
            refine obsR_cons ?_ ?_
            · intro T wx K hB hF hD hK
              have g46 := get_eqS (hD 1 46 (by simp [Region.binds]) (by kernel_rfl)) s46
              refine ob_yes (wanted_none rfl) ?_
              clear hF hD
              have c0 := blk_cell (blk_call H9.out (belT BZ.out hB)) 2 _ rfl
              go_simp
              exact hK _ _ (Below.refl _ _) (rt_eqS s47)
            refine obsR_cons ?_ ?_
            · intro T wx K hB hF hD hK
              have g47 := get_eqS (hD 2 47 (by simp [Region.binds]) (by kernel_rfl)) s47
              refine ob_yes (wanted_none rfl) ?_
              clear hF hD
              go_simp
              exact hK _ _ (Below.refl _ _) (rt_eqS s48)
            refine obsR_cons ?_ ?_
            · intro T wx K hB hF hD hK
              have g48 := get_eqS (hD 3 48 (by simp [Region.binds]) (by kernel_rfl)) s48
              refine ob_yes (wanted_none rfl) ?_
              clear hF hD
              go_simp
              exact hK _ _ (Below.refl _ _) (rt_eqS s49)
            refine obsR_cons ?_ ?_
            · intro T wx K hB hF hD hK
              have g49 := get_eqS (hD 4 49 (by simp [Region.binds]) (by kernel_rfl)) s49
              refine ob_yes (wanted_none rfl) ?_
              clear hF hD
              go_simp
              exact hK _ _ (Below.refl _ _) (rt_eqS s50)
            refine obsR_cons ?_ ?_
            · intro T wx K hB hF hD hK
              have g50 := get_eqS (hD 5 50 (by simp [Region.binds]) (by kernel_rfl)) s50
              have g12 : T[12]? = some (.int .i64 2) := hF 12 (freeM_of (by kernel_rfl))
              refine ob_yes (wanted_yes rfl (by kernel_rfl) g50) ?_
              clear hF hD
              go_simp
              exact hK _ _ (Below.refl _ _) (rt_eqS s51)
            refine obsR_cons ?_ ?_
            · intro T wx K hB hF hD hK
              have g50 := get_eqS (hD 5 50 (by simp [Region.binds]) (by kernel_rfl)) s50
              have g9 : T[9]? = some (.pointer (some ⟨b9, 0, none⟩)) := hF 9 (freeM_of (by kernel_rfl))
              have g51 := get_eqS (hD 6 51 (by simp [Region.binds]) (by kernel_rfl)) s51
              refine ob_yes (wanted_yes rfl (by kernel_rfl) g50) ?_
              clear hF hD
              go_simp
              exact hK _ _ (Below.refl _ _) (rt_eqS s52)
            refine obsR_cons ?_ ?_
            · intro T wx K hB hF hD hK
              have g50 := get_eqS (hD 5 50 (by simp [Region.binds]) (by kernel_rfl)) s50
              have g52 := get_eqS (hD 7 52 (by simp [Region.binds]) (by kernel_rfl)) s52
              refine ob_yes (wanted_yes rfl (by kernel_rfl) g50) ?_
              clear hF hD
              have c0 := blk_cell (blk_call H9.out (belT BZ.out hB)) 2 _ rfl
              go_simp
              exact hK _ _ (Below.refl _ _) (rt_eqS s53)
            refine obsR_cons ?_ ?_
            · intro T wx K hB hF hD hK
              have g50 := get_eqS (hD 5 50 (by simp [Region.binds]) (by kernel_rfl)) s50
              have g53 := get_eqS (hD 8 53 (by simp [Region.binds]) (by kernel_rfl)) s53
              refine ob_yes (wanted_yes rfl (by kernel_rfl) g50) ?_
              clear hF hD
              go_simp
              refine (valid_is _ 4 4 L2 true _ GN2.out GV2 (by have := GN2.out; omega) (prow_below R2.out (belT BZ.out hB))).mono ?_; rintro e w9 ⟨rfl, hb⟩
              exact hK _ _ hb (rt_eqS s54)
            refine obsR_cons ?_ ?_
            · intro T wx K hB hF hD hK
              have g50 := get_eqS (hD 5 50 (by simp [Region.binds]) (by kernel_rfl)) s50
              have g54 := get_eqS (hD 9 54 (by simp [Region.binds]) (by kernel_rfl)) s54
              refine ob_yes (wanted_yes rfl (by kernel_rfl) g50) ?_
              clear hF hD
              go_simp
              exact hK _ _ (Below.refl _ _) (rt_eqS s55)
            refine obsR_cons ?_ ?_
            · intro T wx K hB hF hD hK
              have g50 := get_eqS (hD 5 50 (by simp [Region.binds]) (by kernel_rfl)) s50
              have g55 := get_eqS (hD 10 55 (by simp [Region.binds]) (by kernel_rfl)) s55
              refine ob_yes (wanted_none rfl) ?_
              clear hF hD
              go_simp
              exact hK _ _ (Below.refl _ _) (rt_eqS s56)
            refine obsR_cons ?_ ?_
            · intro T wx K hB hF hD hK
              have g56 := get_eqS (hD 11 56 (by simp [Region.binds]) (by kernel_rfl)) s56
              refine ob_yes (wanted_none rfl) ?_
              clear hF hD
              go_simp
              exact hK _ _ (Below.refl _ _) (rt_eqS s57)
            refine obsR_cons ?_ ?_
            · intro T wx K hB hF hD hK
              have g57 := get_eqS (hD 12 57 (by simp [Region.binds]) (by kernel_rfl)) s57
              have g12 : T[12]? = some (.int .i64 2) := hF 12 (freeM_of (by kernel_rfl))
              refine ob_yes (wanted_yes rfl (by kernel_rfl) g57) ?_
              clear hF hD
              go_simp
              exact hK _ _ (Below.refl _ _) (rt_eqS s58)
            refine obsR_cons ?_ ?_
            · intro T wx K hB hF hD hK
              have g57 := get_eqS (hD 12 57 (by simp [Region.binds]) (by kernel_rfl)) s57
              have g9 : T[9]? = some (.pointer (some ⟨b9, 0, none⟩)) := hF 9 (freeM_of (by kernel_rfl))
              have g58 := get_eqS (hD 13 58 (by simp [Region.binds]) (by kernel_rfl)) s58
              refine ob_yes (wanted_yes rfl (by kernel_rfl) g57) ?_
              clear hF hD
              go_simp
              exact hK _ _ (Below.refl _ _) (rt_eqS s59)
            refine obsR_cons ?_ ?_
            · intro T wx K hB hF hD hK
              have g57 := get_eqS (hD 12 57 (by simp [Region.binds]) (by kernel_rfl)) s57
              have g59 := get_eqS (hD 14 59 (by simp [Region.binds]) (by kernel_rfl)) s59
              refine ob_yes (wanted_yes rfl (by kernel_rfl) g57) ?_
              clear hF hD
              have c0 := blk_cell (blk_call H9.out (belT BZ.out hB)) 2 _ rfl
              go_simp
              exact hK _ _ (Below.refl _ _) (rt_eqS s60)
            refine obsR_cons ?_ ?_
            · intro T wx K hB hF hD hK
              have g57 := get_eqS (hD 12 57 (by simp [Region.binds]) (by kernel_rfl)) s57
              have g60 := get_eqS (hD 15 60 (by simp [Region.binds]) (by kernel_rfl)) s60
              refine ob_yes (wanted_yes rfl (by kernel_rfl) g57) ?_
              clear hF hD
              go_simp
              refine (conv_is _ 4 4 L2 true _ GN2.out GC2 (by omega) (prow_below R2.out (belT BZ.out hB)) GA2.out).mono ?_; rintro e w9 ⟨rfl, hb⟩
              exact hK _ _ hb (rt_eqS s61)
            refine obsR_cons ?_ ?_
            · intro T wx K hB hF hD hK
              have g57 := get_eqS (hD 12 57 (by simp [Region.binds]) (by kernel_rfl)) s57
              have g61 := get_eqS (hD 16 61 (by simp [Region.binds]) (by kernel_rfl)) s61
              refine ob_yes (wanted_yes rfl (by kernel_rfl) g57) ?_
              clear hF hD
              go_simp
              exact hK _ _ (Below.refl _ _) (rt_eqS s62)
            refine obsR_cons ?_ ?_
            · intro T wx K hB hF hD hK
              have g57 := get_eqS (hD 12 57 (by simp [Region.binds]) (by kernel_rfl)) s57
              have g62 := get_eqS (hD 17 62 (by simp [Region.binds]) (by kernel_rfl)) s62
              refine ob_yes (wanted_none rfl) ?_
              clear hF hD
              go_simp
              exact hK _ _ (Below.refl _ _) (rt_eqS s63)
            refine obsR_cons ?_ ?_
            · intro T wx K hB hF hD hK
              have g63 := get_eqS (hD 18 63 (by simp [Region.binds]) (by kernel_rfl)) s63
              refine ob_yes (wanted_none rfl) ?_
              clear hF hD
              go_simp
              exact hK _ _ (Below.refl _ _) (rt_eqS s64)
            refine obsR_cons ?_ ?_
            · intro T wx K hB hF hD hK
              have g64 := get_eqS (hD 19 64 (by simp [Region.binds]) (by kernel_rfl)) s64
              have g12 : T[12]? = some (.int .i64 2) := hF 12 (freeM_of (by kernel_rfl))
              refine ob_yes (wanted_yes rfl (by kernel_rfl) g64) ?_
              clear hF hD
              go_simp
              exact hK _ _ (Below.refl _ _) (rt_eqS s65)
            refine obsR_cons ?_ ?_
            · intro T wx K hB hF hD hK
              have g64 := get_eqS (hD 19 64 (by simp [Region.binds]) (by kernel_rfl)) s64
              have g9 : T[9]? = some (.pointer (some ⟨b9, 0, none⟩)) := hF 9 (freeM_of (by kernel_rfl))
              have g65 := get_eqS (hD 20 65 (by simp [Region.binds]) (by kernel_rfl)) s65
              refine ob_yes (wanted_yes rfl (by kernel_rfl) g64) ?_
              clear hF hD
              go_simp
              exact hK _ _ (Below.refl _ _) (rt_eqS s66)
            refine obsR_cons ?_ ?_
            · intro T wx K hB hF hD hK
              have g64 := get_eqS (hD 19 64 (by simp [Region.binds]) (by kernel_rfl)) s64
              have g66 := get_eqS (hD 21 66 (by simp [Region.binds]) (by kernel_rfl)) s66
              refine ob_yes (wanted_yes rfl (by kernel_rfl) g64) ?_
              clear hF hD
              have c0 := blk_cell (blk_call H9.out (belT BZ.out hB)) 2 _ rfl
              go_simp
              exact hK _ _ (Below.refl _ _) (rt_eqS s67)
            refine obsR_cons ?_ ?_
            · intro T wx K hB hF hD hK
              have g64 := get_eqS (hD 19 64 (by simp [Region.binds]) (by kernel_rfl)) s64
              have g12 : T[12]? = some (.int .i64 2) := hF 12 (freeM_of (by kernel_rfl))
              refine ob_yes (wanted_yes rfl (by kernel_rfl) g64) ?_
              clear hF hD
              go_simp
              exact hK _ _ (Below.refl _ _) (rt_eqS s68)
            refine obsR_cons ?_ ?_
            · intro T wx K hB hF hD hK
              have g64 := get_eqS (hD 19 64 (by simp [Region.binds]) (by kernel_rfl)) s64
              have g10 : T[10]? = some (.pointer (some ⟨b10, 0, none⟩)) := hF 10 (freeM_of (by kernel_rfl))
              have g68 := get_eqS (hD 23 68 (by simp [Region.binds]) (by kernel_rfl)) s68
              refine ob_yes (wanted_yes rfl (by kernel_rfl) g64) ?_
              clear hF hD
              go_simp
              exact hK _ _ (Below.refl _ _) (rt_eqS s69)
            refine obsR_cons ?_ ?_
            · intro T wx K hB hF hD hK
              have g64 := get_eqS (hD 19 64 (by simp [Region.binds]) (by kernel_rfl)) s64
              have g69 := get_eqS (hD 24 69 (by simp [Region.binds]) (by kernel_rfl)) s69
              refine ob_yes (wanted_yes rfl (by kernel_rfl) g64) ?_
              clear hF hD
              have c0 := blk_cell (blk_call H10.out (belT BZ.out hB)) 4 _ rfl
              have c1 := blk_cell (blk_call H10.out (belT BZ.out hB)) 5 _ rfl
              go_simp
              exact hK _ _ (Below.refl _ _) (rt_eqS s70)
            refine obsR_cons ?_ ?_
            · intro T wx K hB hF hD hK
              have g64 := get_eqS (hD 19 64 (by simp [Region.binds]) (by kernel_rfl)) s64
              have g67 := get_eqS (hD 22 67 (by simp [Region.binds]) (by kernel_rfl)) s67
              have g70 := get_eqS (hD 25 70 (by simp [Region.binds]) (by kernel_rfl)) s70
              refine ob_yes (wanted_yes rfl (by kernel_rfl) g64) ?_
              clear hF hD
              go_simp
              refine (locate_at _ 4 4 L2 a2 b2 0 _ GN2.out GO2 (by have := GN2.out; omega) (by have := GN2.out; omega) (prow_below R2.out (belT BZ.out hB)) GA2.out.allr2 (by unfold InR; have := PB.out.2.2.1; have := WB.out; omega) (by unfold InR; have := PB.out.2.2.1; have := WB.out; omega)).mono ?_; rintro e w9 ⟨rfl, hb⟩
              exact hK _ _ hb (rt_eqS s71)
            refine obsR_cons ?_ ?_
            · intro T wx K hB hF hD hK
              have g64 := get_eqS (hD 19 64 (by simp [Region.binds]) (by kernel_rfl)) s64
              have g71 := get_eqS (hD 26 71 (by simp [Region.binds]) (by kernel_rfl)) s71
              refine ob_yes (wanted_yes rfl (by kernel_rfl) g64) ?_
              clear hF hD
              go_simp
              exact hK _ _ (Below.refl _ _) (rt_eqS s72)
            refine obsR_cons ?_ ?_
            · intro T wx K hB hF hD hK
              have g64 := get_eqS (hD 19 64 (by simp [Region.binds]) (by kernel_rfl)) s64
              have g72 := get_eqS (hD 27 72 (by simp [Region.binds]) (by kernel_rfl)) s72
              refine ob_yes (wanted_none rfl) ?_
              clear hF hD
              go_simp
              exact hK _ _ (Below.refl _ _) (rt_eqS s73)
            refine obsR_cons ?_ ?_
            · intro T wx K hB hF hD hK
              have g73 := get_eqS (hD 28 73 (by simp [Region.binds]) (by kernel_rfl)) s73
              refine ob_yes (wanted_none rfl) ?_
              clear hF hD
              go_simp
              exact hK _ _ (Below.refl _ _) (rt_eqS s74)
            refine obsR_cons ?_ ?_
            · intro T wx K hB hF hD hK
              have g74 := get_eqS (hD 29 74 (by simp [Region.binds]) (by kernel_rfl)) s74
              have g12 : T[12]? = some (.int .i64 2) := hF 12 (freeM_of (by kernel_rfl))
              refine ob_yes (wanted_yes rfl (by kernel_rfl) g74) ?_
              clear hF hD
              go_simp
              exact hK _ _ (Below.refl _ _) (rt_eqS s75)
            refine obsR_cons ?_ ?_
            · intro T wx K hB hF hD hK
              have g74 := get_eqS (hD 29 74 (by simp [Region.binds]) (by kernel_rfl)) s74
              have g9 : T[9]? = some (.pointer (some ⟨b9, 0, none⟩)) := hF 9 (freeM_of (by kernel_rfl))
              have g75 := get_eqS (hD 30 75 (by simp [Region.binds]) (by kernel_rfl)) s75
              refine ob_yes (wanted_yes rfl (by kernel_rfl) g74) ?_
              clear hF hD
              go_simp
              exact hK _ _ (Below.refl _ _) (rt_eqS s76)
            refine obsR_cons ?_ ?_
            · intro T wx K hB hF hD hK
              have g74 := get_eqS (hD 29 74 (by simp [Region.binds]) (by kernel_rfl)) s74
              have g76 := get_eqS (hD 31 76 (by simp [Region.binds]) (by kernel_rfl)) s76
              refine ob_yes (wanted_yes rfl (by kernel_rfl) g74) ?_
              clear hF hD
              have c0 := blk_cell (blk_call H9.out (belT BZ.out hB)) 2 _ rfl
              go_simp
              exact hK _ _ (Below.refl _ _) (rt_eqS s77)
            refine obsR_cons ?_ ?_
            · intro T wx K hB hF hD hK
              have g74 := get_eqS (hD 29 74 (by simp [Region.binds]) (by kernel_rfl)) s74
              have g12 : T[12]? = some (.int .i64 2) := hF 12 (freeM_of (by kernel_rfl))
              refine ob_yes (wanted_yes rfl (by kernel_rfl) g74) ?_
              clear hF hD
              go_simp
              exact hK _ _ (Below.refl _ _) (rt_eqS s78)
            refine obsR_cons ?_ ?_
            · intro T wx K hB hF hD hK
              have g74 := get_eqS (hD 29 74 (by simp [Region.binds]) (by kernel_rfl)) s74
              have g78 := get_eqS (hD 33 78 (by simp [Region.binds]) (by kernel_rfl)) s78
              refine ob_yes (wanted_yes rfl (by kernel_rfl) g74) ?_
              clear hF hD
              go_simp
              exact hK _ _ (Below.refl _ _) (rt_eqS s79)
            refine obsR_cons ?_ ?_
            · intro T wx K hB hF hD hK
              have g74 := get_eqS (hD 29 74 (by simp [Region.binds]) (by kernel_rfl)) s74
              have g10 : T[10]? = some (.pointer (some ⟨b10, 0, none⟩)) := hF 10 (freeM_of (by kernel_rfl))
              have g79 := get_eqS (hD 34 79 (by simp [Region.binds]) (by kernel_rfl)) s79
              refine ob_yes (wanted_yes rfl (by kernel_rfl) g74) ?_
              clear hF hD
              go_simp
              exact hK _ _ (Below.refl _ _) (rt_eqS s80)
            refine obsR_cons ?_ ?_
            · intro T wx K hB hF hD hK
              have g74 := get_eqS (hD 29 74 (by simp [Region.binds]) (by kernel_rfl)) s74
              have g80 := get_eqS (hD 35 80 (by simp [Region.binds]) (by kernel_rfl)) s80
              refine ob_yes (wanted_yes rfl (by kernel_rfl) g74) ?_
              clear hF hD
              have c0 := blk_cell (blk_call H10.out (belT BZ.out hB)) 6 _ rfl
              have c1 := blk_cell (blk_call H10.out (belT BZ.out hB)) 7 _ rfl
              go_simp
              exact hK _ _ (Below.refl _ _) (rt_eqS s81)
            refine obsR_cons ?_ ?_
            · intro T wx K hB hF hD hK
              have g74 := get_eqS (hD 29 74 (by simp [Region.binds]) (by kernel_rfl)) s74
              have g77 := get_eqS (hD 32 77 (by simp [Region.binds]) (by kernel_rfl)) s77
              have g81 := get_eqS (hD 36 81 (by simp [Region.binds]) (by kernel_rfl)) s81
              refine ob_yes (wanted_yes rfl (by kernel_rfl) g74) ?_
              clear hF hD
              go_simp
              refine (locate_at _ 4 4 L2 a3 b3 0 _ GN2.out GP2 (by have := GN2.out; omega) (by have := GN2.out; omega) (prow_below R2.out (belT BZ.out hB)) GA2.out.allr2 (by unfold InR; have := PB.out.2.2.2; have := WB.out; omega) (by unfold InR; have := PB.out.2.2.2; have := WB.out; omega)).mono ?_; rintro e w9 ⟨rfl, hb⟩
              exact hK _ _ hb (rt_eqS s82)
            refine obsR_cons ?_ ?_
            · intro T wx K hB hF hD hK
              have g74 := get_eqS (hD 29 74 (by simp [Region.binds]) (by kernel_rfl)) s74
              have g82 := get_eqS (hD 37 82 (by simp [Region.binds]) (by kernel_rfl)) s82
              refine ob_yes (wanted_yes rfl (by kernel_rfl) g74) ?_
              clear hF hD
              go_simp
              exact hK _ _ (Below.refl _ _) (rt_eqS s83)
            refine obsR_cons ?_ ?_
            · intro T wx K hB hF hD hK
              have g74 := get_eqS (hD 29 74 (by simp [Region.binds]) (by kernel_rfl)) s74
              have g83 := get_eqS (hD 38 83 (by simp [Region.binds]) (by kernel_rfl)) s83
              refine ob_yes (wanted_none rfl) ?_
              clear hF hD
              go_simp
              exact hK _ _ (Below.refl _ _) (rt_eqS s84)
            exact obsR_nil
          · intro T2 X2 hb8 hF hs hD
            have g45 := get_eqS (hD 0 45 (by decide) (by kernel_rfl)) s45
            have g46 := get_eqS (hD 1 46 (by decide) (by kernel_rfl)) s46
            have g47 := get_eqS (hD 2 47 (by decide) (by kernel_rfl)) s47
            have g48 := get_eqS (hD 3 48 (by decide) (by kernel_rfl)) s48
            have g49 := get_eqS (hD 4 49 (by decide) (by kernel_rfl)) s49
            have g50 := get_eqS (hD 5 50 (by decide) (by kernel_rfl)) s50
            have g51 := get_eqS (hD 6 51 (by decide) (by kernel_rfl)) s51
            have g52 := get_eqS (hD 7 52 (by decide) (by kernel_rfl)) s52
            have g53 := get_eqS (hD 8 53 (by decide) (by kernel_rfl)) s53
            have g54 := get_eqS (hD 9 54 (by decide) (by kernel_rfl)) s54
            have g55 := get_eqS (hD 10 55 (by decide) (by kernel_rfl)) s55
            have g56 := get_eqS (hD 11 56 (by decide) (by kernel_rfl)) s56
            have g57 := get_eqS (hD 12 57 (by decide) (by kernel_rfl)) s57
            have g58 := get_eqS (hD 13 58 (by decide) (by kernel_rfl)) s58
            have g59 := get_eqS (hD 14 59 (by decide) (by kernel_rfl)) s59
            have g60 := get_eqS (hD 15 60 (by decide) (by kernel_rfl)) s60
            have g61 := get_eqS (hD 16 61 (by decide) (by kernel_rfl)) s61
            have g62 := get_eqS (hD 17 62 (by decide) (by kernel_rfl)) s62
            have g63 := get_eqS (hD 18 63 (by decide) (by kernel_rfl)) s63
            have g64 := get_eqS (hD 19 64 (by decide) (by kernel_rfl)) s64
            have g65 := get_eqS (hD 20 65 (by decide) (by kernel_rfl)) s65
            have g66 := get_eqS (hD 21 66 (by decide) (by kernel_rfl)) s66
            have g67 := get_eqS (hD 22 67 (by decide) (by kernel_rfl)) s67
            have g68 := get_eqS (hD 23 68 (by decide) (by kernel_rfl)) s68
            have g69 := get_eqS (hD 24 69 (by decide) (by kernel_rfl)) s69
            have g70 := get_eqS (hD 25 70 (by decide) (by kernel_rfl)) s70
            have g71 := get_eqS (hD 26 71 (by decide) (by kernel_rfl)) s71
            have g72 := get_eqS (hD 27 72 (by decide) (by kernel_rfl)) s72
            have g73 := get_eqS (hD 28 73 (by decide) (by kernel_rfl)) s73
            have g74 := get_eqS (hD 29 74 (by decide) (by kernel_rfl)) s74
            have g75 := get_eqS (hD 30 75 (by decide) (by kernel_rfl)) s75
            have g76 := get_eqS (hD 31 76 (by decide) (by kernel_rfl)) s76
            have g77 := get_eqS (hD 32 77 (by decide) (by kernel_rfl)) s77
            have g78 := get_eqS (hD 33 78 (by decide) (by kernel_rfl)) s78
            have g79 := get_eqS (hD 34 79 (by decide) (by kernel_rfl)) s79
            have g80 := get_eqS (hD 35 80 (by decide) (by kernel_rfl)) s80
            have g81 := get_eqS (hD 36 81 (by decide) (by kernel_rfl)) s81
            have g82 := get_eqS (hD 37 82 (by decide) (by kernel_rfl)) s82
            have g83 := get_eqS (hD 38 83 (by decide) (by kernel_rfl)) s83
            have g84 := get_eqS (hD 39 84 (by decide) (by kernel_rfl)) s84
            have hT := conc [(45, .int .i64 2), (46, .pointer (some ⟨b9, 2, none⟩)), (47, .slice (some ⟨g2, 0, none⟩) 4 4), (48, .int .i64 4), (49, .bool false), (50, .bool false), (51, .int .i64 2), (52, .pointer (some ⟨b9, 2, none⟩)), (53, .slice (some ⟨g2, 0, none⟩) 4 4), (54, .bool true), (55, .bool false), (56, .bool false), (57, .bool false), (58, .int .i64 2), (59, .pointer (some ⟨b9, 2, none⟩)), (60, .slice (some ⟨g2, 0, none⟩) 4 4), (61, .bool true), (62, .bool false), (63, .bool false), (64, .bool false), (65, .int .i64 2), (66, .pointer (some ⟨b9, 2, none⟩)), (67, .slice (some ⟨g2, 0, none⟩) 4 4), (68, .int .i64 2), (69, .pointer (some ⟨b10, 4, none⟩)), (70, .agg #[.int .i64 a2, .int .i64 b2]), (71, .int .i64 0), (72, .bool false), (73, .bool false), (74, .bool false), (75, .int .i64 2), (76, .pointer (some ⟨b9, 2, none⟩)), (77, .slice (some ⟨g2, 0, none⟩) 4 4), (78, .int .i64 2), (79, .int .i64 3), (80, .pointer (some ⟨b10, 6, none⟩)), (81, .agg #[.int .i64 a3, .int .i64 b3]), (82, .int .i64 0), (83, .bool false), (84, .bool false)] hs hF (by simp only [List.forall_mem_cons]; exact ⟨g45, g46, g47, g48, g49, g50, g51, g52, g53, g54, g55, g56, g57, g58, g59, g60, g61, g62, g63, g64, g65, g66, g67, g68, g69, g70, g71, g72, g73, g74, g75, g76, g77, g78, g79, g80, g81, g82, g83, g84, fun p hp => absurd hp List.not_mem_nil⟩) (by kernel_rfl)
            simp only [List.foldl, List.setIfInBounds_toArray, List.set_cons_succ, List.set_cons_zero] at hT
            subst hT
            clear hF hD hs g45 g46 g47 g48 g49 g50 g51 g52 g53 g54 g55 g56 g57 g58 g59 g60 g61 g62 g63 g64 g65 g66 g67 g68 g69 g70 g71 g72 g73 g74 g75 g76 g77 g78 g79 g80 g81 g82 g83 g84 s45 s46 s47 s48 s49 s50 s51 s52 s53 s54 s55 s56 s57 s58 s59 s60 s61 s62 s63 s64 s65 s66 s67 s68 s69 s70 s71 s72 s73 s74 s75 s76 s77 s78 s79 s80 s81 s82 s83 s84
            replace BZ := Lib.hid (belT BZ.out hb8)
            replace HO := Lib.hid (own_below HO.out hb8)
            clear hb8
            go_wp2_with fail
            obtain ⟨sp, hsp⟩ : ∃ sp : ToldS, sp = [none, none, none, none, none, none, none, none, none, none, none, none, none, none, none, none, none, none, none, none, none, none, none, none, none, none, none, none, none, none, none, none, none, none, none, none, none, none, none, none, none, none, none, none, none, none, none, none, none, none, none, none, none, none, none, none, none, none, none, none, none, none, none, none, none, none, none, none, none, none, none, none, none, none, none, none, none, none, none, none, none, none, none, none, none, some (eqS (.int .i64 2)), some (eqS (.bool true)), some (eqS (.bool true)), some (eqS (.int .i64 2)), some (eqS (.int .i64 1)), some (eqS (.pointer (some ⟨b9, 1, none⟩))), some (eqS (.slice (some ⟨g1, 0, none⟩) 4 4)), some (eqS (.int .i64 2)), some (eqS (.pointer (some ⟨b9, 2, none⟩))), some (eqS (.slice (some ⟨g2, 0, none⟩) 4 4)), some (eqS (.bool true)), some (eqS (.bool false)), some (eqS (.bool false))] := ⟨_, rfl⟩
            have s85 : sp.getD 85 none = some (eqS (.int .i64 2)) := by rw [hsp]; rfl
            have s86 : sp.getD 86 none = some (eqS (.bool true)) := by rw [hsp]; rfl
            have s87 : sp.getD 87 none = some (eqS (.bool true)) := by rw [hsp]; rfl
            have s88 : sp.getD 88 none = some (eqS (.int .i64 2)) := by rw [hsp]; rfl
            have s89 : sp.getD 89 none = some (eqS (.int .i64 1)) := by rw [hsp]; rfl
            have s90 : sp.getD 90 none = some (eqS (.pointer (some ⟨b9, 1, none⟩))) := by rw [hsp]; rfl
            have s91 : sp.getD 91 none = some (eqS (.slice (some ⟨g1, 0, none⟩) 4 4)) := by rw [hsp]; rfl
            have s92 : sp.getD 92 none = some (eqS (.int .i64 2)) := by rw [hsp]; rfl
            have s93 : sp.getD 93 none = some (eqS (.pointer (some ⟨b9, 2, none⟩))) := by rw [hsp]; rfl
            have s94 : sp.getD 94 none = some (eqS (.slice (some ⟨g2, 0, none⟩) 4 4)) := by rw [hsp]; rfl
            have s95 : sp.getD 95 none = some (eqS (.bool true)) := by rw [hsp]; rfl
            have s96 : sp.getD 96 none = some (eqS (.bool false)) := by rw [hsp]; rfl
            have s97 : sp.getD 97 none = some (eqS (.bool false)) := by rw [hsp]; rfl
            clear hsp
            refine (wpIn_wide (n := 0)).1 (region_allR (RtS sp) (rtS_keep sp) rfl rfl rfl (by kernel_rfl) (by kernel_rfl) (by kernel_rfl) ?_ ?_)
            · intro Q'
              refine obsR_cons ?_ ?_
              · intro T wx K hB hF hD hK
                have g12 : T[12]? = some (.int .i64 2) := hF 12 (freeM_of (by kernel_rfl))
                refine ob_yes (wanted_none rfl) ?_
                clear hF hD
                go_simp
                exact hK _ _ (Below.refl _ _) (rt_eqS s85)
              refine obsR_cons ?_ ?_
              · intro T wx K hB hF hD hK
                have g85 := get_eqS (hD 0 85 (by simp [Region.binds]) (by kernel_rfl)) s85
                refine ob_yes (wanted_none rfl) ?_
                clear hF hD
                go_simp
                exact hK _ _ (Below.refl _ _) (rt_eqS s86)
              refine obsR_cons ?_ ?_
              · intro T wx K hB hF hD hK
                have g86 := get_eqS (hD 1 86 (by simp [Region.binds]) (by kernel_rfl)) s86
                refine ob_yes (wanted_none rfl) ?_
                clear hF hD
                go_simp
                exact hK _ _ (Below.refl _ _) (rt_eqS s87)
              refine obsR_cons ?_ ?_
              · intro T wx K hB hF hD hK
                have g87 := get_eqS (hD 2 87 (by simp [Region.binds]) (by kernel_rfl)) s87
                have g12 : T[12]? = some (.int .i64 2) := hF 12 (freeM_of (by kernel_rfl))
                refine ob_yes (wanted_yes rfl (by kernel_rfl) g87) ?_
                clear hF hD
                go_simp
                exact hK _ _ (Below.refl _ _) (rt_eqS s88)
              refine obsR_cons ?_ ?_
              · intro T wx K hB hF hD hK
                have g87 := get_eqS (hD 2 87 (by simp [Region.binds]) (by kernel_rfl)) s87
                have g88 := get_eqS (hD 3 88 (by simp [Region.binds]) (by kernel_rfl)) s88
                refine ob_yes (wanted_yes rfl (by kernel_rfl) g87) ?_
                clear hF hD
                go_simp
                exact hK _ _ (Below.refl _ _) (rt_eqS s89)
              refine obsR_cons ?_ ?_
              · intro T wx K hB hF hD hK
                have g87 := get_eqS (hD 2 87 (by simp [Region.binds]) (by kernel_rfl)) s87
                have g9 : T[9]? = some (.pointer (some ⟨b9, 0, none⟩)) := hF 9 (freeM_of (by kernel_rfl))
                have g89 := get_eqS (hD 4 89 (by simp [Region.binds]) (by kernel_rfl)) s89
                refine ob_yes (wanted_yes rfl (by kernel_rfl) g87) ?_
                clear hF hD
                go_simp
                exact hK _ _ (Below.refl _ _) (rt_eqS s90)
              refine obsR_cons ?_ ?_
              · intro T wx K hB hF hD hK
                have g87 := get_eqS (hD 2 87 (by simp [Region.binds]) (by kernel_rfl)) s87
                have g90 := get_eqS (hD 5 90 (by simp [Region.binds]) (by kernel_rfl)) s90
                refine ob_yes (wanted_yes rfl (by kernel_rfl) g87) ?_
                clear hF hD
                have c0 := blk_cell (blk_call H9.out (belT BZ.out hB)) 1 _ rfl
                go_simp
                exact hK _ _ (Below.refl _ _) (rt_eqS s91)
              refine obsR_cons ?_ ?_
              · intro T wx K hB hF hD hK
                have g87 := get_eqS (hD 2 87 (by simp [Region.binds]) (by kernel_rfl)) s87
                have g12 : T[12]? = some (.int .i64 2) := hF 12 (freeM_of (by kernel_rfl))
                refine ob_yes (wanted_yes rfl (by kernel_rfl) g87) ?_
                clear hF hD
                go_simp
                exact hK _ _ (Below.refl _ _) (rt_eqS s92)
              refine obsR_cons ?_ ?_
              · intro T wx K hB hF hD hK
                have g87 := get_eqS (hD 2 87 (by simp [Region.binds]) (by kernel_rfl)) s87
                have g9 : T[9]? = some (.pointer (some ⟨b9, 0, none⟩)) := hF 9 (freeM_of (by kernel_rfl))
                have g92 := get_eqS (hD 7 92 (by simp [Region.binds]) (by kernel_rfl)) s92
                refine ob_yes (wanted_yes rfl (by kernel_rfl) g87) ?_
                clear hF hD
                go_simp
                exact hK _ _ (Below.refl _ _) (rt_eqS s93)
              refine obsR_cons ?_ ?_
              · intro T wx K hB hF hD hK
                have g87 := get_eqS (hD 2 87 (by simp [Region.binds]) (by kernel_rfl)) s87
                have g93 := get_eqS (hD 8 93 (by simp [Region.binds]) (by kernel_rfl)) s93
                refine ob_yes (wanted_yes rfl (by kernel_rfl) g87) ?_
                clear hF hD
                have c0 := blk_cell (blk_call H9.out (belT BZ.out hB)) 2 _ rfl
                go_simp
                exact hK _ _ (Below.refl _ _) (rt_eqS s94)
              refine obsR_cons ?_ ?_
              · intro T wx K hB hF hD hK
                have g87 := get_eqS (hD 2 87 (by simp [Region.binds]) (by kernel_rfl)) s87
                have g91 := get_eqS (hD 6 91 (by simp [Region.binds]) (by kernel_rfl)) s91
                have g94 := get_eqS (hD 9 94 (by simp [Region.binds]) (by kernel_rfl)) s94
                refine ob_yes (wanted_yes rfl (by kernel_rfl) g87) ?_
                clear hF hD
                go_simp
                refine (polygons_is _ _ 4 4 4 4 L1 L2 true _ GN1.out GN2.out tc12 (by omega) (by omega) (by omega) (by omega) (prow_below R1.out (belT BZ.out hB)) (prow_below R2.out (belT BZ.out hB)) GA1.out.allr2 GA2.out.allr2).mono ?_; rintro e w9 ⟨rfl, hb⟩
                exact hK _ _ hb (rt_eqS s95)
              refine obsR_cons ?_ ?_
              · intro T wx K hB hF hD hK
                have g87 := get_eqS (hD 2 87 (by simp [Region.binds]) (by kernel_rfl)) s87
                have g95 := get_eqS (hD 10 95 (by simp [Region.binds]) (by kernel_rfl)) s95
                refine ob_yes (wanted_yes rfl (by kernel_rfl) g87) ?_
                clear hF hD
                go_simp
                exact hK _ _ (Below.refl _ _) (rt_eqS s96)
              refine obsR_cons ?_ ?_
              · intro T wx K hB hF hD hK
                have g87 := get_eqS (hD 2 87 (by simp [Region.binds]) (by kernel_rfl)) s87
                have g96 := get_eqS (hD 11 96 (by simp [Region.binds]) (by kernel_rfl)) s96
                refine ob_yes (wanted_none rfl) ?_
                clear hF hD
                go_simp
                exact hK _ _ (Below.refl _ _) (rt_eqS s97)
              exact obsR_nil
            · intro S2 Y2 hb8 hF hs hD
              have g85 := get_eqS (hD 0 85 (by decide) (by kernel_rfl)) s85
              have g86 := get_eqS (hD 1 86 (by decide) (by kernel_rfl)) s86
              have g87 := get_eqS (hD 2 87 (by decide) (by kernel_rfl)) s87
              have g88 := get_eqS (hD 3 88 (by decide) (by kernel_rfl)) s88
              have g89 := get_eqS (hD 4 89 (by decide) (by kernel_rfl)) s89
              have g90 := get_eqS (hD 5 90 (by decide) (by kernel_rfl)) s90
              have g91 := get_eqS (hD 6 91 (by decide) (by kernel_rfl)) s91
              have g92 := get_eqS (hD 7 92 (by decide) (by kernel_rfl)) s92
              have g93 := get_eqS (hD 8 93 (by decide) (by kernel_rfl)) s93
              have g94 := get_eqS (hD 9 94 (by decide) (by kernel_rfl)) s94
              have g95 := get_eqS (hD 10 95 (by decide) (by kernel_rfl)) s95
              have g96 := get_eqS (hD 11 96 (by decide) (by kernel_rfl)) s96
              have g97 := get_eqS (hD 12 97 (by decide) (by kernel_rfl)) s97
              have hT := conc [(85, .int .i64 2), (86, .bool true), (87, .bool true), (88, .int .i64 2), (89, .int .i64 1), (90, .pointer (some ⟨b9, 1, none⟩)), (91, .slice (some ⟨g1, 0, none⟩) 4 4), (92, .int .i64 2), (93, .pointer (some ⟨b9, 2, none⟩)), (94, .slice (some ⟨g2, 0, none⟩) 4 4), (95, .bool true), (96, .bool false), (97, .bool false)] hs hF (by simp only [List.forall_mem_cons]; exact ⟨g85, g86, g87, g88, g89, g90, g91, g92, g93, g94, g95, g96, g97, fun p hp => absurd hp List.not_mem_nil⟩) (by kernel_rfl)
              simp only [List.foldl, List.setIfInBounds_toArray, List.set_cons_succ, List.set_cons_zero] at hT
              subst hT
              clear hF hD hs g85 g86 g87 g88 g89 g90 g91 g92 g93 g94 g95 g96 g97 s85 s86 s87 s88 s89 s90 s91 s92 s93 s94 s95 s96 s97
              replace BZ := Lib.hid (belT BZ.out hb8)
              replace HO := Lib.hid (own_below HO.out hb8)
              clear hb8
              have e0 := blk_cell (blk_call H9.out BZ.out) 2 _ rfl
              go_wp2_with (at_builtin; refine wpList_append_two rfl _ _ 29 30 rfl W3.heap.size i0 (.agg #[.int .i64 0, .int .i64 0]) Tryz.underlying29 Tryz.underlying30 hi hz0 hz1' hz2 rfl _ _ _ rfl HO.out g2 4 4 L2 rfl GN2.out (prow_below R2.out BZ.out) (by omega) BZ.out.size ?_)
              intro sv2 Z2 hown hgrow
              replace BZ := Lib.hid (BZ.out.grown hgrow BZ.out.size (fun j hj => (HO.out.lt j hj).1))
              replace HO := Lib.hid hown
              clear hown hgrow e0
              go_wp2_with fail
              rw [rounds_succ]
              go_wp2_with fail
              have HO2 : Z2.ownsRow W3.heap.size 23 2 sv2 L.length (flat L) := by
                rw [LN.out, ← hL.out, flat_app, flat_app]
                simpa using HO.out
              obtain ⟨gl, cl, rfl, pl⟩ := prow_own1 (by rw [LN.out]; omega) HO2
              have PL := Lib.hid pl
              clear pl HO2 HO
              replace RB := Lib.hid (prow_below RB.out BZ.out)
              replace H9 := Lib.hid (blk_call H9.out BZ.out)
              replace B := Lib.hid (belT B.out BZ.out)
              replace R0 := Lib.hid (prow_below R0.out BZ.out)
              replace R1 := Lib.hid (prow_below R1.out BZ.out)
              replace R2 := Lib.hid (prow_below R2.out BZ.out)
              clear BZ H10
              go_wp2_with fail
              refine (of_is _ _ cl L h true _ rfl EH NH (by rw [LN.out]; omega) PL.out LV.out).mono ?_
              rintro e w8 ⟨⟨ho, hc, rfl, hp⟩, hb8⟩
              replace RB := Lib.hid (prow_below RB.out hb8)
              replace H9 := Lib.hid (blk_call H9.out hb8)
              replace R0 := Lib.hid (prow_below R0.out hb8)
              replace R1 := Lib.hid (prow_below R1.out hb8)
              replace R2 := Lib.hid (prow_below R2.out hb8)
              replace PL := Lib.hid (prow_below PL.out hb8)
              replace B := Lib.hid (belT B.out hb8)
              clear hb8
              have PH := Lib.hid hp
              clear hp
              go_wp2_with fail
              refine (boxd_at ho bo _ _ hc cb h b d _ rfl rfl hd hl12 b12 PH.out RB.out HV.out.allr2 VB.out.allr2).mono ?_
              rintro e w9 ⟨rfl, hb9⟩
              replace RB := Lib.hid (prow_below RB.out hb9)
              replace H9 := Lib.hid (blk_call H9.out hb9)
              replace R0 := Lib.hid (prow_below R0.out hb9)
              replace R1 := Lib.hid (prow_below R1.out hb9)
              replace R2 := Lib.hid (prow_below R2.out hb9)
              replace PL := Lib.hid (prow_below PL.out hb9)
              replace PH := Lib.hid (prow_below PH.out hb9)
              replace B := Lib.hid (belT B.out hb9)
              clear hb9
              have B0 := B
              clear B PL PH EH NH HV hd PP PB WB
              by_cases hap : 0 < d
              · replace hap : decide (0 < d) = true := decide_eq_true hap
                have f0 := AN0.out (of_decide_eq_true hap)
                rw [f0] at ht0
                have f1 := AN1.out (of_decide_eq_true hap)
                rw [f1] at ht1
                have f2 := AN2.out (of_decide_eq_true hap)
                rw [f2] at ht2
                go_wp2_with fail
                go_loopw [16] (fun i wr => Below w9.heap.size w9 wr ∧ (i = .int .i64 0 ∨ i = .int .i64 1 ∨ i = .int .i64 2 ∨ i = .int .i64 3)) (fun i _ => 3 - (intOf i).toNat)
                case atStart => exact ⟨Below.refl _ _, .inl rfl⟩
                case round =>
                  obtain ⟨hZ, rfl | rfl | rfl | rfl⟩ := hrel
                  · have BY := Lib.hid hZ
                    clear hZ
                    have c0 := blk_cell (blk_call H9.out BY.out) 0 _ rfl
                    go_wp2_with fail
                    refine (polygons_is _ bo 4 _ 4 cb L0 b false _ GN0.out rfl ht0 (by omega) (by omega) (by omega) b12 (prow_below R0.out BY.out) (prow_below RB.out BY.out) GA0.out.allr2 VB.out.allr2).mono ?_
                    rintro e y1 ⟨rfl, hb⟩
                    replace BY := Lib.hid (belT BY.out hb)
                    clear hb c0
                    have c0 := blk_cell (blk_call H9.out BY.out) 0 _ rfl
                    go_wp2_with fail
                    refine (polygons_is _ bo 4 _ 4 cb L0 b false _ GN0.out rfl ht0 (by omega) (by omega) (by omega) b12 (prow_below R0.out BY.out) (prow_below RB.out BY.out) GA0.out.allr2 VB.out.allr2).mono ?_
                    rintro e y2 ⟨rfl, hb⟩
                    replace BY := Lib.hid (belT BY.out hb)
                    clear hb c0
                    have c0 := blk_cell (blk_call H9.out BY.out) 0 _ rfl
                    go_wp2_with fail
                    go_roundw
                    case rel => exact ⟨BY.out, .inr (.inl (by go_num))⟩
                    case measure => simp [intOf]
                  · have BY := Lib.hid hZ
                    clear hZ
                    have c0 := blk_cell (blk_call H9.out BY.out) 1 _ rfl
                    go_wp2_with fail
                    refine (polygons_is _ bo 4 _ 4 cb L1 b false _ GN1.out rfl ht1 (by omega) (by omega) (by omega) b12 (prow_below R1.out BY.out) (prow_below RB.out BY.out) GA1.out.allr2 VB.out.allr2).mono ?_
                    rintro e y1 ⟨rfl, hb⟩
                    replace BY := Lib.hid (belT BY.out hb)
                    clear hb c0
                    have c0 := blk_cell (blk_call H9.out BY.out) 1 _ rfl
                    go_wp2_with fail
                    refine (polygons_is _ bo 4 _ 4 cb L1 b false _ GN1.out rfl ht1 (by omega) (by omega) (by omega) b12 (prow_below R1.out BY.out) (prow_below RB.out BY.out) GA1.out.allr2 VB.out.allr2).mono ?_
                    rintro e y2 ⟨rfl, hb⟩
                    replace BY := Lib.hid (belT BY.out hb)
                    clear hb c0
                    have c0 := blk_cell (blk_call H9.out BY.out) 1 _ rfl
                    go_wp2_with fail
                    go_roundw
                    case rel => exact ⟨BY.out, .inr (.inr (.inl (by go_num)))⟩
                    case measure => simp [intOf]
                  · have BY := Lib.hid hZ
                    clear hZ
                    have c0 := blk_cell (blk_call H9.out BY.out) 2 _ rfl
                    go_wp2_with fail
                    refine (polygons_is _ bo 4 _ 4 cb L2 b false _ GN2.out rfl ht2 (by omega) (by omega) (by omega) b12 (prow_below R2.out BY.out) (prow_below RB.out BY.out) GA2.out.allr2 VB.out.allr2).mono ?_
                    rintro e y1 ⟨rfl, hb⟩
                    replace BY := Lib.hid (belT BY.out hb)
                    clear hb c0
                    have c0 := blk_cell (blk_call H9.out BY.out) 2 _ rfl
                    go_wp2_with fail
                    refine (polygons_is _ bo 4 _ 4 cb L2 b false _ GN2.out rfl ht2 (by omega) (by omega) (by omega) b12 (prow_below R2.out BY.out) (prow_below RB.out BY.out) GA2.out.allr2 VB.out.allr2).mono ?_
                    rintro e y2 ⟨rfl, hb⟩
                    replace BY := Lib.hid (belT BY.out hb)
                    clear hb c0
                    have c0 := blk_cell (blk_call H9.out BY.out) 2 _ rfl
                    go_wp2_with fail
                    go_roundw
                    case rel => exact ⟨BY.out, .inr (.inr (.inr (by go_num)))⟩
                    case measure => simp [intOf]
                  · have BY := Lib.hid hZ
                    clear hZ
                    go_wp2_with fail
                    go_ret
                    exact ⟨rfl, belT B0.out BY.out⟩
              replace hap : decide (0 < d) = false := decide_eq_false hap
              go_wp2_with fail
              go_loopw [16] (fun i wr => Below w9.heap.size w9 wr ∧ (i = .int .i64 0 ∨ i = .int .i64 1 ∨ i = .int .i64 2 ∨ i = .int .i64 3)) (fun i _ => 3 - (intOf i).toNat)
              case atStart => exact ⟨Below.refl _ _, .inl rfl⟩
              case round =>
                obtain ⟨hZ, rfl | rfl | rfl | rfl⟩ := hrel
                · have BY := Lib.hid hZ
                  clear hZ
                  have c0 := blk_cell (blk_call H9.out BY.out) 0 _ rfl
                  go_wp2_with fail
                  refine (polygons_is _ bo 4 _ 4 cb L0 b t0 _ GN0.out rfl ht0 (by omega) (by omega) (by omega) b12 (prow_below R0.out BY.out) (prow_below RB.out BY.out) GA0.out.allr2 VB.out.allr2).mono ?_
                  rintro e y1 ⟨rfl, hb⟩
                  replace BY := Lib.hid (belT BY.out hb)
                  clear hb c0
                  have c0 := blk_cell (blk_call H9.out BY.out) 0 _ rfl
                  cases t0
                  · skip
                    go_wp2_with fail
                    go_roundw
                    case rel => exact ⟨BY.out, .inr (.inl (by go_num))⟩
                    case measure => simp [intOf]
                  · skip
                    go_wp2_with fail
                    refine (boxd_at _ bo 4 _ 4 cb L0 b d0 _ GN0.out rfl hd0 (by omega) b12 (prow_below R0.out BY.out) (prow_below RB.out BY.out) GA0.out.allr2 VB.out.allr2).mono ?_
                    rintro e y2 ⟨rfl, hb⟩
                    replace BY := Lib.hid (belT BY.out hb)
                    clear hb c0
                    have nd : decide (0 < d0) = false := decide_eq_false (by have := BN0.out (by simp); omega)
                    go_wp2_with fail
                    go_roundw
                    case rel => exact ⟨BY.out, .inr (.inl (by go_num))⟩
                    case measure => simp [intOf]
                · have BY := Lib.hid hZ
                  clear hZ
                  have c0 := blk_cell (blk_call H9.out BY.out) 1 _ rfl
                  go_wp2_with fail
                  refine (polygons_is _ bo 4 _ 4 cb L1 b t1 _ GN1.out rfl ht1 (by omega) (by omega) (by omega) b12 (prow_below R1.out BY.out) (prow_below RB.out BY.out) GA1.out.allr2 VB.out.allr2).mono ?_
                  rintro e y1 ⟨rfl, hb⟩
                  replace BY := Lib.hid (belT BY.out hb)
                  clear hb c0
                  have c0 := blk_cell (blk_call H9.out BY.out) 1 _ rfl
                  cases t1
                  · skip
                    go_wp2_with fail
                    go_roundw
                    case rel => exact ⟨BY.out, .inr (.inr (.inl (by go_num)))⟩
                    case measure => simp [intOf]
                  · skip
                    go_wp2_with fail
                    refine (boxd_at _ bo 4 _ 4 cb L1 b d1 _ GN1.out rfl hd1 (by omega) b12 (prow_below R1.out BY.out) (prow_below RB.out BY.out) GA1.out.allr2 VB.out.allr2).mono ?_
                    rintro e y2 ⟨rfl, hb⟩
                    replace BY := Lib.hid (belT BY.out hb)
                    clear hb c0
                    have nd : decide (0 < d1) = false := decide_eq_false (by have := BN1.out (by simp); omega)
                    go_wp2_with fail
                    go_roundw
                    case rel => exact ⟨BY.out, .inr (.inr (.inl (by go_num)))⟩
                    case measure => simp [intOf]
                · have BY := Lib.hid hZ
                  clear hZ
                  have c0 := blk_cell (blk_call H9.out BY.out) 2 _ rfl
                  go_wp2_with fail
                  refine (polygons_is _ bo 4 _ 4 cb L2 b t2 _ GN2.out rfl ht2 (by omega) (by omega) (by omega) b12 (prow_below R2.out BY.out) (prow_below RB.out BY.out) GA2.out.allr2 VB.out.allr2).mono ?_
                  rintro e y1 ⟨rfl, hb⟩
                  replace BY := Lib.hid (belT BY.out hb)
                  clear hb c0
                  have c0 := blk_cell (blk_call H9.out BY.out) 2 _ rfl
                  cases t2
                  · skip
                    go_wp2_with fail
                    go_roundw
                    case rel => exact ⟨BY.out, .inr (.inr (.inr (by go_num)))⟩
                    case measure => simp [intOf]
                  · skip
                    go_wp2_with fail
                    refine (boxd_at _ bo 4 _ 4 cb L2 b d2 _ GN2.out rfl hd2 (by omega) b12 (prow_below R2.out BY.out) (prow_below RB.out BY.out) GA2.out.allr2 VB.out.allr2).mono ?_
                    rintro e y2 ⟨rfl, hb⟩
                    replace BY := Lib.hid (belT BY.out hb)
                    clear hb c0
                    have nd : decide (0 < d2) = false := decide_eq_false (by have := BN2.out (by simp); omega)
                    go_wp2_with fail
                    go_roundw
                    case rel => exact ⟨BY.out, .inr (.inr (.inr (by go_num)))⟩
                    case measure => simp [intOf]
                · have BY := Lib.hid hZ
                  clear hZ
                  go_wp2_with fail
                  go_ret
                  exact ⟨rfl, belT B0.out BY.out⟩

set_option maxRecDepth 100000 in
theorem lifted (os : Os) (started : os.Started) (H : Type) (enc : TypeId × Value → H) :
    ReturnsInHanded {} Tryz.checked os 3 .any (fun w args => (Rows.topLinkBodiesSpec.pre enc Tryz.prog Tryz.f3 [] false w args ∧ laidMetH Tryz.prog Rows.topLinkBodiesRow.laid w) ∧ sizedMet enc Tryz.prog Tryz.f3 (OpenSpec.ofChange Rows.topLinkBodiesSpec) false w args)
      (Rows.topLinkBodiesSpec.post enc Tryz.prog Tryz.f3 false true false false) := by
  refine returnsInHanded_of_change_and (C := Tryz.checked) (X := fun w _ => laidMetH Tryz.prog Rows.topLinkBodiesRow.laid w) (fun _ _ _ hh h => h.of_heap hh) own started (by kernel_rfl) Tryz.func3
    (ChangeSpec.witness_shaped (enc := enc) (C := Tryz.checked) (os := os) (X := fun w _ => laidMetH Tryz.prog Rows.topLinkBodiesRow.laid w) false (World.doorLaid Tryz.prog 600 os) #[.agg #[.int .i64 0, .int .i64 0, .int .i64 0, .int .i64 0, .int .i64 0, .int .i64 0, .int .i64 0, .int .i64 0, .int .i64 0, .int .i64 0, .int .i64 0, .int .i64 0], .agg #[.int .u8 0, .int .u8 0, .int .u8 0], .slice none 0 0] 8 rfl (World.shaped_of_RefB (by kernel_rfl) (by kernel_rfl)) (by kernel_rfl) (by kernel_rfl) (by kernel_rfl) (show laidMetH Tryz.prog [(qn, Rows.laid_ambidexter_rotation_quadrant)] _ from door_met os _)) ?_
  intro W base args ds gs before hval0 hW _ _ hL _
  have hval : ∀ (j : Nat) t v, Tryz.f3.params[j]? = some t → args[j]? = some v → Value.okWide Tryz.prog W .any base t v := hval0
  have hW' := hW
  obtain ⟨p, q, hA0, hV, rfl, hfz, hnd⟩ := hW
  have hA : DataW.TrodAll enc Tryz.prog W 0 (fun _ => true) true Tryz.f3.params.toList args.toList ds p := hA0
  rw [Tryz.params3] at hA hval
  obtain ⟨v0, vs0, d0, ds0, p0, q0, hargs, rfl, rfl, h0, r0⟩ := trodAll_cons hA
  obtain ⟨v1, vs1, d1, ds1, p1, q1, rfl, rfl, rfl, h1, r1⟩ := trodAll_cons r0
  obtain ⟨v2, vs2, d2, ds2, p2, q2, rfl, rfl, rfl, h2, r2⟩ := trodAll_cons r1
  obtain ⟨rfl, rfl, rfl⟩ := trodAll_nil r2
  obtain rfl : args = #[v0, v1, v2] := by cases args; simp_all
  obtain ⟨rfl, rfl⟩ := trodVars_none hV
  have k0 := h0
  have lt0 : ∀ x ∈ p0, x.block < W.heap.size := by obtain ⟨m, hm⟩ := k0; exact DataW.trod_lt m _ _ _ hm
  obtain ⟨c0_0, c0_1, c0_2, c0_3, c0_4, c0_5, c0_6, c0_7, c0_8, c0_9, c0_10, c0_11, rfl⟩ := AFr.open_arm (hval 0 27 v0 rfl rfl) h0
  have k1 := h1
  have lt1 : ∀ x ∈ p1, x.block < W.heap.size := by obtain ⟨m, hm⟩ := k1; exact DataW.trod_lt m _ _ _ hm
  obtain ⟨c1_0, c1_1, c1_2, rfl, b1_0, b1_1, b1_2⟩ := AFr.open_raw (hval 1 28 v1 rfl rfl) h1
  have k2 := h2
  have lt2 : ∀ x ∈ p2, x.block < W.heap.size := by obtain ⟨m, hm⟩ := k2; exact DataW.trod_lt m _ _ _ hm
  obtain ⟨a2, cap2, l2, rfl, n2, w2⟩ := HFr.open_poly (hval 2 30 v2 rfl rfl) h2
  clear hA0 hval0
  simp only [List.append_nil] at hW'
  refine (walk c0_0 c0_1 c0_2 c0_3 c0_4 c0_5 c0_6 c0_7 c0_8 c0_9 c0_10 c0_11 c1_0 c1_1 c1_2 b1_0 b1_1 b1_2 a2 cap2 l2 n2 W w2 (tab_of_laid hL)).mono fun e W' ⟨he, bel⟩ => ?_
  subst he
  exact ⟨_, rfl, _, _, _, [], _, [], hW', trodAll_mk1 (shut_bool Tryz.underlying4 _), (trodAll_cons_mk (Below.trod HFr.laidOut (by kernel_rfl) (of_decide_eq_true (by kernel_rfl)) k0 bel lt0) (trodAll_cons_mk (Below.trod HFr.laidOut (by kernel_rfl) (of_decide_eq_true (by kernel_rfl)) k1 bel lt1) (trodAll_cons_mk (Below.trod HFr.laidOut (by kernel_rfl) (of_decide_eq_true (by kernel_rfl)) k2 bel lt2) trodAll_mk0))), rfl, bel.frame _, fun h => by cases h⟩

theorem holds : Rows.TopLinkBodiesSaid :=
  OpenClaim.holds_of_wide 3 Tryz.f3 rfl rfl rfl rfl rfl rfl rfl ⟨rfl, rfl, rfl, rfl, rfl⟩ rfl rfl rfl rfl rfl (by kernel_rfl) Tryz.func3 (by kernel_rfl)
    (of_decide_eq_true (by kernel_rfl)) (by unfold Func.isWrapper; first | (rw [if_pos (by decide +kernel)]; kernel_rfl) | (rw [if_neg (by decide +kernel)]; exact ⟨rfl, rfl⟩))
    (fun os started H enc _ => lifted os started H enc)

/-- THE STATEMENT: the tied card. -/
theorem card_holds : Rows.TopLinkBodiesCardSaid :=
  Claim7.holds_tied_plain_at .later [] [.data] true Rows.topLinkBodiesCard.stood.harness false
    holds (fun _ h => by cases h) (by kernel_rfl) (fun _ h => by cases h) topLinkBodies_row_tie rfl ⟨rfl, rfl⟩ (by kernel_rfl) rfl
    (fun f fn hf hfn => by
      obtain rfl : f = 3 := Option.some.inj ((show Tryz.prog.funcNamed Rows.topLinkBodiesRow.func = some 3 by kernel_rfl).symm.trans hf) |>.symm
      obtain rfl : fn = Tryz.f3 := (Option.some.inj (Tryz.func3.symm.trans hfn)).symm
      exact ⟨by kernel_rfl, fun j t ht => by
        rw [Tryz.params3] at ht
        have hm : t ∈ [27, 28, 30] := by have := Array.mem_of_getElem? ht; simp only [List.mem_toArray, List.mem_cons, List.not_mem_nil, or_false] at this ⊢; grind
        have hall : ([27, 28, 30].all fun u => !Tryz.prog.wantsStandIn u) = true := by kernel_rfl
        exact (show Tryz.prog.wantsStandIn t = false by simpa using List.all_eq_true.1 hall t hm)⟩)
    (by kernel_rfl)
#print axioms card_holds
end Go.Proofs.YtalhkcmlacppjaaGreatDoor.topLinkBodies

