/- For every step of one joint of a valid arm with the margin, links before the joint do not move, and the swept region of each other link is convex, the same for the step back, holds both bodies and meets what they meet.
Conditions: none on the arguments; the table of rotations lies as the program's text lays it (the card's tie). -/
import Derived.Test.YtalhkcmlacppjaaGreatDoorTie
import Derived.Test.YtalhkcmlacppjaaGreatDoorCards
import Derived.SevenTiedAt
import Derived.Test.YtalhkcmlacppjaaGreatDoorZsTzE
import Derived.Test.YtalhkcmlacppjaaGreatDoorZsTqH
import Derived.Test.YtalhkcmlacppjaaGreatDoorZsAmG
import Derived.Test.YtalhkcmlacppjaaGreatDoorZsAmU
import Derived.Test.YtalhkcmlacppjaaGreatDoorZsDirs
namespace Go.Proofs.YtalhkcmlacppjaaGreatDoor.topSweptStep
open Go.ChangeShapes Go.WideShapes Go.ChangeAt Go.RowKit
set_option linter.unusedVariables false
set_option linter.unusedSimpArgs false
set_option maxRecDepth 100000

def sweptS (S : List (Int × Int)) : StP := ⟨fun v w => ∃ a c, v = .tuple #[.slice a S.length c, .bool true] ∧ PRow w a S, fun _ _ _ ⟨a, c, h, p⟩ hb => ⟨a, c, h, prow_below p hb⟩⟩
theorem getD_mem4 {l : List (Int × Int)} {k : Nat} (h : k < l.length) : l.getD k (0, 0) ∈ l := by
  rw [List.getD_eq_getElem?_getD, List.getElem?_eq_getElem h]
  exact List.getElem_mem h
set_option maxHeartbeats 8000000 in
theorem walk (X Y n0 n1 n2 W l0 l1 l2 h0 h1 h2 : Int) (r0 r1 r2 : Int) (hr0 : 0 ≤ r0 ∧ r0 ≤ 255) (hr1 : 0 ≤ r1 ∧ r1 ≤ 255) (hr2 : 0 ≤ r2 ∧ r2 ≤ 255) (jj : Int) (wjj : (Lit.int .u8 jj).wf = true) (bk : Bool) (bo : Option Addr) (cb : Nat) (b : List (Int × Int)) (nb : b.length ≤ 9223372036854775807) (w : World) (hB : PRow w bo b) (hT : Tab w) :
    Calls Tryz.prog 4 #[.agg #[.int .i64 X, .int .i64 Y, .int .i64 n0, .int .i64 n1, .int .i64 n2, .int .i64 W, .int .i64 l0, .int .i64 l1, .int .i64 l2, .int .i64 h0, .int .i64 h1, .int .i64 h2], .agg #[.int .u8 r0, .int .u8 r1, .int .u8 r2], .int .u8 jj, .bool bk, .slice bo b.length cb] w fun e w' => e = .returned (.bool true) ∧ Below w.heap.size w w' := by
  have hjj := bounds_u8 wjj
  have B := Lib.hid (Below.refl w.heap.size w)
  have TT := Lib.hid hT
  clear hT
  have RB := Lib.hid hB
  clear hB
  go_enter Tryz.func4, Tryz.ntmps4
  go_wp2_with fail
  refine (head07_is _ (Tab.alloc (Tab.alloc TT.out (.cells #[.int .i64 X, .int .i64 Y, .int .i64 n0, .int .i64 n1, .int .i64 n2, .int .i64 W, .int .i64 l0, .int .i64 l1, .int .i64 l2, .int .i64 h0, .int .i64 h1, .int .i64 h2] 27)) (.cells #[.int .u8 r0, .int .u8 r1, .int .u8 r2] 28))).mono ?_
  rintro e w1 ⟨rfl, hb1⟩
  replace RB := Lib.hid (prow_below (prow_alloc (prow_alloc RB.out (.cells #[.int .i64 X, .int .i64 Y, .int .i64 n0, .int .i64 n1, .int .i64 n2, .int .i64 W, .int .i64 l0, .int .i64 l1, .int .i64 l2, .int .i64 h0, .int .i64 h1, .int .i64 h2] 27)) (.cells #[.int .u8 r0, .int .u8 r1, .int .u8 r2] 28)) hb1)
  have HA := Lib.hid (blk_call (blk_alloc (blk_new w (.cells #[.int .i64 X, .int .i64 Y, .int .i64 n0, .int .i64 n1, .int .i64 n2, .int .i64 W, .int .i64 l0, .int .i64 l1, .int .i64 l2, .int .i64 h0, .int .i64 h1, .int .i64 h2] 27) (w.heap.size) rfl) (.cells #[.int .u8 r0, .int .u8 r1, .int .u8 r2] 28)) hb1)
  have HW := Lib.hid (blk_call (blk_new (w.alloc (.cells #[.int .i64 X, .int .i64 Y, .int .i64 n0, .int .i64 n1, .int .i64 n2, .int .i64 W, .int .i64 l0, .int .i64 l1, .int .i64 l2, .int .i64 h0, .int .i64 h1, .int .i64 h2] 27)) (.cells #[.int .u8 r0, .int .u8 r1, .int .u8 r2] 28) (w.heap.size + 1) (by simp)) hb1)
  replace B := Lib.hid (belT (belA (belA B.out (.cells #[.int .i64 X, .int .i64 Y, .int .i64 n0, .int .i64 n1, .int .i64 n2, .int .i64 W, .int .i64 l0, .int .i64 l1, .int .i64 l2, .int .i64 h0, .int .i64 h1, .int .i64 h2] 27)) (.cells #[.int .u8 r0, .int .u8 r1, .int .u8 r2] 28)) hb1)
  replace TT := Lib.hid (Tab.below (Tab.alloc (Tab.alloc TT.out (.cells #[.int .i64 X, .int .i64 Y, .int .i64 n0, .int .i64 n1, .int .i64 n2, .int .i64 W, .int .i64 l0, .int .i64 l1, .int .i64 l2, .int .i64 h0, .int .i64 h1, .int .i64 h2] 27)) (.cells #[.int .u8 r0, .int .u8 r1, .int .u8 r2] 28)) hb1)
  clear hb1
  obtain ⟨t, ht⟩ : ∃ t, armB X Y n0 n1 n2 W l0 l1 l2 h0 h1 h2 = t := ⟨_, rfl⟩
  have HT := Lib.hid ht
  clear ht
  obtain ⟨tb, htb⟩ : ∃ t, validP b = t := ⟨_, rfl⟩
  have HTB := Lib.hid htb
  clear htb
  obtain ⟨tn, htn⟩ : ∃ t, nearB X Y n0 n1 n2 = t := ⟨_, rfl⟩
  have HTN := Lib.hid htn
  clear htn
  have c0 := blk_cell HA.out 0 _ rfl
  have c1 := blk_cell HA.out 1 _ rfl
  have c2 := blk_cell HA.out 2 _ rfl
  have c3 := blk_cell HA.out 3 _ rfl
  have c4 := blk_cell HA.out 4 _ rfl
  have c5 := blk_cell HA.out 5 _ rfl
  have c6 := blk_cell HA.out 6 _ rfl
  have c7 := blk_cell HA.out 7 _ rfl
  have c8 := blk_cell HA.out 8 _ rfl
  have c9 := blk_cell HA.out 9 _ rfl
  have c10 := blk_cell HA.out 10 _ rfl
  have c11 := blk_cell HA.out 11 _ rfl
  go_wp2_with fail
  refine (right7_is X Y n0 n1 n2 W l0 l1 l2 h0 h1 h2 t _ HT).mono ?_
  rintro e w2 ⟨rfl, hb2⟩
  clear c0 c1 c2 c3 c4 c5 c6 c7 c8 c9 c10 c11
  replace RB := Lib.hid (prow_below RB.out hb2)
  replace HA := Lib.hid (blk_call HA.out hb2)
  replace HW := Lib.hid (blk_call HW.out hb2)
  replace B := Lib.hid (belT B.out hb2)
  replace TT := Lib.hid (Tab.below TT.out hb2)
  clear hb2
  cases t
  · go_wp2_with fail
    go_ret
    exact ⟨rfl, B.out⟩
  go_wp2_with fail
  refine (right_is bo _ cb b tb _ rfl HTB nb RB.out).mono ?_
  rintro e w3 ⟨rfl, hb3⟩
  replace RB := Lib.hid (prow_below RB.out hb3)
  replace HA := Lib.hid (blk_call HA.out hb3)
  replace HW := Lib.hid (blk_call HW.out hb3)
  replace B := Lib.hid (belT B.out hb3)
  replace TT := Lib.hid (Tab.below TT.out hb3)
  clear hb3
  cases tb
  · go_wp2_with fail
    go_ret
    exact ⟨rfl, B.out⟩
  obtain ⟨b3', b12, bV⟩ := vparts HTB.out
  have VB := Lib.hid bV
  have GB := Lib.hid (ccw_valid HTB.out).good
  clear bV
  have c0 := blk_cell HA.out 0 _ rfl
  have c1 := blk_cell HA.out 1 _ rfl
  have c2 := blk_cell HA.out 2 _ rfl
  have c3 := blk_cell HA.out 3 _ rfl
  have c4 := blk_cell HA.out 4 _ rfl
  have c5 := blk_cell HA.out 5 _ rfl
  have c6 := blk_cell HA.out 6 _ rfl
  have c7 := blk_cell HA.out 7 _ rfl
  have c8 := blk_cell HA.out 8 _ rfl
  have c9 := blk_cell HA.out 9 _ rfl
  have c10 := blk_cell HA.out 10 _ rfl
  have c11 := blk_cell HA.out 11 _ rfl
  go_wp2_with fail
  refine (near_is X Y n0 n1 n2 W l0 l1 l2 h0 h1 h2 tn _ HTN (by have := (armB_iff X Y n0 n1 n2 W l0 l1 l2 h0 h1 h2).1 HT.out; omega) (by have := (armB_iff X Y n0 n1 n2 W l0 l1 l2 h0 h1 h2).1 HT.out; omega) (by have := (armB_iff X Y n0 n1 n2 W l0 l1 l2 h0 h1 h2).1 HT.out; omega) (by have := (armB_iff X Y n0 n1 n2 W l0 l1 l2 h0 h1 h2).1 HT.out; omega) (by have := (armB_iff X Y n0 n1 n2 W l0 l1 l2 h0 h1 h2).1 HT.out; omega)).mono ?_
  rintro e w4 ⟨rfl, hb4⟩
  clear c0 c1 c2 c3 c4 c5 c6 c7 c8 c9 c10 c11
  replace RB := Lib.hid (prow_below RB.out hb4)
  replace HA := Lib.hid (blk_call HA.out hb4)
  replace HW := Lib.hid (blk_call HW.out hb4)
  replace B := Lib.hid (belT B.out hb4)
  replace TT := Lib.hid (Tab.below TT.out hb4)
  clear hb4
  cases tn
  · go_wp2_with fail
    go_ret
    exact ⟨rfl, B.out⟩
  have JB0 := Lib.hid (jq_bd (l := l0) (h := h0) (by have := (armB_iff X Y n0 n1 n2 W l0 l1 l2 h0 h1 h2).1 HT.out; omega) hr0.1)
  have JB1 := Lib.hid (jq_bd (l := l1) (h := h1) (by have := (armB_iff X Y n0 n1 n2 W l0 l1 l2 h0 h1 h2).1 HT.out; omega) hr1.1)
  have JB2 := Lib.hid (jq_bd (l := l2) (h := h2) (by have := (armB_iff X Y n0 n1 n2 W l0 l1 l2 h0 h1 h2).1 HT.out; omega) hr2.1)
  obtain ⟨q0, hq0⟩ : ∃ q, jq l0 h0 r0 = q := ⟨_, rfl⟩
  rw [hq0] at JB0
  have k0 : -1000 ≤ q0 ∧ q0 ≤ 1000 := by have := (armB_iff X Y n0 n1 n2 W l0 l1 l2 h0 h1 h2).1 HT.out; have := JB0.out; omega
  replace hq0 := Lib.hid hq0
  obtain ⟨q1, hq1⟩ : ∃ q, jq l1 h1 r1 = q := ⟨_, rfl⟩
  rw [hq1] at JB1
  have k1 : -1000 ≤ q1 ∧ q1 ≤ 1000 := by have := (armB_iff X Y n0 n1 n2 W l0 l1 l2 h0 h1 h2).1 HT.out; have := JB1.out; omega
  replace hq1 := Lib.hid hq1
  obtain ⟨q2, hq2⟩ : ∃ q, jq l2 h2 r2 = q := ⟨_, rfl⟩
  rw [hq2] at JB2
  have k2 : -1000 ≤ q2 ∧ q2 ≤ 1000 := by have := (armB_iff X Y n0 n1 n2 W l0 l1 l2 h0 h1 h2).1 HT.out; have := JB2.out; omega
  replace hq2 := Lib.hid hq2
  have JQ : Hid (∀ w : World, Calls Tryz.prog 8 #[.agg #[.int .i64 X, .int .i64 Y, .int .i64 n0, .int .i64 n1, .int .i64 n2, .int .i64 W, .int .i64 l0, .int .i64 l1, .int .i64 l2, .int .i64 h0, .int .i64 h1, .int .i64 h2], .agg #[.int .u8 r0, .int .u8 r1, .int .u8 r2]] w fun e w' => e = .returned (.agg #[.int .i64 q0, .int .i64 q1, .int .i64 q2]) ∧ Below w.heap.size w w') := Lib.hid (fun w => by have := joint_is X Y n0 n1 n2 W l0 l1 l2 h0 h1 h2 r0 r1 r2 w HT hr0 hr1 hr2; rwa [hq0.out, hq1.out, hq2.out] at this)
  obtain ⟨x1, x2, x3, y1, y2, y3, u1, u2, u3, v1, v2, v3, a1, a2, a3, b1, b2, b3, PP⟩ := pose_ex X Y n0 n1 n2 q0 q1 q2
  replace PP := Lib.hid PP
  have FQ : Hid (fitB l0 l1 l2 h0 h1 h2 q0 q1 q2 = true) := Lib.hid (decide_eq_true (by have := JB0.out; have := JB1.out; have := JB2.out; omega))
  have CB : Hid ((l0 ≤ q0 ∧ q0 ≤ h0) ∧ (l1 ≤ q1 ∧ q1 ≤ h1) ∧ l2 ≤ q2 ∧ q2 ≤ h2) := Lib.hid ⟨JB0.out.2, JB1.out.2, JB2.out.2⟩
  have LM : Hid ((-17 ≤ l0 ∧ l0 ≤ h0 ∧ h0 ≤ 18) ∧ (-17 ≤ l1 ∧ l1 ≤ h1 ∧ h1 ≤ 18) ∧ -17 ≤ l2 ∧ l2 ≤ h2 ∧ h2 ≤ 18) := Lib.hid (by have := (armB_iff X Y n0 n1 n2 W l0 l1 l2 h0 h1 h2).1 HT.out; omega)
  have c0 := blk_cell HA.out 0 _ rfl
  have c1 := blk_cell HA.out 1 _ rfl
  have c2 := blk_cell HA.out 2 _ rfl
  have c3 := blk_cell HA.out 3 _ rfl
  have c4 := blk_cell HA.out 4 _ rfl
  have c5 := blk_cell HA.out 5 _ rfl
  have c6 := blk_cell HA.out 6 _ rfl
  have c7 := blk_cell HA.out 7 _ rfl
  have c8 := blk_cell HA.out 8 _ rfl
  have c9 := blk_cell HA.out 9 _ rfl
  have c10 := blk_cell HA.out 10 _ rfl
  have c11 := blk_cell HA.out 11 _ rfl
  have d0 := blk_cell HW.out 0 _ rfl
  have d1 := blk_cell HW.out 1 _ rfl
  have d2 := blk_cell HW.out 2 _ rfl
  go_wp2_with fail
  refine (JQ.out _).mono ?_
  rintro e w5 ⟨rfl, hb5⟩
  clear c0 c1 c2 c3 c4 c5 c6 c7 c8 c9 c10 c11 d0 d1 d2
  replace RB := Lib.hid (prow_below RB.out hb5)
  replace HA := Lib.hid (blk_call HA.out hb5)
  replace HW := Lib.hid (blk_call HW.out hb5)
  replace B := Lib.hid (belT B.out hb5)
  replace TT := Lib.hid (Tab.below TT.out hb5)
  clear hb5
  go_upto_region 5 with fail
  replace RB := Lib.hid (prow_alloc RB.out (.cells #[.int .i64 q0, .int .i64 q1, .int .i64 q2] 25))
  replace HA := Lib.hid (blk_alloc HA.out (.cells #[.int .i64 q0, .int .i64 q1, .int .i64 q2] 25))
  replace HW := Lib.hid (blk_alloc HW.out (.cells #[.int .i64 q0, .int .i64 q1, .int .i64 q2] 25))
  have HQ := Lib.hid (blk_new w5 (.cells #[.int .i64 q0, .int .i64 q1, .int .i64 q2] 25) (w5.heap.size) rfl)
  replace B := Lib.hid (belA B.out (.cells #[.int .i64 q0, .int .i64 q1, .int .i64 q2] 25))
  replace TT := Lib.hid (Tab.alloc TT.out (.cells #[.int .i64 q0, .int .i64 q1, .int .i64 q2] 25))
  generalize (w5.alloc (.cells #[.int .i64 q0, .int .i64 q1, .int .i64 q2] 25)) = W1 at *
  obtain ⟨j, hj⟩ : ∃ j, jj.tmod 3 = j := ⟨_, rfl⟩
  have jb : 0 ≤ j ∧ j ≤ 2 := by rw [← hj, Int.tmod_eq_emod_of_nonneg hjj.1]; omega
  have jc : j = 0 ∨ j = 1 ∨ j = 2 := by omega
  cases bk
  case' false =>
    obtain ⟨cj, Lm, Hm, p0, p1, p2, o, ol, oh, AT⟩ := atS_ex j 1 q0 q1 q2 l0 l1 l2 h0 h1 h2 jc
    replace AT := Lib.hid AT
    obtain ⟨tf, htf⟩ : ∃ t, fitB l0 l1 l2 h0 h1 h2 p0 p1 p2 = t := ⟨_, rfl⟩
    have FT := Lib.hid htf
    clear htf
  case' true =>
    obtain ⟨cj, Lm, Hm, p0, p1, p2, o, ol, oh, AT⟩ := atS_ex j (-1) q0 q1 q2 l0 l1 l2 h0 h1 h2 jc
    replace AT := Lib.hid AT
    obtain ⟨tf, htf⟩ : ∃ t, fitB l0 l1 l2 h0 h1 h2 p0 p1 p2 = t := ⟨_, rfl⟩
    have FT := Lib.hid htf
    clear htf
  all_goals
    have c0 := blk_cell HA.out 0 _ rfl
    have c1 := blk_cell HA.out 1 _ rfl
    have c2 := blk_cell HA.out 2 _ rfl
    have c3 := blk_cell HA.out 3 _ rfl
    have c4 := blk_cell HA.out 4 _ rfl
    have c5 := blk_cell HA.out 5 _ rfl
    have c6 := blk_cell HA.out 6 _ rfl
    have c7 := blk_cell HA.out 7 _ rfl
    have c8 := blk_cell HA.out 8 _ rfl
    have c9 := blk_cell HA.out 9 _ rfl
    have c10 := blk_cell HA.out 10 _ rfl
    have c11 := blk_cell HA.out 11 _ rfl
    have d0 := blk_cell HQ.out 0 _ rfl
    have d1 := blk_cell HQ.out 1 _ rfl
    have d2 := blk_cell HQ.out 2 _ rfl
    cases tf
    · skip
      go_wp2_with fail
      refine (atS_no AT.out CB.out LM.out (by omega) FT _).mono ?_
      rintro e w6 ⟨rfl, hb6⟩
      clear c0 c1 c2 c3 c4 c5 c6 c7 c8 c9 c10 c11 d0 d1 d2
      replace RB := Lib.hid (prow_below RB.out hb6)
      replace HA := Lib.hid (blk_call HA.out hb6)
      replace HW := Lib.hid (blk_call HW.out hb6)
      replace HQ := Lib.hid (blk_call HQ.out hb6)
      replace B := Lib.hid (belT B.out hb6)
      replace TT := Lib.hid (Tab.below TT.out hb6)
      clear hb6
      have c0 := blk_cell (blk_alloc HA.out (.cells #[.int .i64 0, .int .i64 0, .int .i64 0] 25)) 0 _ rfl
      have c1 := blk_cell (blk_alloc HA.out (.cells #[.int .i64 0, .int .i64 0, .int .i64 0] 25)) 1 _ rfl
      have c2 := blk_cell (blk_alloc HA.out (.cells #[.int .i64 0, .int .i64 0, .int .i64 0] 25)) 2 _ rfl
      have c3 := blk_cell (blk_alloc HA.out (.cells #[.int .i64 0, .int .i64 0, .int .i64 0] 25)) 3 _ rfl
      have c4 := blk_cell (blk_alloc HA.out (.cells #[.int .i64 0, .int .i64 0, .int .i64 0] 25)) 4 _ rfl
      have c5 := blk_cell (blk_alloc HA.out (.cells #[.int .i64 0, .int .i64 0, .int .i64 0] 25)) 5 _ rfl
      have c6 := blk_cell (blk_alloc HA.out (.cells #[.int .i64 0, .int .i64 0, .int .i64 0] 25)) 6 _ rfl
      have c7 := blk_cell (blk_alloc HA.out (.cells #[.int .i64 0, .int .i64 0, .int .i64 0] 25)) 7 _ rfl
      have c8 := blk_cell (blk_alloc HA.out (.cells #[.int .i64 0, .int .i64 0, .int .i64 0] 25)) 8 _ rfl
      have c9 := blk_cell (blk_alloc HA.out (.cells #[.int .i64 0, .int .i64 0, .int .i64 0] 25)) 9 _ rfl
      have c10 := blk_cell (blk_alloc HA.out (.cells #[.int .i64 0, .int .i64 0, .int .i64 0] 25)) 10 _ rfl
      have c11 := blk_cell (blk_alloc HA.out (.cells #[.int .i64 0, .int .i64 0, .int .i64 0] 25)) 11 _ rfl
      have d0 := blk_cell (blk_alloc HQ.out (.cells #[.int .i64 0, .int .i64 0, .int .i64 0] 25)) 0 _ rfl
      have d1 := blk_cell (blk_alloc HQ.out (.cells #[.int .i64 0, .int .i64 0, .int .i64 0] 25)) 1 _ rfl
      have d2 := blk_cell (blk_alloc HQ.out (.cells #[.int .i64 0, .int .i64 0, .int .i64 0] 25)) 2 _ rfl
      go_wp2_with fail
      refine (fits7_is X Y n0 n1 n2 W l0 l1 l2 h0 h1 h2 q0 q1 q2 true _ FQ).mono ?_
      rintro e w7 ⟨rfl, hb7⟩
      clear c0 c1 c2 c3 c4 c5 c6 c7 c8 c9 c10 c11 d0 d1 d2
      replace RB := Lib.hid (prow_below (prow_alloc RB.out (.cells #[.int .i64 0, .int .i64 0, .int .i64 0] 25)) hb7)
      replace HA := Lib.hid (blk_call (blk_alloc HA.out (.cells #[.int .i64 0, .int .i64 0, .int .i64 0] 25)) hb7)
      replace HW := Lib.hid (blk_call (blk_alloc HW.out (.cells #[.int .i64 0, .int .i64 0, .int .i64 0] 25)) hb7)
      replace HQ := Lib.hid (blk_call (blk_alloc HQ.out (.cells #[.int .i64 0, .int .i64 0, .int .i64 0] 25)) hb7)
      replace B := Lib.hid (belT (belA B.out (.cells #[.int .i64 0, .int .i64 0, .int .i64 0] 25)) hb7)
      replace TT := Lib.hid (Tab.below (Tab.alloc TT.out (.cells #[.int .i64 0, .int .i64 0, .int .i64 0] 25)) hb7)
      clear hb7
      go_wp2_with fail
      go_ret
      exact ⟨rfl, B.out⟩
    go_wp2_with fail
    refine (atS_yes AT.out CB.out LM.out (by omega) FT _).mono ?_
    rintro e w6 ⟨rfl, hb6⟩
    clear c0 c1 c2 c3 c4 c5 c6 c7 c8 c9 c10 c11 d0 d1 d2
    replace RB := Lib.hid (prow_below RB.out hb6)
    replace HA := Lib.hid (blk_call HA.out hb6)
    replace HW := Lib.hid (blk_call HW.out hb6)
    replace HQ := Lib.hid (blk_call HQ.out hb6)
    replace B := Lib.hid (belT B.out hb6)
    replace TT := Lib.hid (Tab.below TT.out hb6)
    clear hb6
    have c0 := blk_cell (blk_alloc HA.out (.cells #[.int .i64 p0, .int .i64 p1, .int .i64 p2] 25)) 0 _ rfl
    have c1 := blk_cell (blk_alloc HA.out (.cells #[.int .i64 p0, .int .i64 p1, .int .i64 p2] 25)) 1 _ rfl
    have c2 := blk_cell (blk_alloc HA.out (.cells #[.int .i64 p0, .int .i64 p1, .int .i64 p2] 25)) 2 _ rfl
    have c3 := blk_cell (blk_alloc HA.out (.cells #[.int .i64 p0, .int .i64 p1, .int .i64 p2] 25)) 3 _ rfl
    have c4 := blk_cell (blk_alloc HA.out (.cells #[.int .i64 p0, .int .i64 p1, .int .i64 p2] 25)) 4 _ rfl
    have c5 := blk_cell (blk_alloc HA.out (.cells #[.int .i64 p0, .int .i64 p1, .int .i64 p2] 25)) 5 _ rfl
    have c6 := blk_cell (blk_alloc HA.out (.cells #[.int .i64 p0, .int .i64 p1, .int .i64 p2] 25)) 6 _ rfl
    have c7 := blk_cell (blk_alloc HA.out (.cells #[.int .i64 p0, .int .i64 p1, .int .i64 p2] 25)) 7 _ rfl
    have c8 := blk_cell (blk_alloc HA.out (.cells #[.int .i64 p0, .int .i64 p1, .int .i64 p2] 25)) 8 _ rfl
    have c9 := blk_cell (blk_alloc HA.out (.cells #[.int .i64 p0, .int .i64 p1, .int .i64 p2] 25)) 9 _ rfl
    have c10 := blk_cell (blk_alloc HA.out (.cells #[.int .i64 p0, .int .i64 p1, .int .i64 p2] 25)) 10 _ rfl
    have c11 := blk_cell (blk_alloc HA.out (.cells #[.int .i64 p0, .int .i64 p1, .int .i64 p2] 25)) 11 _ rfl
    have d0 := blk_cell (blk_alloc HQ.out (.cells #[.int .i64 p0, .int .i64 p1, .int .i64 p2] 25)) 0 _ rfl
    have d1 := blk_cell (blk_alloc HQ.out (.cells #[.int .i64 p0, .int .i64 p1, .int .i64 p2] 25)) 1 _ rfl
    have d2 := blk_cell (blk_alloc HQ.out (.cells #[.int .i64 p0, .int .i64 p1, .int .i64 p2] 25)) 2 _ rfl
    go_wp2_with fail
    refine (fits7_is X Y n0 n1 n2 W l0 l1 l2 h0 h1 h2 q0 q1 q2 true _ FQ).mono ?_
    rintro e w7 ⟨rfl, hb7⟩
    clear c0 c1 c2 c3 c4 c5 c6 c7 c8 c9 c10 c11 d0 d1 d2
    replace RB := Lib.hid (prow_below (prow_alloc RB.out (.cells #[.int .i64 p0, .int .i64 p1, .int .i64 p2] 25)) hb7)
    replace HA := Lib.hid (blk_call (blk_alloc HA.out (.cells #[.int .i64 p0, .int .i64 p1, .int .i64 p2] 25)) hb7)
    replace HW := Lib.hid (blk_call (blk_alloc HW.out (.cells #[.int .i64 p0, .int .i64 p1, .int .i64 p2] 25)) hb7)
    replace HQ := Lib.hid (blk_call (blk_alloc HQ.out (.cells #[.int .i64 p0, .int .i64 p1, .int .i64 p2] 25)) hb7)
    have HN := Lib.hid (blk_call (blk_new w6 (.cells #[.int .i64 p0, .int .i64 p1, .int .i64 p2] 25) (w6.heap.size) rfl) hb7)
    replace B := Lib.hid (belT (belA B.out (.cells #[.int .i64 p0, .int .i64 p1, .int .i64 p2] 25)) hb7)
    replace TT := Lib.hid (Tab.below (Tab.alloc TT.out (.cells #[.int .i64 p0, .int .i64 p1, .int .i64 p2] 25)) hb7)
    clear hb7
    have kp : (-1000 ≤ p0 ∧ p0 ≤ 1000) ∧ (-1000 ≤ p1 ∧ p1 ≤ 1000) ∧ -1000 ≤ p2 ∧ p2 ≤ 1000 := by have := of_decide_eq_true FT.out; have := LM.out; omega
    obtain ⟨x1p, x2p, x3p, y1p, y2p, y3p, u1p, u2p, u3p, v1p, v2p, v3p, a1p, a2p, a3p, b1p, b2p, b3p, PN⟩ := pose_ex X Y n0 n1 n2 p0 p1 p2
    obtain ⟨o1, o2, oj, AJ, ov1, ov2, sw0, sw1, sw2⟩ := swept_all PP.out PN AT.out HT.out HTN.out
    have G4 := pose_links PP.out HT.out
    have N4 := pose_links PN HT.out
    replace PN := Lib.hid PN
    obtain ⟨L0, hL0⟩ : ∃ L, bodL X Y a1 b1 (W * u1) (W * v1) = L := ⟨_, rfl⟩
    obtain ⟨M0, hM0⟩ : ∃ L, bodL X Y a1p b1p (W * u1p) (W * v1p) = L := ⟨_, rfl⟩
    rw [hL0] at G4 sw0
    rw [hM0] at N4 sw0
    replace hL0 := Lib.hid hL0
    replace hM0 := Lib.hid hM0
    obtain ⟨L1, hL1⟩ : ∃ L, bodL a1 b1 a2 b2 (W * u2) (W * v2) = L := ⟨_, rfl⟩
    obtain ⟨M1, hM1⟩ : ∃ L, bodL a1p b1p a2p b2p (W * u2p) (W * v2p) = L := ⟨_, rfl⟩
    rw [hL1] at G4 sw1
    rw [hM1] at N4 sw1
    replace hL1 := Lib.hid hL1
    replace hM1 := Lib.hid hM1
    obtain ⟨L2, hL2⟩ : ∃ L, bodL a2 b2 a3 b3 (W * u3) (W * v3) = L := ⟨_, rfl⟩
    obtain ⟨M2, hM2⟩ : ∃ L, bodL a2p b2p a3p b3p (W * u3p) (W * v3p) = L := ⟨_, rfl⟩
    rw [hL2] at G4 sw2
    rw [hM2] at N4 sw2
    replace hL2 := Lib.hid hL2
    replace hM2 := Lib.hid hM2
    have Q0 : Hid (Both4 o1 o2 j 0 L0 M0) := Lib.hid ⟨sw0.1, sw0.2, G4.1, N4.1⟩
    clear sw0
    have Q1 : Hid (Both4 o1 o2 j 1 L1 M1) := Lib.hid ⟨sw1.1, sw1.2, G4.2.1, N4.2.1⟩
    clear sw1
    have Q2 : Hid (Both4 o1 o2 j 2 L2 M2) := Lib.hid ⟨sw2.1, sw2.2, G4.2.2, N4.2.2⟩
    clear sw2
    clear G4 N4
    replace AJ := Lib.hid AJ
    have OV := Lib.hid (And.intro ov1 ov2)
    clear ov1 ov2
    have c0 := blk_cell HA.out 0 _ rfl
    have c1 := blk_cell HA.out 1 _ rfl
    have c2 := blk_cell HA.out 2 _ rfl
    have c3 := blk_cell HA.out 3 _ rfl
    have c4 := blk_cell HA.out 4 _ rfl
    have c5 := blk_cell HA.out 5 _ rfl
    have c6 := blk_cell HA.out 6 _ rfl
    have c7 := blk_cell HA.out 7 _ rfl
    have c8 := blk_cell HA.out 8 _ rfl
    have c9 := blk_cell HA.out 9 _ rfl
    have c10 := blk_cell HA.out 10 _ rfl
    have c11 := blk_cell HA.out 11 _ rfl
    have d0 := blk_cell HQ.out 0 _ rfl
    have d1 := blk_cell HQ.out 1 _ rfl
    have d2 := blk_cell HQ.out 2 _ rfl
    go_wp2_with fail
    refine (links_is X Y n0 n1 n2 W l0 l1 l2 h0 h1 h2 q0 q1 q2 x1 x2 x3 y1 y2 y3 u1 u2 u3 v1 v2 v3 a1 a2 a3 b1 b2 b3 L0 L1 L2 _ TT.out k0 k1 k2 HT PP hL0 hL1 hL2).mono ?_
    rintro e w8 ⟨⟨g0, g1, g2, rfl, r0, r1, r2⟩, hb8⟩
    clear c0 c1 c2 c3 c4 c5 c6 c7 c8 c9 c10 c11 d0 d1 d2
    replace RB := Lib.hid (prow_below RB.out hb8)
    replace HA := Lib.hid (blk_call HA.out hb8)
    replace HW := Lib.hid (blk_call HW.out hb8)
    replace HQ := Lib.hid (blk_call HQ.out hb8)
    replace HN := Lib.hid (blk_call HN.out hb8)
    replace B := Lib.hid (belT B.out hb8)
    replace TT := Lib.hid (Tab.below TT.out hb8)
    clear hb8
    have R0 := Lib.hid r0
    have R1 := Lib.hid r1
    have R2 := Lib.hid r2
    clear r0 r1 r2
    go_upto_region 13 with fail
    replace RB := Lib.hid (prow_alloc RB.out (.cells #[.slice (some ⟨g0, 0, none⟩) 4 4, .slice (some ⟨g1, 0, none⟩) 4 4, .slice (some ⟨g2, 0, none⟩) 4 4] 36))
    replace HA := Lib.hid (blk_alloc HA.out (.cells #[.slice (some ⟨g0, 0, none⟩) 4 4, .slice (some ⟨g1, 0, none⟩) 4 4, .slice (some ⟨g2, 0, none⟩) 4 4] 36))
    replace HW := Lib.hid (blk_alloc HW.out (.cells #[.slice (some ⟨g0, 0, none⟩) 4 4, .slice (some ⟨g1, 0, none⟩) 4 4, .slice (some ⟨g2, 0, none⟩) 4 4] 36))
    replace HQ := Lib.hid (blk_alloc HQ.out (.cells #[.slice (some ⟨g0, 0, none⟩) 4 4, .slice (some ⟨g1, 0, none⟩) 4 4, .slice (some ⟨g2, 0, none⟩) 4 4] 36))
    replace HN := Lib.hid (blk_alloc HN.out (.cells #[.slice (some ⟨g0, 0, none⟩) 4 4, .slice (some ⟨g1, 0, none⟩) 4 4, .slice (some ⟨g2, 0, none⟩) 4 4] 36))
    replace R0 := Lib.hid (prow_alloc R0.out (.cells #[.slice (some ⟨g0, 0, none⟩) 4 4, .slice (some ⟨g1, 0, none⟩) 4 4, .slice (some ⟨g2, 0, none⟩) 4 4] 36))
    replace R1 := Lib.hid (prow_alloc R1.out (.cells #[.slice (some ⟨g0, 0, none⟩) 4 4, .slice (some ⟨g1, 0, none⟩) 4 4, .slice (some ⟨g2, 0, none⟩) 4 4] 36))
    replace R2 := Lib.hid (prow_alloc R2.out (.cells #[.slice (some ⟨g0, 0, none⟩) 4 4, .slice (some ⟨g1, 0, none⟩) 4 4, .slice (some ⟨g2, 0, none⟩) 4 4] 36))
    have H17 := Lib.hid (blk_new w8 (.cells #[.slice (some ⟨g0, 0, none⟩) 4 4, .slice (some ⟨g1, 0, none⟩) 4 4, .slice (some ⟨g2, 0, none⟩) 4 4] 36) (w8.heap.size) rfl)
    replace B := Lib.hid (belA B.out (.cells #[.slice (some ⟨g0, 0, none⟩) 4 4, .slice (some ⟨g1, 0, none⟩) 4 4, .slice (some ⟨g2, 0, none⟩) 4 4] 36))
    replace TT := Lib.hid (Tab.alloc TT.out (.cells #[.slice (some ⟨g0, 0, none⟩) 4 4, .slice (some ⟨g1, 0, none⟩) 4 4, .slice (some ⟨g2, 0, none⟩) 4 4] 36))
    generalize (w8.alloc (.cells #[.slice (some ⟨g0, 0, none⟩) 4 4, .slice (some ⟨g1, 0, none⟩) 4 4, .slice (some ⟨g2, 0, none⟩) 4 4] 36)) = W2 at *
    obtain ⟨b17, hb17⟩ : ∃ z, w8.heap.size = z := ⟨_, rfl⟩
    rw [hb17] at H17 ⊢
    clear hb17
    have c0 := blk_cell HA.out 0 _ rfl
    have c1 := blk_cell HA.out 1 _ rfl
    have c2 := blk_cell HA.out 2 _ rfl
    have c3 := blk_cell HA.out 3 _ rfl
    have c4 := blk_cell HA.out 4 _ rfl
    have c5 := blk_cell HA.out 5 _ rfl
    have c6 := blk_cell HA.out 6 _ rfl
    have c7 := blk_cell HA.out 7 _ rfl
    have c8 := blk_cell HA.out 8 _ rfl
    have c9 := blk_cell HA.out 9 _ rfl
    have c10 := blk_cell HA.out 10 _ rfl
    have c11 := blk_cell HA.out 11 _ rfl
    have d0 := blk_cell HN.out 0 _ rfl
    have d1 := blk_cell HN.out 1 _ rfl
    have d2 := blk_cell HN.out 2 _ rfl
    go_wp2_with fail
    refine (links_is X Y n0 n1 n2 W l0 l1 l2 h0 h1 h2 p0 p1 p2 x1p x2p x3p y1p y2p y3p u1p u2p u3p v1p v2p v3p a1p a2p a3p b1p b2p b3p M0 M1 M2 _ TT.out kp.1 kp.2.1 kp.2.2 HT PN hM0 hM1 hM2).mono ?_
    rintro e w9 ⟨⟨m0, m1, m2, rfl, r0, r1, r2⟩, hb9⟩
    clear c0 c1 c2 c3 c4 c5 c6 c7 c8 c9 c10 c11 d0 d1 d2
    replace RB := Lib.hid (prow_below RB.out hb9)
    replace HA := Lib.hid (blk_call HA.out hb9)
    replace HW := Lib.hid (blk_call HW.out hb9)
    replace HQ := Lib.hid (blk_call HQ.out hb9)
    replace HN := Lib.hid (blk_call HN.out hb9)
    replace R0 := Lib.hid (prow_below R0.out hb9)
    replace R1 := Lib.hid (prow_below R1.out hb9)
    replace R2 := Lib.hid (prow_below R2.out hb9)
    replace H17 := Lib.hid (blk_call H17.out hb9)
    replace B := Lib.hid (belT B.out hb9)
    replace TT := Lib.hid (Tab.below TT.out hb9)
    clear hb9
    have N0 := Lib.hid r0
    have N1 := Lib.hid r1
    have N2 := Lib.hid r2
    clear r0 r1 r2
    go_upto_region 14 with fail
    replace RB := Lib.hid (prow_alloc RB.out (.cells #[.slice (some ⟨m0, 0, none⟩) 4 4, .slice (some ⟨m1, 0, none⟩) 4 4, .slice (some ⟨m2, 0, none⟩) 4 4] 36))
    replace HA := Lib.hid (blk_alloc HA.out (.cells #[.slice (some ⟨m0, 0, none⟩) 4 4, .slice (some ⟨m1, 0, none⟩) 4 4, .slice (some ⟨m2, 0, none⟩) 4 4] 36))
    replace HW := Lib.hid (blk_alloc HW.out (.cells #[.slice (some ⟨m0, 0, none⟩) 4 4, .slice (some ⟨m1, 0, none⟩) 4 4, .slice (some ⟨m2, 0, none⟩) 4 4] 36))
    replace HQ := Lib.hid (blk_alloc HQ.out (.cells #[.slice (some ⟨m0, 0, none⟩) 4 4, .slice (some ⟨m1, 0, none⟩) 4 4, .slice (some ⟨m2, 0, none⟩) 4 4] 36))
    replace HN := Lib.hid (blk_alloc HN.out (.cells #[.slice (some ⟨m0, 0, none⟩) 4 4, .slice (some ⟨m1, 0, none⟩) 4 4, .slice (some ⟨m2, 0, none⟩) 4 4] 36))
    replace R0 := Lib.hid (prow_alloc R0.out (.cells #[.slice (some ⟨m0, 0, none⟩) 4 4, .slice (some ⟨m1, 0, none⟩) 4 4, .slice (some ⟨m2, 0, none⟩) 4 4] 36))
    replace R1 := Lib.hid (prow_alloc R1.out (.cells #[.slice (some ⟨m0, 0, none⟩) 4 4, .slice (some ⟨m1, 0, none⟩) 4 4, .slice (some ⟨m2, 0, none⟩) 4 4] 36))
    replace R2 := Lib.hid (prow_alloc R2.out (.cells #[.slice (some ⟨m0, 0, none⟩) 4 4, .slice (some ⟨m1, 0, none⟩) 4 4, .slice (some ⟨m2, 0, none⟩) 4 4] 36))
    replace H17 := Lib.hid (blk_alloc H17.out (.cells #[.slice (some ⟨m0, 0, none⟩) 4 4, .slice (some ⟨m1, 0, none⟩) 4 4, .slice (some ⟨m2, 0, none⟩) 4 4] 36))
    replace N0 := Lib.hid (prow_alloc N0.out (.cells #[.slice (some ⟨m0, 0, none⟩) 4 4, .slice (some ⟨m1, 0, none⟩) 4 4, .slice (some ⟨m2, 0, none⟩) 4 4] 36))
    replace N1 := Lib.hid (prow_alloc N1.out (.cells #[.slice (some ⟨m0, 0, none⟩) 4 4, .slice (some ⟨m1, 0, none⟩) 4 4, .slice (some ⟨m2, 0, none⟩) 4 4] 36))
    replace N2 := Lib.hid (prow_alloc N2.out (.cells #[.slice (some ⟨m0, 0, none⟩) 4 4, .slice (some ⟨m1, 0, none⟩) 4 4, .slice (some ⟨m2, 0, none⟩) 4 4] 36))
    have H18 := Lib.hid (blk_new w9 (.cells #[.slice (some ⟨m0, 0, none⟩) 4 4, .slice (some ⟨m1, 0, none⟩) 4 4, .slice (some ⟨m2, 0, none⟩) 4 4] 36) (w9.heap.size) rfl)
    replace B := Lib.hid (belA B.out (.cells #[.slice (some ⟨m0, 0, none⟩) 4 4, .slice (some ⟨m1, 0, none⟩) 4 4, .slice (some ⟨m2, 0, none⟩) 4 4] 36))
    replace TT := Lib.hid (Tab.alloc TT.out (.cells #[.slice (some ⟨m0, 0, none⟩) 4 4, .slice (some ⟨m1, 0, none⟩) 4 4, .slice (some ⟨m2, 0, none⟩) 4 4] 36))
    generalize (w9.alloc (.cells #[.slice (some ⟨m0, 0, none⟩) 4 4, .slice (some ⟨m1, 0, none⟩) 4 4, .slice (some ⟨m2, 0, none⟩) 4 4] 36)) = W3 at *
    obtain ⟨b18, hb18⟩ : ∃ z, w9.heap.size = z := ⟨_, rfl⟩
    rw [hb18] at H18 ⊢
    clear hb18
    have c0 := blk_cell HA.out 0 _ rfl
    have c1 := blk_cell HA.out 1 _ rfl
    have c2 := blk_cell HA.out 2 _ rfl
    have c3 := blk_cell HA.out 3 _ rfl
    have c4 := blk_cell HA.out 4 _ rfl
    have c5 := blk_cell HA.out 5 _ rfl
    have c6 := blk_cell HA.out 6 _ rfl
    have c7 := blk_cell HA.out 7 _ rfl
    have c8 := blk_cell HA.out 8 _ rfl
    have c9 := blk_cell HA.out 9 _ rfl
    have c10 := blk_cell HA.out 10 _ rfl
    have c11 := blk_cell HA.out 11 _ rfl
    have d0 := blk_cell HQ.out 0 _ rfl
    have d1 := blk_cell HQ.out 1 _ rfl
    have d2 := blk_cell HQ.out 2 _ rfl
    go_wp2_with fail
    refine (jpts_is X Y n0 n1 n2 W l0 l1 l2 h0 h1 h2 q0 q1 q2 x1 x2 x3 y1 y2 y3 u1 u2 u3 v1 v2 v3 a1 a2 a3 b1 b2 b3 _ TT.out k0 k1 k2 HT PP).mono ?_
    rintro e w10 ⟨rfl, hb10⟩
    clear c0 c1 c2 c3 c4 c5 c6 c7 c8 c9 c10 c11 d0 d1 d2
    replace RB := Lib.hid (prow_below RB.out hb10)
    replace HA := Lib.hid (blk_call HA.out hb10)
    replace HW := Lib.hid (blk_call HW.out hb10)
    replace HQ := Lib.hid (blk_call HQ.out hb10)
    replace HN := Lib.hid (blk_call HN.out hb10)
    replace R0 := Lib.hid (prow_below R0.out hb10)
    replace R1 := Lib.hid (prow_below R1.out hb10)
    replace R2 := Lib.hid (prow_below R2.out hb10)
    replace H17 := Lib.hid (blk_call H17.out hb10)
    replace N0 := Lib.hid (prow_below N0.out hb10)
    replace N1 := Lib.hid (prow_below N1.out hb10)
    replace N2 := Lib.hid (prow_below N2.out hb10)
    replace H18 := Lib.hid (blk_call H18.out hb10)
    replace B := Lib.hid (belT B.out hb10)
    replace TT := Lib.hid (Tab.below TT.out hb10)
    clear hb10
    go_upto_region 15 with fail
    replace RB := Lib.hid (prow_alloc RB.out (.cells #[.int .i64 X, .int .i64 Y, .int .i64 a1, .int .i64 b1, .int .i64 a2, .int .i64 b2, .int .i64 a3, .int .i64 b3] 38))
    replace HA := Lib.hid (blk_alloc HA.out (.cells #[.int .i64 X, .int .i64 Y, .int .i64 a1, .int .i64 b1, .int .i64 a2, .int .i64 b2, .int .i64 a3, .int .i64 b3] 38))
    replace HW := Lib.hid (blk_alloc HW.out (.cells #[.int .i64 X, .int .i64 Y, .int .i64 a1, .int .i64 b1, .int .i64 a2, .int .i64 b2, .int .i64 a3, .int .i64 b3] 38))
    replace HQ := Lib.hid (blk_alloc HQ.out (.cells #[.int .i64 X, .int .i64 Y, .int .i64 a1, .int .i64 b1, .int .i64 a2, .int .i64 b2, .int .i64 a3, .int .i64 b3] 38))
    replace HN := Lib.hid (blk_alloc HN.out (.cells #[.int .i64 X, .int .i64 Y, .int .i64 a1, .int .i64 b1, .int .i64 a2, .int .i64 b2, .int .i64 a3, .int .i64 b3] 38))
    replace R0 := Lib.hid (prow_alloc R0.out (.cells #[.int .i64 X, .int .i64 Y, .int .i64 a1, .int .i64 b1, .int .i64 a2, .int .i64 b2, .int .i64 a3, .int .i64 b3] 38))
    replace R1 := Lib.hid (prow_alloc R1.out (.cells #[.int .i64 X, .int .i64 Y, .int .i64 a1, .int .i64 b1, .int .i64 a2, .int .i64 b2, .int .i64 a3, .int .i64 b3] 38))
    replace R2 := Lib.hid (prow_alloc R2.out (.cells #[.int .i64 X, .int .i64 Y, .int .i64 a1, .int .i64 b1, .int .i64 a2, .int .i64 b2, .int .i64 a3, .int .i64 b3] 38))
    replace H17 := Lib.hid (blk_alloc H17.out (.cells #[.int .i64 X, .int .i64 Y, .int .i64 a1, .int .i64 b1, .int .i64 a2, .int .i64 b2, .int .i64 a3, .int .i64 b3] 38))
    replace N0 := Lib.hid (prow_alloc N0.out (.cells #[.int .i64 X, .int .i64 Y, .int .i64 a1, .int .i64 b1, .int .i64 a2, .int .i64 b2, .int .i64 a3, .int .i64 b3] 38))
    replace N1 := Lib.hid (prow_alloc N1.out (.cells #[.int .i64 X, .int .i64 Y, .int .i64 a1, .int .i64 b1, .int .i64 a2, .int .i64 b2, .int .i64 a3, .int .i64 b3] 38))
    replace N2 := Lib.hid (prow_alloc N2.out (.cells #[.int .i64 X, .int .i64 Y, .int .i64 a1, .int .i64 b1, .int .i64 a2, .int .i64 b2, .int .i64 a3, .int .i64 b3] 38))
    replace H18 := Lib.hid (blk_alloc H18.out (.cells #[.int .i64 X, .int .i64 Y, .int .i64 a1, .int .i64 b1, .int .i64 a2, .int .i64 b2, .int .i64 a3, .int .i64 b3] 38))
    have H19 := Lib.hid (blk_new w10 (.cells #[.int .i64 X, .int .i64 Y, .int .i64 a1, .int .i64 b1, .int .i64 a2, .int .i64 b2, .int .i64 a3, .int .i64 b3] 38) (w10.heap.size) rfl)
    replace B := Lib.hid (belA B.out (.cells #[.int .i64 X, .int .i64 Y, .int .i64 a1, .int .i64 b1, .int .i64 a2, .int .i64 b2, .int .i64 a3, .int .i64 b3] 38))
    replace TT := Lib.hid (Tab.alloc TT.out (.cells #[.int .i64 X, .int .i64 Y, .int .i64 a1, .int .i64 b1, .int .i64 a2, .int .i64 b2, .int .i64 a3, .int .i64 b3] 38))
    generalize (w10.alloc (.cells #[.int .i64 X, .int .i64 Y, .int .i64 a1, .int .i64 b1, .int .i64 a2, .int .i64 b2, .int .i64 a3, .int .i64 b3] 38)) = W4 at *
    obtain ⟨b19, hb19⟩ : ∃ z, w10.heap.size = z := ⟨_, rfl⟩
    rw [hb19] at H19 ⊢
    clear hb19
    clear HQ HN HW HA TT JQ PP PN AT FT FQ CB LM hL0 hL1 hL2 hM0 hM1 hM2 HT HTN HTB hj
    go_wp2_with fail
    go_loopw [20] (fun v wr => Below W4.heap.size W4 wr ∧ ∃ i : Int, v = .int .i64 i ∧ 0 ≤ i ∧ i ≤ 3) (fun v _ => 3 - (intOf v).toNat)
    case atStart => exact ⟨Below.refl _ _, 0, rfl, by omega, by omega⟩
    case round =>
      obtain ⟨hZ, i, rfl, i0, i3⟩ := hrel
      have BZ := Lib.hid hZ
      clear hZ
      by_cases hi3 : i = 3
      · subst hi3
        go_wp2_with fail
        go_ret
        exact ⟨rfl, belT B.out BZ.out⟩
      have hlt : i < 3 := by omega
      obtain ⟨oi, g, m, L, M, AI⟩ := atI_ex i g0 g1 g2 m0 m1 m2 L0 L1 L2 M0 M1 M2 ⟨i0, hlt⟩
      have IX := atI_addr AI
      have JX := atJ_addr AJ.out
      have QQ : Both4 o1 o2 j i L M := atI_all AI (Q := fun i _ _ L M => Both4 o1 o2 j i L M) Q0.out Q1.out Q2.out
      have RL : Hid (PRow W4 (some ⟨g, 0, none⟩) L) := Lib.hid (atI_all AI (Q := fun _ g _ L _ => PRow W4 (some ⟨g, 0, none⟩) L) R0.out R1.out R2.out)
      have RM : Hid (PRow W4 (some ⟨m, 0, none⟩) M) := Lib.hid (atI_all AI (Q := fun _ _ m _ M => PRow W4 (some ⟨m, 0, none⟩) M) N0.out N1.out N2.out)
      obtain ⟨q1', q2', ⟨cL, -, vL, nL⟩, cM, -, vM, nM⟩ := QQ
      replace AI := Lib.hid AI
      have VL := Lib.hid vL
      have VM := Lib.hid vM
      have NL := Lib.hid nL
      have NM := Lib.hid nM
      by_cases hij : i < j
      · skip
        have EQ : Hid (decide (L = M) = true) := Lib.hid (decide_eq_true (q1' hij).symm)
        clear q1' q2' cL cM vL vM nL nM
        go_wp2_with fail
        obtain ⟨sp, hsp⟩ : ∃ sp : ToldS, sp = [none, none, none, none, none, none, none, none, none, none, none, none, none, none, none, none, none, none, none, none, none, none, none, none, none, none, none, none, none, none, none, none, none, none, none, none, none, none, none, none, none, none, none, none, none, none, none, none, none, none, none, none, none, none, none, none, none, none, none, none, none, none, none, none, none, none, none, none, none, none, none, none, none, none, none, none, none, none, none, none, none, some (eqS (.int .i64 i)), some (eqS (.pointer (some ⟨b17, oi, none⟩))), some (eqS (.slice (some ⟨g, 0, none⟩) 4 4)), some (eqS (.int .i64 i)), some (eqS (.pointer (some ⟨b18, oi, none⟩))), some (eqS (.slice (some ⟨m, 0, none⟩) 4 4)), some (eqS (.bool true)), some (eqS (.bool false))] := ⟨_, rfl⟩
        have s81 : sp.getD 81 none = some (eqS (.int .i64 i)) := by rw [hsp]; rfl
        have s82 : sp.getD 82 none = some (eqS (.pointer (some ⟨b17, oi, none⟩))) := by rw [hsp]; rfl
        have s83 : sp.getD 83 none = some (eqS (.slice (some ⟨g, 0, none⟩) 4 4)) := by rw [hsp]; rfl
        have s84 : sp.getD 84 none = some (eqS (.int .i64 i)) := by rw [hsp]; rfl
        have s85 : sp.getD 85 none = some (eqS (.pointer (some ⟨b18, oi, none⟩))) := by rw [hsp]; rfl
        have s86 : sp.getD 86 none = some (eqS (.slice (some ⟨m, 0, none⟩) 4 4)) := by rw [hsp]; rfl
        have s87 : sp.getD 87 none = some (eqS (.bool true)) := by rw [hsp]; rfl
        have s88 : sp.getD 88 none = some (eqS (.bool false)) := by rw [hsp]; rfl
        clear hsp
        refine (wpIn_wide (n := 0)).1 (region_allR (RtS sp) (rtS_keep sp) rfl rfl rfl (by kernel_rfl) (by kernel_rfl) (by kernel_rfl) ?_ ?_)
        · intro Q'
          refine obsR_cons ?_ ?_
          · intro T wx K hB hF hD hK
            have g20 : T[20]? = some (.int .i64 i) := hF 20 (freeM_of (by kernel_rfl))
            refine ob_yes (wanted_none rfl) ?_
            clear hF hD
            go_simp
            exact hK _ _ (Below.refl _ _) (rt_eqS s81)
          refine obsR_cons ?_ ?_
          · intro T wx K hB hF hD hK
            have g17 : T[17]? = some (.pointer (some ⟨b17, 0, none⟩)) := hF 17 (freeM_of (by kernel_rfl))
            have g81 := get_eqS (hD 0 81 (by simp [Region.binds]) (by kernel_rfl)) s81
            refine ob_yes (wanted_none rfl) ?_
            clear hF hD
            go_simp
            exact hK _ _ (Below.refl _ _) (rt_eqS s82)
          refine obsR_cons ?_ ?_
          · intro T wx K hB hF hD hK
            have g82 := get_eqS (hD 1 82 (by simp [Region.binds]) (by kernel_rfl)) s82
            refine ob_yes (wanted_none rfl) ?_
            clear hF hD
            have c0 := atI_g AI.out (blk_call H17.out (belT BZ.out hB))
            go_simp
            exact hK _ _ (Below.refl _ _) (rt_eqS s83)
          refine obsR_cons ?_ ?_
          · intro T wx K hB hF hD hK
            have g20 : T[20]? = some (.int .i64 i) := hF 20 (freeM_of (by kernel_rfl))
            refine ob_yes (wanted_none rfl) ?_
            clear hF hD
            go_simp
            exact hK _ _ (Below.refl _ _) (rt_eqS s84)
          refine obsR_cons ?_ ?_
          · intro T wx K hB hF hD hK
            have g18 : T[18]? = some (.pointer (some ⟨b18, 0, none⟩)) := hF 18 (freeM_of (by kernel_rfl))
            have g84 := get_eqS (hD 3 84 (by simp [Region.binds]) (by kernel_rfl)) s84
            refine ob_yes (wanted_none rfl) ?_
            clear hF hD
            go_simp
            exact hK _ _ (Below.refl _ _) (rt_eqS s85)
          refine obsR_cons ?_ ?_
          · intro T wx K hB hF hD hK
            have g85 := get_eqS (hD 4 85 (by simp [Region.binds]) (by kernel_rfl)) s85
            refine ob_yes (wanted_none rfl) ?_
            clear hF hD
            have c0 := atI_m AI.out (blk_call H18.out (belT BZ.out hB))
            go_simp
            exact hK _ _ (Below.refl _ _) (rt_eqS s86)
          refine obsR_cons ?_ ?_
          · intro T wx K hB hF hD hK
            have g83 := get_eqS (hD 2 83 (by simp [Region.binds]) (by kernel_rfl)) s83
            have g86 := get_eqS (hD 5 86 (by simp [Region.binds]) (by kernel_rfl)) s86
            refine ob_yes (wanted_none rfl) ?_
            clear hF hD
            go_simp
            refine (equal_is _ _ 4 4 4 4 L M true _ NL.out NM.out EQ (by have := NL.out; omega) (by have := NM.out; omega) (prow_below RL.out (belT BZ.out hB)) (prow_below RM.out (belT BZ.out hB))).mono ?_; rintro e w9 ⟨rfl, hb⟩
            exact hK _ _ hb (rt_eqS s87)
          refine obsR_cons ?_ ?_
          · intro T wx K hB hF hD hK
            have g87 := get_eqS (hD 6 87 (by simp [Region.binds]) (by kernel_rfl)) s87
            refine ob_yes (wanted_none rfl) ?_
            clear hF hD
            go_simp
            exact hK _ _ (Below.refl _ _) (rt_eqS s88)
          exact obsR_nil
        · intro T1 V1 hb8 hF hs hD
          have g81 := get_eqS (hD 0 81 (by decide) (by kernel_rfl)) s81
          have g82 := get_eqS (hD 1 82 (by decide) (by kernel_rfl)) s82
          have g83 := get_eqS (hD 2 83 (by decide) (by kernel_rfl)) s83
          have g84 := get_eqS (hD 3 84 (by decide) (by kernel_rfl)) s84
          have g85 := get_eqS (hD 4 85 (by decide) (by kernel_rfl)) s85
          have g86 := get_eqS (hD 5 86 (by decide) (by kernel_rfl)) s86
          have g87 := get_eqS (hD 6 87 (by decide) (by kernel_rfl)) s87
          have g88 := get_eqS (hD 7 88 (by decide) (by kernel_rfl)) s88
          have hT := conc [(81, .int .i64 i), (82, .pointer (some ⟨b17, oi, none⟩)), (83, .slice (some ⟨g, 0, none⟩) 4 4), (84, .int .i64 i), (85, .pointer (some ⟨b18, oi, none⟩)), (86, .slice (some ⟨m, 0, none⟩) 4 4), (87, .bool true), (88, .bool false)] hs hF (by simp only [List.forall_mem_cons]; exact ⟨g81, g82, g83, g84, g85, g86, g87, g88, fun p hp => absurd hp List.not_mem_nil⟩) (by kernel_rfl)
          simp only [List.foldl, List.setIfInBounds_toArray, List.set_cons_succ, List.set_cons_zero] at hT
          subst hT
          clear hF hD hs g81 g82 g83 g84 g85 g86 g87 g88 s81 s82 s83 s84 s85 s86 s87 s88
          replace BZ := Lib.hid (belT BZ.out hb8)
          clear hb8
          go_wp2_with fail
          go_roundw
          case rel => exact ⟨BZ.out, i + 1, by go_num, by omega, by omega⟩
          case measure => simp [intOf]; omega
      obtain ⟨hne, cS, vS, s12, inL, inM⟩ := swept_hull cL cM nL nM vL vM (q2' (by omega))
      have VO := Lib.hid (q2' (show j ≤ i by omega))
      obtain ⟨S, hS⟩ : ∃ S, regL (o1, o2) L M = S := ⟨_, rfl⟩
      have VO2 : Hid (AllV (outL (o1, o2) M L)) := Lib.hid (by rw [outL_swap]; exact VO.out)
      have hS2 : regL (o1, o2) M L = S := by rw [reg_swap]; exact hS
      rw [hS] at hne cS vS s12 inL inM
      have s3 := cS.1
      have HS := Lib.hid hS
      have HS2 := Lib.hid hS2
      have NE : Hid (decide (S ≠ []) = true) := Lib.hid (decide_eq_true hne)
      have KS := Lib.hid ((convB_iff S).2 cS)
      have VS := Lib.hid vS
      obtain ⟨tL, htL⟩ : ∃ t, touchB L b = t := ⟨_, rfl⟩
      obtain ⟨tM, htM⟩ : ∃ t, touchB M b = t := ⟨_, rfl⟩
      obtain ⟨tS, htS⟩ : ∃ t, touchB S b = t := ⟨_, rfl⟩
      have WL : tL = true → tS = true := fun h => by rw [← htS]; exact touch_wide (conv_good cL) GB.out cS inL (htL.trans h)
      have WM : tM = true → tS = true := fun h => by rw [← htS]; exact touch_wide (conv_good cM) GB.out cS inM (htM.trans h)
      replace htL := Lib.hid htL
      replace htM := Lib.hid htM
      replace htS := Lib.hid htS
      replace WL := Lib.hid WL
      replace WM := Lib.hid WM
      have IL : Hid (∀ q, q ∈ L → 0 ≤ locE S q.1 q.2) := Lib.hid (fun q hq => in_loc cS (inL q hq))
      have IM : Hid (∀ q, q ∈ M → 0 ≤ locE S q.1 q.2) := Lib.hid (fun q hq => in_loc cS (inM q hq))
      have hji : decide (i < j) = false := decide_eq_false hij
      clear q1' q2' cL cM vL vM nL nM hne cS vS inL inM hS hS2 hij
      go_wp2_with fail
      clear hji
      obtain ⟨sp, hsp⟩ : ∃ sp : ToldS, sp = [none, none, none, none, none, none, none, none, none, none, none, none, none, none, none, none, none, none, none, none, none, some (rowS S), some (eqS (.bool true)), none, none, none, none, none, none, none, none, none, none, none, none, none, none, none, none, none, none, none, none, none, none, none, none, none, none, none, none, none, none, none, none, none, none, none, none, none, none, none, none, none, none, none, none, none, none, none, none, none, none, none, none, none, none, none, none, none, none, none, none, none, none, none, none, none, none, some (sweptS S), some (eqS (.int .i64 j)), some (eqS (.pointer (some ⟨b19, oj, none⟩))), some (eqS (.agg #[.int .i64 o1, .int .i64 o2])), some (eqS (.int .i64 i)), some (eqS (.pointer (some ⟨b17, oi, none⟩))), some (eqS (.slice (some ⟨g, 0, none⟩) 4 4)), some (eqS (.int .i64 i)), some (eqS (.pointer (some ⟨b18, oi, none⟩))), some (eqS (.slice (some ⟨m, 0, none⟩) 4 4)), some (sweptS S), some (rowS S), some (eqS (.bool true))] := ⟨_, rfl⟩
      have s21 : sp.getD 21 none = some (rowS S) := by rw [hsp]; rfl
      have s22 : sp.getD 22 none = some (eqS (.bool true)) := by rw [hsp]; rfl
      have s89 : sp.getD 89 none = some (sweptS S) := by rw [hsp]; rfl
      have s90 : sp.getD 90 none = some (eqS (.int .i64 j)) := by rw [hsp]; rfl
      have s91 : sp.getD 91 none = some (eqS (.pointer (some ⟨b19, oj, none⟩))) := by rw [hsp]; rfl
      have s92 : sp.getD 92 none = some (eqS (.agg #[.int .i64 o1, .int .i64 o2])) := by rw [hsp]; rfl
      have s93 : sp.getD 93 none = some (eqS (.int .i64 i)) := by rw [hsp]; rfl
      have s94 : sp.getD 94 none = some (eqS (.pointer (some ⟨b17, oi, none⟩))) := by rw [hsp]; rfl
      have s95 : sp.getD 95 none = some (eqS (.slice (some ⟨g, 0, none⟩) 4 4)) := by rw [hsp]; rfl
      have s96 : sp.getD 96 none = some (eqS (.int .i64 i)) := by rw [hsp]; rfl
      have s97 : sp.getD 97 none = some (eqS (.pointer (some ⟨b18, oi, none⟩))) := by rw [hsp]; rfl
      have s98 : sp.getD 98 none = some (eqS (.slice (some ⟨m, 0, none⟩) 4 4)) := by rw [hsp]; rfl
      have s99 : sp.getD 99 none = some (sweptS S) := by rw [hsp]; rfl
      have s100 : sp.getD 100 none = some (rowS S) := by rw [hsp]; rfl
      have s101 : sp.getD 101 none = some (eqS (.bool true)) := by rw [hsp]; rfl
      clear hsp
      refine (wpIn_wide (n := 0)).1 (region_allR (RtS sp) (rtS_keep sp) rfl rfl rfl (by kernel_rfl) (by kernel_rfl) (by kernel_rfl) ?_ ?_)
      · intro Q'
        refine obsR_cons ?_ ?_
        · intro T wx K hB hF hD hK
          have g13 : T[13]? = some (.int .i64 j) := hF 13 (freeM_of (by kernel_rfl))
          refine ob_yes (wanted_none rfl) ?_
          clear hF hD
          go_simp
          exact hK _ _ (Below.refl _ _) (rt_eqS s90)
        refine obsR_cons ?_ ?_
        · intro T wx K hB hF hD hK
          have g19 : T[19]? = some (.pointer (some ⟨b19, 0, none⟩)) := hF 19 (freeM_of (by kernel_rfl))
          have g90 := get_eqS (hD 0 90 (by simp [Region.binds]) (by kernel_rfl)) s90
          refine ob_yes (wanted_none rfl) ?_
          clear hF hD
          go_simp
          exact hK _ _ (Below.refl _ _) (rt_eqS s91)
        refine obsR_cons ?_ ?_
        · intro T wx K hB hF hD hK
          have g91 := get_eqS (hD 1 91 (by simp [Region.binds]) (by kernel_rfl)) s91
          refine ob_yes (wanted_none rfl) ?_
          clear hF hD
          obtain ⟨c0, c1⟩ := atJ_cell AJ.out (blk_call H19.out (belT BZ.out hB))
          go_simp
          exact hK _ _ (Below.refl _ _) (rt_eqS s92)
        refine obsR_cons ?_ ?_
        · intro T wx K hB hF hD hK
          have g20 : T[20]? = some (.int .i64 i) := hF 20 (freeM_of (by kernel_rfl))
          refine ob_yes (wanted_none rfl) ?_
          clear hF hD
          go_simp
          exact hK _ _ (Below.refl _ _) (rt_eqS s93)
        refine obsR_cons ?_ ?_
        · intro T wx K hB hF hD hK
          have g17 : T[17]? = some (.pointer (some ⟨b17, 0, none⟩)) := hF 17 (freeM_of (by kernel_rfl))
          have g93 := get_eqS (hD 3 93 (by simp [Region.binds]) (by kernel_rfl)) s93
          refine ob_yes (wanted_none rfl) ?_
          clear hF hD
          go_simp
          exact hK _ _ (Below.refl _ _) (rt_eqS s94)
        refine obsR_cons ?_ ?_
        · intro T wx K hB hF hD hK
          have g94 := get_eqS (hD 4 94 (by simp [Region.binds]) (by kernel_rfl)) s94
          refine ob_yes (wanted_none rfl) ?_
          clear hF hD
          have c0 := atI_g AI.out (blk_call H17.out (belT BZ.out hB))
          go_simp
          exact hK _ _ (Below.refl _ _) (rt_eqS s95)
        refine obsR_cons ?_ ?_
        · intro T wx K hB hF hD hK
          have g20 : T[20]? = some (.int .i64 i) := hF 20 (freeM_of (by kernel_rfl))
          refine ob_yes (wanted_none rfl) ?_
          clear hF hD
          go_simp
          exact hK _ _ (Below.refl _ _) (rt_eqS s96)
        refine obsR_cons ?_ ?_
        · intro T wx K hB hF hD hK
          have g18 : T[18]? = some (.pointer (some ⟨b18, 0, none⟩)) := hF 18 (freeM_of (by kernel_rfl))
          have g96 := get_eqS (hD 6 96 (by simp [Region.binds]) (by kernel_rfl)) s96
          refine ob_yes (wanted_none rfl) ?_
          clear hF hD
          go_simp
          exact hK _ _ (Below.refl _ _) (rt_eqS s97)
        refine obsR_cons ?_ ?_
        · intro T wx K hB hF hD hK
          have g97 := get_eqS (hD 7 97 (by simp [Region.binds]) (by kernel_rfl)) s97
          refine ob_yes (wanted_none rfl) ?_
          clear hF hD
          have c0 := atI_m AI.out (blk_call H18.out (belT BZ.out hB))
          go_simp
          exact hK _ _ (Below.refl _ _) (rt_eqS s98)
        refine obsR_cons ?_ ?_
        · intro T wx K hB hF hD hK
          have g92 := get_eqS (hD 2 92 (by simp [Region.binds]) (by kernel_rfl)) s92
          have g95 := get_eqS (hD 5 95 (by simp [Region.binds]) (by kernel_rfl)) s95
          have g98 := get_eqS (hD 8 98 (by simp [Region.binds]) (by kernel_rfl)) s98
          refine ob_yes (wanted_none rfl) ?_
          clear hF hD
          go_simp
          refine (region_is _ _ 4 4 4 4 o1 o2 L M S true _ NL.out NM.out HS NE (by omega) (by omega) (prow_below RL.out (belT BZ.out hB)) (prow_below RM.out (belT BZ.out hB)) VL.out VM.out OV.out.1 OV.out.2 VO.out).mono ?_; rintro e w9 ⟨⟨g9, c9, rfl, pr⟩, hb⟩
          exact hK _ _ hb (rt_S s99 ⟨g9, c9, rfl, pr⟩)
        refine obsR_cons ?_ ?_
        · intro T wx K hB hF hD hK
          obtain ⟨v99, g99, p99⟩ := getS (hD 9 99 (by simp [Region.binds]) (by kernel_rfl)) s99
          refine ob_yes (wanted_none rfl) ?_
          clear hF hD
          go_simp
          exact hK _ _ (Below.refl _ _) (rt_S s89 p99)
        refine obsR_cons ?_ ?_
        · intro T wx K hB hF hD hK
          obtain ⟨v89, g89, p89⟩ := getS (hD 10 89 (by simp [Region.binds]) (by kernel_rfl)) s89
          refine ob_yes (wanted_none rfl) ?_
          clear hF hD
          obtain ⟨g9, c9, rfl, pr⟩ := p89
          go_simp
          exact hK _ _ (Below.refl _ _) (rt_S s100 ⟨g9, c9, rfl, pr⟩)
        refine obsR_cons ?_ ?_
        · intro T wx K hB hF hD hK
          obtain ⟨v89, g89, p89⟩ := getS (hD 10 89 (by simp [Region.binds]) (by kernel_rfl)) s89
          refine ob_yes (wanted_none rfl) ?_
          clear hF hD
          obtain ⟨g9, c9, rfl, pr⟩ := p89
          go_simp
          exact hK _ _ (Below.refl _ _) (rt_eqS s101)
        refine obsR_cons ?_ ?_
        · intro T wx K hB hF hD hK
          obtain ⟨v100, g100, p100⟩ := getS (hD 11 100 (by simp [Region.binds]) (by kernel_rfl)) s100
          refine ob_yes (wanted_none rfl) ?_
          clear hF hD
          go_simp
          exact hK _ _ (Below.refl _ _) (rt_S s21 p100)
        refine obsR_cons ?_ ?_
        · intro T wx K hB hF hD hK
          have g101 := get_eqS (hD 12 101 (by simp [Region.binds]) (by kernel_rfl)) s101
          refine ob_yes (wanted_none rfl) ?_
          clear hF hD
          go_simp
          exact hK _ _ (Below.refl _ _) (rt_eqS s22)
        exact obsR_nil
      · intro T21 V21 hb8 hF hs hD
        have g90 := get_eqS (hD 0 90 (by decide) (by kernel_rfl)) s90
        have g91 := get_eqS (hD 1 91 (by decide) (by kernel_rfl)) s91
        have g92 := get_eqS (hD 2 92 (by decide) (by kernel_rfl)) s92
        have g93 := get_eqS (hD 3 93 (by decide) (by kernel_rfl)) s93
        have g94 := get_eqS (hD 4 94 (by decide) (by kernel_rfl)) s94
        have g95 := get_eqS (hD 5 95 (by decide) (by kernel_rfl)) s95
        have g96 := get_eqS (hD 6 96 (by decide) (by kernel_rfl)) s96
        have g97 := get_eqS (hD 7 97 (by decide) (by kernel_rfl)) s97
        have g98 := get_eqS (hD 8 98 (by decide) (by kernel_rfl)) s98
        obtain ⟨v99, g99, p99⟩ := getS (hD 9 99 (by decide) (by kernel_rfl)) s99
        obtain ⟨v89, g89, p89⟩ := getS (hD 10 89 (by decide) (by kernel_rfl)) s89
        obtain ⟨v100, g100, p100⟩ := getS (hD 11 100 (by decide) (by kernel_rfl)) s100
        have g101 := get_eqS (hD 12 101 (by decide) (by kernel_rfl)) s101
        obtain ⟨v21, g21, p21⟩ := getS (hD 13 21 (by decide) (by kernel_rfl)) s21
        have g22 := get_eqS (hD 14 22 (by decide) (by kernel_rfl)) s22
        have hT := conc [(90, .int .i64 j), (91, .pointer (some ⟨b19, oj, none⟩)), (92, .agg #[.int .i64 o1, .int .i64 o2]), (93, .int .i64 i), (94, .pointer (some ⟨b17, oi, none⟩)), (95, .slice (some ⟨g, 0, none⟩) 4 4), (96, .int .i64 i), (97, .pointer (some ⟨b18, oi, none⟩)), (98, .slice (some ⟨m, 0, none⟩) 4 4), (99, v99), (89, v89), (100, v100), (101, .bool true), (21, v21), (22, .bool true)] hs hF (by simp only [List.forall_mem_cons]; exact ⟨g90, g91, g92, g93, g94, g95, g96, g97, g98, g99, g89, g100, g101, g21, g22, fun p hp => absurd hp List.not_mem_nil⟩) (by kernel_rfl)
        simp only [List.foldl, List.setIfInBounds_toArray, List.set_cons_succ, List.set_cons_zero] at hT
        subst hT
        clear hF hD hs g90 g91 g92 g93 g94 g95 g96 g97 g98 g99 g89 g100 g101 g21 g22 s21 s22 s89 s90 s91 s92 s93 s94 s95 s96 s97 s98 s99 s100 s101
        obtain ⟨ga, ca, rfl, pa⟩ := p21
        replace BZ := Lib.hid (belT BZ.out hb8)
        have PA_ := Lib.hid pa
        clear hb8 pa
        go_wp2_with fail
        obtain ⟨sp, hsp⟩ : ∃ sp : ToldS, sp = [none, none, none, none, none, none, none, none, none, none, none, none, none, none, none, none, none, none, none, none, none, none, none, some (rowS S), some (eqS (.bool true)), none, none, none, none, none, none, none, none, none, none, none, none, none, none, none, none, none, none, none, none, none, none, none, none, none, none, none, none, none, none, none, none, none, none, none, none, none, none, none, none, none, none, none, none, none, none, none, none, none, none, none, none, none, none, none, none, none, none, none, none, none, none, none, none, none, none, none, none, none, none, none, none, none, none, none, none, none, some (sweptS S), some (eqS (.int .i64 j)), some (eqS (.pointer (some ⟨b19, oj, none⟩))), some (eqS (.agg #[.int .i64 o1, .int .i64 o2])), some (eqS (.int .i64 i)), some (eqS (.pointer (some ⟨b18, oi, none⟩))), some (eqS (.slice (some ⟨m, 0, none⟩) 4 4)), some (eqS (.int .i64 i)), some (eqS (.pointer (some ⟨b17, oi, none⟩))), some (eqS (.slice (some ⟨g, 0, none⟩) 4 4)), some (sweptS S), some (rowS S), some (eqS (.bool true))] := ⟨_, rfl⟩
        have s23 : sp.getD 23 none = some (rowS S) := by rw [hsp]; rfl
        have s24 : sp.getD 24 none = some (eqS (.bool true)) := by rw [hsp]; rfl
        have s102 : sp.getD 102 none = some (sweptS S) := by rw [hsp]; rfl
        have s103 : sp.getD 103 none = some (eqS (.int .i64 j)) := by rw [hsp]; rfl
        have s104 : sp.getD 104 none = some (eqS (.pointer (some ⟨b19, oj, none⟩))) := by rw [hsp]; rfl
        have s105 : sp.getD 105 none = some (eqS (.agg #[.int .i64 o1, .int .i64 o2])) := by rw [hsp]; rfl
        have s106 : sp.getD 106 none = some (eqS (.int .i64 i)) := by rw [hsp]; rfl
        have s107 : sp.getD 107 none = some (eqS (.pointer (some ⟨b18, oi, none⟩))) := by rw [hsp]; rfl
        have s108 : sp.getD 108 none = some (eqS (.slice (some ⟨m, 0, none⟩) 4 4)) := by rw [hsp]; rfl
        have s109 : sp.getD 109 none = some (eqS (.int .i64 i)) := by rw [hsp]; rfl
        have s110 : sp.getD 110 none = some (eqS (.pointer (some ⟨b17, oi, none⟩))) := by rw [hsp]; rfl
        have s111 : sp.getD 111 none = some (eqS (.slice (some ⟨g, 0, none⟩) 4 4)) := by rw [hsp]; rfl
        have s112 : sp.getD 112 none = some (sweptS S) := by rw [hsp]; rfl
        have s113 : sp.getD 113 none = some (rowS S) := by rw [hsp]; rfl
        have s114 : sp.getD 114 none = some (eqS (.bool true)) := by rw [hsp]; rfl
        clear hsp
        refine (wpIn_wide (n := 0)).1 (region_allR (RtS sp) (rtS_keep sp) rfl rfl rfl (by kernel_rfl) (by kernel_rfl) (by kernel_rfl) ?_ ?_)
        · intro Q'
          refine obsR_cons ?_ ?_
          · intro T wx K hB hF hD hK
            have g13 : T[13]? = some (.int .i64 j) := hF 13 (freeM_of (by kernel_rfl))
            refine ob_yes (wanted_none rfl) ?_
            clear hF hD
            go_simp
            exact hK _ _ (Below.refl _ _) (rt_eqS s103)
          refine obsR_cons ?_ ?_
          · intro T wx K hB hF hD hK
            have g19 : T[19]? = some (.pointer (some ⟨b19, 0, none⟩)) := hF 19 (freeM_of (by kernel_rfl))
            have g103 := get_eqS (hD 0 103 (by simp [Region.binds]) (by kernel_rfl)) s103
            refine ob_yes (wanted_none rfl) ?_
            clear hF hD
            go_simp
            exact hK _ _ (Below.refl _ _) (rt_eqS s104)
          refine obsR_cons ?_ ?_
          · intro T wx K hB hF hD hK
            have g104 := get_eqS (hD 1 104 (by simp [Region.binds]) (by kernel_rfl)) s104
            refine ob_yes (wanted_none rfl) ?_
            clear hF hD
            obtain ⟨c0, c1⟩ := atJ_cell AJ.out (blk_call H19.out (belT BZ.out hB))
            go_simp
            exact hK _ _ (Below.refl _ _) (rt_eqS s105)
          refine obsR_cons ?_ ?_
          · intro T wx K hB hF hD hK
            have g20 : T[20]? = some (.int .i64 i) := hF 20 (freeM_of (by kernel_rfl))
            refine ob_yes (wanted_none rfl) ?_
            clear hF hD
            go_simp
            exact hK _ _ (Below.refl _ _) (rt_eqS s106)
          refine obsR_cons ?_ ?_
          · intro T wx K hB hF hD hK
            have g18 : T[18]? = some (.pointer (some ⟨b18, 0, none⟩)) := hF 18 (freeM_of (by kernel_rfl))
            have g106 := get_eqS (hD 3 106 (by simp [Region.binds]) (by kernel_rfl)) s106
            refine ob_yes (wanted_none rfl) ?_
            clear hF hD
            go_simp
            exact hK _ _ (Below.refl _ _) (rt_eqS s107)
          refine obsR_cons ?_ ?_
          · intro T wx K hB hF hD hK
            have g107 := get_eqS (hD 4 107 (by simp [Region.binds]) (by kernel_rfl)) s107
            refine ob_yes (wanted_none rfl) ?_
            clear hF hD
            have c0 := atI_m AI.out (blk_call H18.out (belT BZ.out hB))
            go_simp
            exact hK _ _ (Below.refl _ _) (rt_eqS s108)
          refine obsR_cons ?_ ?_
          · intro T wx K hB hF hD hK
            have g20 : T[20]? = some (.int .i64 i) := hF 20 (freeM_of (by kernel_rfl))
            refine ob_yes (wanted_none rfl) ?_
            clear hF hD
            go_simp
            exact hK _ _ (Below.refl _ _) (rt_eqS s109)
          refine obsR_cons ?_ ?_
          · intro T wx K hB hF hD hK
            have g17 : T[17]? = some (.pointer (some ⟨b17, 0, none⟩)) := hF 17 (freeM_of (by kernel_rfl))
            have g109 := get_eqS (hD 6 109 (by simp [Region.binds]) (by kernel_rfl)) s109
            refine ob_yes (wanted_none rfl) ?_
            clear hF hD
            go_simp
            exact hK _ _ (Below.refl _ _) (rt_eqS s110)
          refine obsR_cons ?_ ?_
          · intro T wx K hB hF hD hK
            have g110 := get_eqS (hD 7 110 (by simp [Region.binds]) (by kernel_rfl)) s110
            refine ob_yes (wanted_none rfl) ?_
            clear hF hD
            have c0 := atI_g AI.out (blk_call H17.out (belT BZ.out hB))
            go_simp
            exact hK _ _ (Below.refl _ _) (rt_eqS s111)
          refine obsR_cons ?_ ?_
          · intro T wx K hB hF hD hK
            have g105 := get_eqS (hD 2 105 (by simp [Region.binds]) (by kernel_rfl)) s105
            have g108 := get_eqS (hD 5 108 (by simp [Region.binds]) (by kernel_rfl)) s108
            have g111 := get_eqS (hD 8 111 (by simp [Region.binds]) (by kernel_rfl)) s111
            refine ob_yes (wanted_none rfl) ?_
            clear hF hD
            go_simp
            refine (region_is _ _ 4 4 4 4 o1 o2 M L S true _ NM.out NL.out HS2 NE (by omega) (by omega) (prow_below RM.out (belT BZ.out hB)) (prow_below RL.out (belT BZ.out hB)) VM.out VL.out OV.out.1 OV.out.2 VO2.out).mono ?_; rintro e w9 ⟨⟨g9, c9, rfl, pr⟩, hb⟩
            exact hK _ _ hb (rt_S s112 ⟨g9, c9, rfl, pr⟩)
          refine obsR_cons ?_ ?_
          · intro T wx K hB hF hD hK
            obtain ⟨v112, g112, p112⟩ := getS (hD 9 112 (by simp [Region.binds]) (by kernel_rfl)) s112
            refine ob_yes (wanted_none rfl) ?_
            clear hF hD
            go_simp
            exact hK _ _ (Below.refl _ _) (rt_S s102 p112)
          refine obsR_cons ?_ ?_
          · intro T wx K hB hF hD hK
            obtain ⟨v102, g102, p102⟩ := getS (hD 10 102 (by simp [Region.binds]) (by kernel_rfl)) s102
            refine ob_yes (wanted_none rfl) ?_
            clear hF hD
            obtain ⟨g9, c9, rfl, pr⟩ := p102
            go_simp
            exact hK _ _ (Below.refl _ _) (rt_S s113 ⟨g9, c9, rfl, pr⟩)
          refine obsR_cons ?_ ?_
          · intro T wx K hB hF hD hK
            obtain ⟨v102, g102, p102⟩ := getS (hD 10 102 (by simp [Region.binds]) (by kernel_rfl)) s102
            refine ob_yes (wanted_none rfl) ?_
            clear hF hD
            obtain ⟨g9, c9, rfl, pr⟩ := p102
            go_simp
            exact hK _ _ (Below.refl _ _) (rt_eqS s114)
          refine obsR_cons ?_ ?_
          · intro T wx K hB hF hD hK
            obtain ⟨v113, g113, p113⟩ := getS (hD 11 113 (by simp [Region.binds]) (by kernel_rfl)) s113
            refine ob_yes (wanted_none rfl) ?_
            clear hF hD
            go_simp
            exact hK _ _ (Below.refl _ _) (rt_S s23 p113)
          refine obsR_cons ?_ ?_
          · intro T wx K hB hF hD hK
            have g114 := get_eqS (hD 12 114 (by simp [Region.binds]) (by kernel_rfl)) s114
            refine ob_yes (wanted_none rfl) ?_
            clear hF hD
            go_simp
            exact hK _ _ (Below.refl _ _) (rt_eqS s24)
          exact obsR_nil
        · intro T22 V22 hb8 hF hs hD
          have g103 := get_eqS (hD 0 103 (by decide) (by kernel_rfl)) s103
          have g104 := get_eqS (hD 1 104 (by decide) (by kernel_rfl)) s104
          have g105 := get_eqS (hD 2 105 (by decide) (by kernel_rfl)) s105
          have g106 := get_eqS (hD 3 106 (by decide) (by kernel_rfl)) s106
          have g107 := get_eqS (hD 4 107 (by decide) (by kernel_rfl)) s107
          have g108 := get_eqS (hD 5 108 (by decide) (by kernel_rfl)) s108
          have g109 := get_eqS (hD 6 109 (by decide) (by kernel_rfl)) s109
          have g110 := get_eqS (hD 7 110 (by decide) (by kernel_rfl)) s110
          have g111 := get_eqS (hD 8 111 (by decide) (by kernel_rfl)) s111
          obtain ⟨v112, g112, p112⟩ := getS (hD 9 112 (by decide) (by kernel_rfl)) s112
          obtain ⟨v102, g102, p102⟩ := getS (hD 10 102 (by decide) (by kernel_rfl)) s102
          obtain ⟨v113, g113, p113⟩ := getS (hD 11 113 (by decide) (by kernel_rfl)) s113
          have g114 := get_eqS (hD 12 114 (by decide) (by kernel_rfl)) s114
          obtain ⟨v23, g23, p23⟩ := getS (hD 13 23 (by decide) (by kernel_rfl)) s23
          have g24 := get_eqS (hD 14 24 (by decide) (by kernel_rfl)) s24
          have hT := conc [(103, .int .i64 j), (104, .pointer (some ⟨b19, oj, none⟩)), (105, .agg #[.int .i64 o1, .int .i64 o2]), (106, .int .i64 i), (107, .pointer (some ⟨b18, oi, none⟩)), (108, .slice (some ⟨m, 0, none⟩) 4 4), (109, .int .i64 i), (110, .pointer (some ⟨b17, oi, none⟩)), (111, .slice (some ⟨g, 0, none⟩) 4 4), (112, v112), (102, v102), (113, v113), (114, .bool true), (23, v23), (24, .bool true)] hs hF (by simp only [List.forall_mem_cons]; exact ⟨g103, g104, g105, g106, g107, g108, g109, g110, g111, g112, g102, g113, g114, g23, g24, fun p hp => absurd hp List.not_mem_nil⟩) (by kernel_rfl)
          simp only [List.foldl, List.setIfInBounds_toArray, List.set_cons_succ, List.set_cons_zero] at hT
          subst hT
          clear hF hD hs g103 g104 g105 g106 g107 g108 g109 g110 g111 g112 g102 g113 g114 g23 g24 s23 s24 s102 s103 s104 s105 s106 s107 s108 s109 s110 s111 s112 s113 s114
          obtain ⟨gb, cb_, rfl, pb⟩ := p23
          replace BZ := Lib.hid (belT BZ.out hb8)
          replace PA_ := Lib.hid (prow_below PA_.out hb8)
          have PB_ := Lib.hid pb
          clear hb8 pb
          go_wp2_with fail
          refine (conv_is ga _ ca S true _ rfl KS (by omega) PA_.out VS.out).mono ?_
          rintro e x1 ⟨rfl, hb⟩
          replace BZ := Lib.hid (belT BZ.out hb)
          replace PA_ := Lib.hid (prow_below PA_.out hb)
          replace PB_ := Lib.hid (prow_below PB_.out hb)
          clear hb
          go_wp2_with fail
          refine (equal_is ga gb _ _ ca cb_ S S true _ rfl rfl (Lib.hid (decide_eq_true rfl)) (by omega) (by omega) PA_.out PB_.out).mono ?_
          rintro e x2 ⟨rfl, hb⟩
          replace BZ := Lib.hid (belT BZ.out hb)
          replace PA_ := Lib.hid (prow_below PA_.out hb)
          replace PB_ := Lib.hid (prow_below PB_.out hb)
          clear hb
          clear PB_
          obtain ⟨tv, htv⟩ : ∃ t, validP S = t := ⟨_, rfl⟩
          replace htv := Lib.hid htv
          have d12 : decide ((12 : Int) < (S.length : Int)) = false := decide_eq_false (by omega)
          go_wp2_with fail
          refine (valid_is ga _ ca S tv _ rfl htv (by omega) PA_.out).mono ?_
          rintro e x3 ⟨rfl, hb⟩
          replace BZ := Lib.hid (belT BZ.out hb)
          replace PA_ := Lib.hid (prow_below PA_.out hb)
          clear hb
          clear d12
          cases tv
          · go_wp2_with fail
            go_roundw
            case rel => exact ⟨BZ.out, i + 1, by go_num, by omega, by omega⟩
            case measure => simp [intOf]; omega
          go_wp2_with fail
          refine wp_loop_rounds 5 ?_
          skip
          rw [rounds_succ]
          have x0 := atI_g AI.out (blk_call H17.out BZ.out)
          obtain ⟨x1, x2⟩ := prow_c (prow_below RL.out BZ.out) 0 (by have := NL.out; omega) 0 1 rfl rfl
          have vix := VL.out 0 (by have := NL.out; omega)
          obtain ⟨zx, hzx⟩ : ∃ z, locE S (L.getD 0 (0, 0)).1 (L.getD 0 (0, 0)).2 = z := ⟨_, rfl⟩
          have nnx : ¬ zx = -1 := by have := IL.out _ (getD_mem4 (l := L) (k := 0) (by have := NL.out; omega)); rw [hzx] at this; omega
          have nbx : (zx == -1) = false := by simpa using nnx
          replace hzx := Lib.hid hzx
          obtain ⟨ex, hex⟩ : ∃ z, (L.getD 0 (0, 0)).1 = z := ⟨_, rfl⟩
          obtain ⟨fx, hfx⟩ : ∃ z, (L.getD 0 (0, 0)).2 = z := ⟨_, rfl⟩
          rw [hex, hfx] at hzx
          rw [hex] at x1
          rw [hfx] at x2
          replace vix : Hid (InV ex ∧ InV fx) := Lib.hid (by rw [← hex, ← hfx]; exact vix)
          clear hex hfx nnx
          have y0 := atI_m AI.out (blk_call H18.out BZ.out)
          obtain ⟨y1, y2⟩ := prow_c (prow_below RM.out BZ.out) 0 (by have := NM.out; omega) 0 1 rfl rfl
          have viy := VM.out 0 (by have := NM.out; omega)
          obtain ⟨zy, hzy⟩ : ∃ z, locE S (M.getD 0 (0, 0)).1 (M.getD 0 (0, 0)).2 = z := ⟨_, rfl⟩
          have nny : ¬ zy = -1 := by have := IM.out _ (getD_mem4 (l := M) (k := 0) (by have := NM.out; omega)); rw [hzy] at this; omega
          have nby : (zy == -1) = false := by simpa using nny
          replace hzy := Lib.hid hzy
          obtain ⟨ey, hey⟩ : ∃ z, (M.getD 0 (0, 0)).1 = z := ⟨_, rfl⟩
          obtain ⟨fy, hfy⟩ : ∃ z, (M.getD 0 (0, 0)).2 = z := ⟨_, rfl⟩
          rw [hey, hfy] at hzy
          rw [hey] at y1
          rw [hfy] at y2
          replace viy : Hid (InV ey ∧ InV fy) := Lib.hid (by rw [← hey, ← hfy]; exact viy)
          have KY := Lib.hid (And.intro hey hfy)
          clear hey hfy nny
          skip
          go_wp2_with fail
          refine (locate_at ga _ ca S ex fx zx _ rfl hzx (by omega) s12 PA_.out VS.out.allr2 vix.out.1.inr vix.out.2.inr).mono ?_
          rintro e u0 ⟨rfl, hb⟩
          replace BZ := Lib.hid (belT BZ.out hb)
          replace PA_ := Lib.hid (prow_below PA_.out hb)
          clear hb
          clear x0 x1 x2 y0 y1 y2
          have y0 := atI_m AI.out (blk_call H18.out BZ.out)
          obtain ⟨y1, y2⟩ := prow_c (prow_below RM.out BZ.out) 0 (by have := NM.out; omega) 0 1 rfl rfl
          skip
          have key : (M.getD 0 (0, 0)).1 = ey ∧ (M.getD 0 (0, 0)).2 = fy := KY.out
          rw [key.1] at y1
          rw [key.2] at y2
          clear key
          go_wp2_with fail
          refine (locate_at ga _ ca S ey fy zy _ rfl hzy (by omega) s12 PA_.out VS.out.allr2 viy.out.1.inr viy.out.2.inr).mono ?_
          rintro e s0 ⟨rfl, hb⟩
          replace BZ := Lib.hid (belT BZ.out hb)
          replace PA_ := Lib.hid (prow_below PA_.out hb)
          clear hb
          clear y0 y1 y2 KY
          go_wp2_with fail
          clear nbx nby
          rw [rounds_succ]
          have x0 := atI_g AI.out (blk_call H17.out BZ.out)
          obtain ⟨x1, x2⟩ := prow_c (prow_below RL.out BZ.out) 1 (by have := NL.out; omega) 2 3 rfl rfl
          have vix := VL.out 1 (by have := NL.out; omega)
          obtain ⟨zx, hzx⟩ : ∃ z, locE S (L.getD 1 (0, 0)).1 (L.getD 1 (0, 0)).2 = z := ⟨_, rfl⟩
          have nnx : ¬ zx = -1 := by have := IL.out _ (getD_mem4 (l := L) (k := 1) (by have := NL.out; omega)); rw [hzx] at this; omega
          have nbx : (zx == -1) = false := by simpa using nnx
          replace hzx := Lib.hid hzx
          obtain ⟨ex, hex⟩ : ∃ z, (L.getD 1 (0, 0)).1 = z := ⟨_, rfl⟩
          obtain ⟨fx, hfx⟩ : ∃ z, (L.getD 1 (0, 0)).2 = z := ⟨_, rfl⟩
          rw [hex, hfx] at hzx
          rw [hex] at x1
          rw [hfx] at x2
          replace vix : Hid (InV ex ∧ InV fx) := Lib.hid (by rw [← hex, ← hfx]; exact vix)
          clear hex hfx nnx
          have y0 := atI_m AI.out (blk_call H18.out BZ.out)
          obtain ⟨y1, y2⟩ := prow_c (prow_below RM.out BZ.out) 1 (by have := NM.out; omega) 2 3 rfl rfl
          have viy := VM.out 1 (by have := NM.out; omega)
          obtain ⟨zy, hzy⟩ : ∃ z, locE S (M.getD 1 (0, 0)).1 (M.getD 1 (0, 0)).2 = z := ⟨_, rfl⟩
          have nny : ¬ zy = -1 := by have := IM.out _ (getD_mem4 (l := M) (k := 1) (by have := NM.out; omega)); rw [hzy] at this; omega
          have nby : (zy == -1) = false := by simpa using nny
          replace hzy := Lib.hid hzy
          obtain ⟨ey, hey⟩ : ∃ z, (M.getD 1 (0, 0)).1 = z := ⟨_, rfl⟩
          obtain ⟨fy, hfy⟩ : ∃ z, (M.getD 1 (0, 0)).2 = z := ⟨_, rfl⟩
          rw [hey, hfy] at hzy
          rw [hey] at y1
          rw [hfy] at y2
          replace viy : Hid (InV ey ∧ InV fy) := Lib.hid (by rw [← hey, ← hfy]; exact viy)
          have KY := Lib.hid (And.intro hey hfy)
          clear hey hfy nny
          skip
          go_wp2_with fail
          refine (locate_at ga _ ca S ex fx zx _ rfl hzx (by omega) s12 PA_.out VS.out.allr2 vix.out.1.inr vix.out.2.inr).mono ?_
          rintro e u1 ⟨rfl, hb⟩
          replace BZ := Lib.hid (belT BZ.out hb)
          replace PA_ := Lib.hid (prow_below PA_.out hb)
          clear hb
          clear x0 x1 x2 y0 y1 y2
          have y0 := atI_m AI.out (blk_call H18.out BZ.out)
          obtain ⟨y1, y2⟩ := prow_c (prow_below RM.out BZ.out) 1 (by have := NM.out; omega) 2 3 rfl rfl
          skip
          have key : (M.getD 1 (0, 0)).1 = ey ∧ (M.getD 1 (0, 0)).2 = fy := KY.out
          rw [key.1] at y1
          rw [key.2] at y2
          clear key
          go_wp2_with fail
          refine (locate_at ga _ ca S ey fy zy _ rfl hzy (by omega) s12 PA_.out VS.out.allr2 viy.out.1.inr viy.out.2.inr).mono ?_
          rintro e s1 ⟨rfl, hb⟩
          replace BZ := Lib.hid (belT BZ.out hb)
          replace PA_ := Lib.hid (prow_below PA_.out hb)
          clear hb
          clear y0 y1 y2 KY
          go_wp2_with fail
          clear nbx nby
          rw [rounds_succ]
          have x0 := atI_g AI.out (blk_call H17.out BZ.out)
          obtain ⟨x1, x2⟩ := prow_c (prow_below RL.out BZ.out) 2 (by have := NL.out; omega) 4 5 rfl rfl
          have vix := VL.out 2 (by have := NL.out; omega)
          obtain ⟨zx, hzx⟩ : ∃ z, locE S (L.getD 2 (0, 0)).1 (L.getD 2 (0, 0)).2 = z := ⟨_, rfl⟩
          have nnx : ¬ zx = -1 := by have := IL.out _ (getD_mem4 (l := L) (k := 2) (by have := NL.out; omega)); rw [hzx] at this; omega
          have nbx : (zx == -1) = false := by simpa using nnx
          replace hzx := Lib.hid hzx
          obtain ⟨ex, hex⟩ : ∃ z, (L.getD 2 (0, 0)).1 = z := ⟨_, rfl⟩
          obtain ⟨fx, hfx⟩ : ∃ z, (L.getD 2 (0, 0)).2 = z := ⟨_, rfl⟩
          rw [hex, hfx] at hzx
          rw [hex] at x1
          rw [hfx] at x2
          replace vix : Hid (InV ex ∧ InV fx) := Lib.hid (by rw [← hex, ← hfx]; exact vix)
          clear hex hfx nnx
          have y0 := atI_m AI.out (blk_call H18.out BZ.out)
          obtain ⟨y1, y2⟩ := prow_c (prow_below RM.out BZ.out) 2 (by have := NM.out; omega) 4 5 rfl rfl
          have viy := VM.out 2 (by have := NM.out; omega)
          obtain ⟨zy, hzy⟩ : ∃ z, locE S (M.getD 2 (0, 0)).1 (M.getD 2 (0, 0)).2 = z := ⟨_, rfl⟩
          have nny : ¬ zy = -1 := by have := IM.out _ (getD_mem4 (l := M) (k := 2) (by have := NM.out; omega)); rw [hzy] at this; omega
          have nby : (zy == -1) = false := by simpa using nny
          replace hzy := Lib.hid hzy
          obtain ⟨ey, hey⟩ : ∃ z, (M.getD 2 (0, 0)).1 = z := ⟨_, rfl⟩
          obtain ⟨fy, hfy⟩ : ∃ z, (M.getD 2 (0, 0)).2 = z := ⟨_, rfl⟩
          rw [hey, hfy] at hzy
          rw [hey] at y1
          rw [hfy] at y2
          replace viy : Hid (InV ey ∧ InV fy) := Lib.hid (by rw [← hey, ← hfy]; exact viy)
          have KY := Lib.hid (And.intro hey hfy)
          clear hey hfy nny
          skip
          go_wp2_with fail
          refine (locate_at ga _ ca S ex fx zx _ rfl hzx (by omega) s12 PA_.out VS.out.allr2 vix.out.1.inr vix.out.2.inr).mono ?_
          rintro e u2 ⟨rfl, hb⟩
          replace BZ := Lib.hid (belT BZ.out hb)
          replace PA_ := Lib.hid (prow_below PA_.out hb)
          clear hb
          clear x0 x1 x2 y0 y1 y2
          have y0 := atI_m AI.out (blk_call H18.out BZ.out)
          obtain ⟨y1, y2⟩ := prow_c (prow_below RM.out BZ.out) 2 (by have := NM.out; omega) 4 5 rfl rfl
          skip
          have key : (M.getD 2 (0, 0)).1 = ey ∧ (M.getD 2 (0, 0)).2 = fy := KY.out
          rw [key.1] at y1
          rw [key.2] at y2
          clear key
          go_wp2_with fail
          refine (locate_at ga _ ca S ey fy zy _ rfl hzy (by omega) s12 PA_.out VS.out.allr2 viy.out.1.inr viy.out.2.inr).mono ?_
          rintro e s2 ⟨rfl, hb⟩
          replace BZ := Lib.hid (belT BZ.out hb)
          replace PA_ := Lib.hid (prow_below PA_.out hb)
          clear hb
          clear y0 y1 y2 KY
          go_wp2_with fail
          clear nbx nby
          rw [rounds_succ]
          have x0 := atI_g AI.out (blk_call H17.out BZ.out)
          obtain ⟨x1, x2⟩ := prow_c (prow_below RL.out BZ.out) 3 (by have := NL.out; omega) 6 7 rfl rfl
          have vix := VL.out 3 (by have := NL.out; omega)
          obtain ⟨zx, hzx⟩ : ∃ z, locE S (L.getD 3 (0, 0)).1 (L.getD 3 (0, 0)).2 = z := ⟨_, rfl⟩
          have nnx : ¬ zx = -1 := by have := IL.out _ (getD_mem4 (l := L) (k := 3) (by have := NL.out; omega)); rw [hzx] at this; omega
          have nbx : (zx == -1) = false := by simpa using nnx
          replace hzx := Lib.hid hzx
          obtain ⟨ex, hex⟩ : ∃ z, (L.getD 3 (0, 0)).1 = z := ⟨_, rfl⟩
          obtain ⟨fx, hfx⟩ : ∃ z, (L.getD 3 (0, 0)).2 = z := ⟨_, rfl⟩
          rw [hex, hfx] at hzx
          rw [hex] at x1
          rw [hfx] at x2
          replace vix : Hid (InV ex ∧ InV fx) := Lib.hid (by rw [← hex, ← hfx]; exact vix)
          clear hex hfx nnx
          have y0 := atI_m AI.out (blk_call H18.out BZ.out)
          obtain ⟨y1, y2⟩ := prow_c (prow_below RM.out BZ.out) 3 (by have := NM.out; omega) 6 7 rfl rfl
          have viy := VM.out 3 (by have := NM.out; omega)
          obtain ⟨zy, hzy⟩ : ∃ z, locE S (M.getD 3 (0, 0)).1 (M.getD 3 (0, 0)).2 = z := ⟨_, rfl⟩
          have nny : ¬ zy = -1 := by have := IM.out _ (getD_mem4 (l := M) (k := 3) (by have := NM.out; omega)); rw [hzy] at this; omega
          have nby : (zy == -1) = false := by simpa using nny
          replace hzy := Lib.hid hzy
          obtain ⟨ey, hey⟩ : ∃ z, (M.getD 3 (0, 0)).1 = z := ⟨_, rfl⟩
          obtain ⟨fy, hfy⟩ : ∃ z, (M.getD 3 (0, 0)).2 = z := ⟨_, rfl⟩
          rw [hey, hfy] at hzy
          rw [hey] at y1
          rw [hfy] at y2
          replace viy : Hid (InV ey ∧ InV fy) := Lib.hid (by rw [← hey, ← hfy]; exact viy)
          have KY := Lib.hid (And.intro hey hfy)
          clear hey hfy nny
          skip
          go_wp2_with fail
          refine (locate_at ga _ ca S ex fx zx _ rfl hzx (by omega) s12 PA_.out VS.out.allr2 vix.out.1.inr vix.out.2.inr).mono ?_
          rintro e u3 ⟨rfl, hb⟩
          replace BZ := Lib.hid (belT BZ.out hb)
          replace PA_ := Lib.hid (prow_below PA_.out hb)
          clear hb
          clear x0 x1 x2 y0 y1 y2
          have y0 := atI_m AI.out (blk_call H18.out BZ.out)
          obtain ⟨y1, y2⟩ := prow_c (prow_below RM.out BZ.out) 3 (by have := NM.out; omega) 6 7 rfl rfl
          skip
          have key : (M.getD 3 (0, 0)).1 = ey ∧ (M.getD 3 (0, 0)).2 = fy := KY.out
          rw [key.1] at y1
          rw [key.2] at y2
          clear key
          go_wp2_with fail
          refine (locate_at ga _ ca S ey fy zy _ rfl hzy (by omega) s12 PA_.out VS.out.allr2 viy.out.1.inr viy.out.2.inr).mono ?_
          rintro e s3 ⟨rfl, hb⟩
          replace BZ := Lib.hid (belT BZ.out hb)
          replace PA_ := Lib.hid (prow_below PA_.out hb)
          clear hb
          clear y0 y1 y2 KY
          go_wp2_with fail
          clear nbx nby
          rw [rounds_succ]
          have c0 := atI_g AI.out (blk_call H17.out BZ.out)
          go_wp2_with fail
          refine (polygons_is _ bo 4 _ 4 cb L b tL _ NL.out rfl htL (by omega) (by omega) (by omega) b12 (prow_below RL.out BZ.out) (prow_below RB.out BZ.out) VL.out.allr2 VB.out.allr2).mono ?_
          rintro e n1 ⟨rfl, hb⟩
          replace BZ := Lib.hid (belT BZ.out hb)
          replace PA_ := Lib.hid (prow_below PA_.out hb)
          clear hb
          clear c0
          cases tL
          · skip
            have c0 := atI_m AI.out (blk_call H18.out BZ.out)
            go_wp2_with fail
            refine (polygons_is _ bo 4 _ 4 cb M b tM _ NM.out rfl htM (by omega) (by omega) (by omega) b12 (prow_below RM.out BZ.out) (prow_below RB.out BZ.out) VM.out.allr2 VB.out.allr2).mono ?_
            rintro e n2 ⟨rfl, hb⟩
            replace BZ := Lib.hid (belT BZ.out hb)
            replace PA_ := Lib.hid (prow_below PA_.out hb)
            clear hb
            clear c0
            cases tM
            · go_wp2_with fail
              go_roundw
              case rel => exact ⟨BZ.out, i + 1, by go_num, by omega, by omega⟩
              case measure => simp [intOf]; omega
            have tt := WM.out rfl
            subst tt
            go_wp2_with fail
            refine (polygons_is _ bo _ _ ca cb S b true _ rfl rfl htS (by omega) (by omega) s12 b12 PA_.out (prow_below RB.out BZ.out) VS.out.allr2 VB.out.allr2).mono ?_
            rintro e n3 ⟨rfl, hb⟩
            replace BZ := Lib.hid (belT BZ.out hb)
            replace PA_ := Lib.hid (prow_below PA_.out hb)
            clear hb
            go_wp2_with fail
            go_roundw
            case rel => exact ⟨BZ.out, i + 1, by go_num, by omega, by omega⟩
            case measure => simp [intOf]; omega
          have tt := WL.out rfl
          subst tt
          go_wp2_with fail
          refine (polygons_is _ bo _ _ ca cb S b true _ rfl rfl htS (by omega) (by omega) s12 b12 PA_.out (prow_below RB.out BZ.out) VS.out.allr2 VB.out.allr2).mono ?_
          rintro e n3 ⟨rfl, hb⟩
          replace BZ := Lib.hid (belT BZ.out hb)
          replace PA_ := Lib.hid (prow_below PA_.out hb)
          clear hb
          go_wp2_with fail
          go_roundw
          case rel => exact ⟨BZ.out, i + 1, by go_num, by omega, by omega⟩
          case measure => simp [intOf]; omega

set_option maxRecDepth 100000 in
theorem lifted (os : Os) (started : os.Started) (H : Type) (enc : TypeId × Value → H) :
    ReturnsInHanded {} Tryz.checked os 4 .any (fun w args => (Rows.topSweptStepSpec.pre enc Tryz.prog Tryz.f4 [] false w args ∧ laidMetH Tryz.prog Rows.topSweptStepRow.laid w) ∧ sizedMet enc Tryz.prog Tryz.f4 (OpenSpec.ofChange Rows.topSweptStepSpec) false w args)
      (Rows.topSweptStepSpec.post enc Tryz.prog Tryz.f4 false true false false) := by
  refine returnsInHanded_of_change_and (C := Tryz.checked) (X := fun w _ => laidMetH Tryz.prog Rows.topSweptStepRow.laid w) (fun _ _ _ hh h => h.of_heap hh) own started (by kernel_rfl) Tryz.func4
    (ChangeSpec.witness_shaped (enc := enc) (C := Tryz.checked) (os := os) (X := fun w _ => laidMetH Tryz.prog Rows.topSweptStepRow.laid w) false (World.doorLaid Tryz.prog 600 os) #[.agg #[.int .i64 0, .int .i64 0, .int .i64 0, .int .i64 0, .int .i64 0, .int .i64 0, .int .i64 0, .int .i64 0, .int .i64 0, .int .i64 0, .int .i64 0, .int .i64 0], .agg #[.int .u8 0, .int .u8 0, .int .u8 0], .int .u8 0, .bool false, .slice none 0 0] 8 rfl (World.shaped_of_RefB (by kernel_rfl) (by kernel_rfl)) (by kernel_rfl) (by kernel_rfl) (by kernel_rfl) (show laidMetH Tryz.prog [(qn, Rows.laid_ambidexter_rotation_quadrant)] _ from door_met os _)) ?_
  intro W base args ds gs before hval0 hW _ _ hL _
  have hval : ∀ (j : Nat) t v, Tryz.f4.params[j]? = some t → args[j]? = some v → Value.okWide Tryz.prog W .any base t v := hval0
  have hW' := hW
  obtain ⟨p, q, hA0, hV, rfl, hfz, hnd⟩ := hW
  have hA : DataW.TrodAll enc Tryz.prog W 0 (fun _ => true) true Tryz.f4.params.toList args.toList ds p := hA0
  rw [Tryz.params4] at hA hval
  obtain ⟨v0, vs0, d0, ds0, p0, q0, hargs, rfl, rfl, h0, r0⟩ := trodAll_cons hA
  obtain ⟨v1, vs1, d1, ds1, p1, q1, rfl, rfl, rfl, h1, r1⟩ := trodAll_cons r0
  obtain ⟨v2, vs2, d2, ds2, p2, q2, rfl, rfl, rfl, h2, r2⟩ := trodAll_cons r1
  obtain ⟨v3, vs3, d3, ds3, p3, q3, rfl, rfl, rfl, h3, r3⟩ := trodAll_cons r2
  obtain ⟨v4, vs4, d4, ds4, p4, q4, rfl, rfl, rfl, h4, r4⟩ := trodAll_cons r3
  obtain ⟨rfl, rfl, rfl⟩ := trodAll_nil r4
  obtain rfl : args = #[v0, v1, v2, v3, v4] := by cases args; simp_all
  obtain ⟨rfl, rfl⟩ := trodVars_none hV
  have k0 := h0
  have lt0 : ∀ x ∈ p0, x.block < W.heap.size := by obtain ⟨m, hm⟩ := k0; exact DataW.trod_lt m _ _ _ hm
  obtain ⟨c0_0, c0_1, c0_2, c0_3, c0_4, c0_5, c0_6, c0_7, c0_8, c0_9, c0_10, c0_11, rfl⟩ := AFr.open_arm (hval 0 27 v0 rfl rfl) h0
  have k1 := h1
  have lt1 : ∀ x ∈ p1, x.block < W.heap.size := by obtain ⟨m, hm⟩ := k1; exact DataW.trod_lt m _ _ _ hm
  obtain ⟨c1_0, c1_1, c1_2, rfl, b1_0, b1_1, b1_2⟩ := AFr.open_raw (hval 1 28 v1 rfl rfl) h1
  obtain ⟨a2, rfl, rfl, rfl, w2⟩ := open_int Tryz.underlying5 (hval 2 5 v2 rfl rfl) h2
  obtain ⟨a3, rfl, rfl, rfl⟩ := open_bool Tryz.underlying4 (hval 3 4 v3 rfl rfl) h3
  have k4 := h4
  have lt4 : ∀ x ∈ p4, x.block < W.heap.size := by obtain ⟨m, hm⟩ := k4; exact DataW.trod_lt m _ _ _ hm
  obtain ⟨a4, cap4, l4, rfl, n4, w4⟩ := HFr.open_poly (hval 4 30 v4 rfl rfl) h4
  clear hA0 hval0
  simp only [List.append_nil] at hW'
  refine (walk c0_0 c0_1 c0_2 c0_3 c0_4 c0_5 c0_6 c0_7 c0_8 c0_9 c0_10 c0_11 c1_0 c1_1 c1_2 b1_0 b1_1 b1_2 a2 w2 a3 a4 cap4 l4 n4 W w4 (tab_of_laid hL)).mono fun e W' ⟨he, bel⟩ => ?_
  subst he
  exact ⟨_, rfl, _, _, _, [], _, [], hW', trodAll_mk1 (shut_bool Tryz.underlying4 _), (trodAll_cons_mk (Below.trod HFr.laidOut (by kernel_rfl) (of_decide_eq_true (by kernel_rfl)) k0 bel lt0) (trodAll_cons_mk (Below.trod HFr.laidOut (by kernel_rfl) (of_decide_eq_true (by kernel_rfl)) k1 bel lt1) (trodAll_cons_mk (shut_int Tryz.underlying5 w2) (trodAll_cons_mk (shut_bool Tryz.underlying4 _) (trodAll_cons_mk (Below.trod HFr.laidOut (by kernel_rfl) (of_decide_eq_true (by kernel_rfl)) k4 bel lt4) trodAll_mk0))))), rfl, bel.frame _, fun h => by cases h⟩

theorem holds : Rows.TopSweptStepSaid :=
  OpenClaim.holds_of_wide 4 Tryz.f4 rfl rfl rfl rfl rfl rfl rfl ⟨rfl, rfl, rfl, rfl, rfl⟩ rfl rfl rfl rfl rfl (by kernel_rfl) Tryz.func4 (by kernel_rfl)
    (of_decide_eq_true (by kernel_rfl)) (by unfold Func.isWrapper; first | (rw [if_pos (by decide +kernel)]; kernel_rfl) | (rw [if_neg (by decide +kernel)]; exact ⟨rfl, rfl⟩))
    (fun os started H enc _ => lifted os started H enc)

/-- THE STATEMENT: the tied card. -/
theorem card_holds : Rows.TopSweptStepCardSaid :=
  Claim7.holds_tied_plain_at .later [] [.data] true Rows.topSweptStepCard.stood.harness false
    holds (fun _ h => by cases h) (by kernel_rfl) (fun _ h => by cases h) topSweptStep_row_tie rfl ⟨rfl, rfl⟩ (by kernel_rfl) rfl
    (fun f fn hf hfn => by
      obtain rfl : f = 4 := Option.some.inj ((show Tryz.prog.funcNamed Rows.topSweptStepRow.func = some 4 by kernel_rfl).symm.trans hf) |>.symm
      obtain rfl : fn = Tryz.f4 := (Option.some.inj (Tryz.func4.symm.trans hfn)).symm
      exact ⟨by kernel_rfl, fun j t ht => by
        rw [Tryz.params4] at ht
        have hm : t ∈ [27, 28, 5, 4, 30] := by have := Array.mem_of_getElem? ht; simp only [List.mem_toArray, List.mem_cons, List.not_mem_nil, or_false] at this ⊢; grind
        have hall : ([27, 28, 5, 4, 30].all fun u => !Tryz.prog.wantsStandIn u) = true := by kernel_rfl
        exact (show Tryz.prog.wantsStandIn t = false by simpa using List.all_eq_true.1 hall t hm)⟩)
    (by kernel_rfl)
#print axioms card_holds
end Go.Proofs.YtalhkcmlacppjaaGreatDoor.topSweptStep

