/- The walk of ArmComposesRotations, joint 1. -/
import Derived.Test.YtalhkcmlacppjaaDoorAmX
namespace Go.Proofs.YtalhkcmlacppjaaDoor.armComposesRotations
open Go.ChangeShapes Go.WideShapes Go.ChangeAt Go.RowKit
set_option linter.unusedVariables false
set_option linter.unusedSimpArgs false
set_option maxRecDepth 100000

theorem wrapbB (n : Int) (h : -9000000000000000000 ≤ n ∧ n ≤ 9000000000000000000) : IntKind.i64.wrap n = n := by rw [IntKind.wrap_i64]; omega

set_option maxHeartbeats 8000000 in
theorem walk1t (X Y n0 n1 n2 W l0 l1 l2 h0 h1 h2 : Int) (r0 r1 r2 : Int) (hr0 : 0 ≤ r0 ∧ r0 ≤ 255) (hr1 : 0 ≤ r1 ∧ r1 ≤ 255) (hr2 : 0 ≤ r2 ∧ r2 ≤ 255) (j s : Int) (hj : 0 ≤ j ∧ j ≤ 255) (hs : 0 ≤ s ∧ s ≤ 255) (ej : j.tmod 2 = 1) (es5 : s % 5 ≤ 3) (e f : Int) (he : -128 ≤ e ∧ e ≤ 127) (hf : -128 ≤ f ∧ f ≤ 127) (w : World) (hT : Tab w) :
    Calls Tryd.prog 6 #[.agg #[.int .i64 X, .int .i64 Y, .int .i64 n0, .int .i64 n1, .int .i64 n2, .int .i64 W, .int .i64 l0, .int .i64 l1, .int .i64 l2, .int .i64 h0, .int .i64 h1, .int .i64 h2], .agg #[.int .u8 r0, .int .u8 r1, .int .u8 r2], .int .u8 j, .int .u8 s, .agg #[.int .i8 e, .int .i8 f]] w fun e w' => e = .returned (.bool true) ∧ Below w.heap.size w w' := by
  have B := Lib.hid (Below.refl w.heap.size w)
  have TT := Lib.hid hT
  clear hT
  go_enter Tryd.func6, Tryd.ntmps6
  go_wp2_with fail
  refine (head7_is _ (Tab.alloc (Tab.alloc (Tab.alloc TT.out (.cells #[.int .i64 X, .int .i64 Y, .int .i64 n0, .int .i64 n1, .int .i64 n2, .int .i64 W, .int .i64 l0, .int .i64 l1, .int .i64 l2, .int .i64 h0, .int .i64 h1, .int .i64 h2] 27)) (.cells #[.int .u8 r0, .int .u8 r1, .int .u8 r2] 28)) (.cells #[.int .i8 e, .int .i8 f] 55))).mono ?_
  rintro e w1 ⟨rfl, hb1⟩
  have HA := Lib.hid (blk_call (blk_alloc (blk_alloc (blk_new w (.cells #[.int .i64 X, .int .i64 Y, .int .i64 n0, .int .i64 n1, .int .i64 n2, .int .i64 W, .int .i64 l0, .int .i64 l1, .int .i64 l2, .int .i64 h0, .int .i64 h1, .int .i64 h2] 27) (w.heap.size) rfl) (.cells #[.int .u8 r0, .int .u8 r1, .int .u8 r2] 28)) (.cells #[.int .i8 e, .int .i8 f] 55)) hb1)
  have HW := Lib.hid (blk_call (blk_alloc (blk_new (w.alloc (.cells #[.int .i64 X, .int .i64 Y, .int .i64 n0, .int .i64 n1, .int .i64 n2, .int .i64 W, .int .i64 l0, .int .i64 l1, .int .i64 l2, .int .i64 h0, .int .i64 h1, .int .i64 h2] 27)) (.cells #[.int .u8 r0, .int .u8 r1, .int .u8 r2] 28) (w.heap.size + 1) (by simp)) (.cells #[.int .i8 e, .int .i8 f] 55)) hb1)
  have HP := Lib.hid (blk_call (blk_new ((w.alloc (.cells #[.int .i64 X, .int .i64 Y, .int .i64 n0, .int .i64 n1, .int .i64 n2, .int .i64 W, .int .i64 l0, .int .i64 l1, .int .i64 l2, .int .i64 h0, .int .i64 h1, .int .i64 h2] 27)).alloc (.cells #[.int .u8 r0, .int .u8 r1, .int .u8 r2] 28)) (.cells #[.int .i8 e, .int .i8 f] 55) (w.heap.size + 1 + 1) (by simp)) hb1)
  replace B := Lib.hid (belT (belA (belA (belA B.out (.cells #[.int .i64 X, .int .i64 Y, .int .i64 n0, .int .i64 n1, .int .i64 n2, .int .i64 W, .int .i64 l0, .int .i64 l1, .int .i64 l2, .int .i64 h0, .int .i64 h1, .int .i64 h2] 27)) (.cells #[.int .u8 r0, .int .u8 r1, .int .u8 r2] 28)) (.cells #[.int .i8 e, .int .i8 f] 55)) hb1)
  replace TT := Lib.hid (Tab.below (Tab.alloc (Tab.alloc (Tab.alloc TT.out (.cells #[.int .i64 X, .int .i64 Y, .int .i64 n0, .int .i64 n1, .int .i64 n2, .int .i64 W, .int .i64 l0, .int .i64 l1, .int .i64 l2, .int .i64 h0, .int .i64 h1, .int .i64 h2] 27)) (.cells #[.int .u8 r0, .int .u8 r1, .int .u8 r2] 28)) (.cells #[.int .i8 e, .int .i8 f] 55)) hb1)
  clear hb1
  obtain ⟨t, ht⟩ : ∃ t, armB X Y n0 n1 n2 W l0 l1 l2 h0 h1 h2 = t := ⟨_, rfl⟩
  have HT := Lib.hid ht
  clear ht
  have c0 := blk_cell HA.out 0 _ rfl
  have c1 := blk_cell HA.out 1 _ rfl
  have c2 := blk_cell HA.out 2 _ rfl
  have c3 := blk_cell HA.out 3 _ rfl
  have c4 := blk_cell HA.out 4 _ rfl
  have c5 := blk_cell HA.out 5 _ rfl
  have c6 := blk_cell HA.out 6 _ rfl
  have c7 := blk_cell HA.out 7 _ rfl
  have c8 := blk_cell HA.out 8 _ rfl
  have c9 := blk_cell HA.out 9 _ rfl
  have c10 := blk_cell HA.out 10 _ rfl
  have c11 := blk_cell HA.out 11 _ rfl
  go_wp2_with fail
  refine (armv_is X Y n0 n1 n2 W l0 l1 l2 h0 h1 h2 t _ HT).mono ?_
  rintro e w2 ⟨rfl, hb2⟩
  clear c0 c1 c2 c3 c4 c5 c6 c7 c8 c9 c10 c11
  replace HA := Lib.hid (blk_call HA.out hb2)
  replace HW := Lib.hid (blk_call HW.out hb2)
  replace HP := Lib.hid (blk_call HP.out hb2)
  replace B := Lib.hid (belT B.out hb2)
  replace TT := Lib.hid (Tab.below TT.out hb2)
  clear hb2
  cases t
  · go_wp2_with fail
    go_ret
    exact ⟨rfl, B.out⟩
  have JB0 := Lib.hid (jq_bd (l := l0) (h := h0) (by have := (armB_iff X Y n0 n1 n2 W l0 l1 l2 h0 h1 h2).1 HT.out; omega) hr0.1)
  have JB1 := Lib.hid (jq_bd (l := l1) (h := h1) (by have := (armB_iff X Y n0 n1 n2 W l0 l1 l2 h0 h1 h2).1 HT.out; omega) hr1.1)
  have JB2 := Lib.hid (jq_bd (l := l2) (h := h2) (by have := (armB_iff X Y n0 n1 n2 W l0 l1 l2 h0 h1 h2).1 HT.out; omega) hr2.1)
  obtain ⟨q0, hq0⟩ : ∃ q, jq l0 h0 r0 = q := ⟨_, rfl⟩
  rw [hq0] at JB0
  have k0 : -1000 ≤ q0 ∧ q0 ≤ 1000 := by have := (armB_iff X Y n0 n1 n2 W l0 l1 l2 h0 h1 h2).1 HT.out; have := JB0.out; omega
  replace hq0 := Lib.hid hq0
  obtain ⟨q1, hq1⟩ : ∃ q, jq l1 h1 r1 = q := ⟨_, rfl⟩
  rw [hq1] at JB1
  have k1 : -1000 ≤ q1 ∧ q1 ≤ 1000 := by have := (armB_iff X Y n0 n1 n2 W l0 l1 l2 h0 h1 h2).1 HT.out; have := JB1.out; omega
  replace hq1 := Lib.hid hq1
  obtain ⟨q2, hq2⟩ : ∃ q, jq l2 h2 r2 = q := ⟨_, rfl⟩
  rw [hq2] at JB2
  have k2 : -1000 ≤ q2 ∧ q2 ≤ 1000 := by have := (armB_iff X Y n0 n1 n2 W l0 l1 l2 h0 h1 h2).1 HT.out; have := JB2.out; omega
  replace hq2 := Lib.hid hq2
  have JQ : Hid (∀ w : World, Calls Tryd.prog 15 #[.agg #[.int .i64 X, .int .i64 Y, .int .i64 n0, .int .i64 n1, .int .i64 n2, .int .i64 W, .int .i64 l0, .int .i64 l1, .int .i64 l2, .int .i64 h0, .int .i64 h1, .int .i64 h2], .agg #[.int .u8 r0, .int .u8 r1, .int .u8 r2]] w fun e w' => e = .returned (.agg #[.int .i64 q0, .int .i64 q1, .int .i64 q2]) ∧ Below w.heap.size w w') := Lib.hid (fun w => by have := joint_is X Y n0 n1 n2 W l0 l1 l2 h0 h1 h2 r0 r1 r2 w HT hr0 hr1 hr2; rwa [hq0.out, hq1.out, hq2.out] at this)
  obtain ⟨x1, x2, x3, y1, y2, y3, u1, u2, u3, v1, v2, v3, a1, a2, a3, b1, b2, b3, PP⟩ := pose_ex X Y n0 n1 n2 q0 q1 q2
  replace PP := Lib.hid PP
  obtain ⟨m, hm⟩ : ∃ m, s % 5 = m := ⟨_, rfl⟩
  have mb : 0 ≤ m ∧ m ≤ 3 := by omega
  have es : s.tmod 5 = m := by rw [Int.tmod_eq_emod_of_nonneg hs.1, hm]
  clear hm es5
  obtain ⟨x1p, x2p, x3p, y1p, y2p, y3p, u1p, u2p, u3p, v1p, v2p, v3p, a1p, a2p, a3p, b1p, b2p, b3p, PQ⟩ := pose_ex X Y n0 n1 n2 q0 (q1 + 9 * m) (q2 - 9 * m)
  obtain ⟨E1, E2⟩ := turn1 PP.out mb.1 mb.2 PQ
  replace E1 := E1.symm
  replace E2 := E2.symm
  simp only [Prod.mk.injEq] at E1 E2
  obtain ⟨rfl, rfl⟩ := E1
  obtain ⟨rfl, rfl⟩ := E2
  replace PQ := Lib.hid PQ
  have kr0 : -1000 ≤ q0 ∧ q0 ≤ 1000 := by have := (armB_iff X Y n0 n1 n2 W l0 l1 l2 h0 h1 h2).1 HT.out; have := JB0.out; have := JB1.out; have := JB2.out; omega
  have kr1 : -1000 ≤ (q1 + 9 * m) ∧ (q1 + 9 * m) ≤ 1000 := by have := (armB_iff X Y n0 n1 n2 W l0 l1 l2 h0 h1 h2).1 HT.out; have := JB0.out; have := JB1.out; have := JB2.out; omega
  have kr2 : -1000 ≤ (q2 - 9 * m) ∧ (q2 - 9 * m) ≤ 1000 := by have := (armB_iff X Y n0 n1 n2 W l0 l1 l2 h0 h1 h2).1 HT.out; have := JB0.out; have := JB1.out; have := JB2.out; omega
  have c0 := blk_cell HA.out 0 _ rfl
  have c1 := blk_cell HA.out 1 _ rfl
  have c2 := blk_cell HA.out 2 _ rfl
  have c3 := blk_cell HA.out 3 _ rfl
  have c4 := blk_cell HA.out 4 _ rfl
  have c5 := blk_cell HA.out 5 _ rfl
  have c6 := blk_cell HA.out 6 _ rfl
  have c7 := blk_cell HA.out 7 _ rfl
  have c8 := blk_cell HA.out 8 _ rfl
  have c9 := blk_cell HA.out 9 _ rfl
  have c10 := blk_cell HA.out 10 _ rfl
  have c11 := blk_cell HA.out 11 _ rfl
  have d0 := blk_cell HW.out 0 _ rfl
  have d1 := blk_cell HW.out 1 _ rfl
  have d2 := blk_cell HW.out 2 _ rfl
  go_wp2_with fail
  refine (JQ.out _).mono ?_
  rintro e w3 ⟨rfl, hb3⟩
  clear c0 c1 c2 c3 c4 c5 c6 c7 c8 c9 c10 c11 d0 d1 d2
  replace HA := Lib.hid (blk_call HA.out hb3)
  replace HW := Lib.hid (blk_call HW.out hb3)
  replace HP := Lib.hid (blk_call HP.out hb3)
  replace B := Lib.hid (belT B.out hb3)
  replace TT := Lib.hid (Tab.below TT.out hb3)
  clear hb3
  go_upto_region 12 with fail
  replace HA := Lib.hid (blk_alloc (blk_alloc HA.out (.cells #[.int .i64 q0, .int .i64 q1, .int .i64 q2] 25)) (.cells #[.int .i64 q0, .int .i64 (q1 + 9 * m), .int .i64 (q2 - 9 * m)] 25))
  replace HW := Lib.hid (blk_alloc (blk_alloc HW.out (.cells #[.int .i64 q0, .int .i64 q1, .int .i64 q2] 25)) (.cells #[.int .i64 q0, .int .i64 (q1 + 9 * m), .int .i64 (q2 - 9 * m)] 25))
  replace HP := Lib.hid (blk_alloc (blk_alloc HP.out (.cells #[.int .i64 q0, .int .i64 q1, .int .i64 q2] 25)) (.cells #[.int .i64 q0, .int .i64 (q1 + 9 * m), .int .i64 (q2 - 9 * m)] 25))
  have HQ := Lib.hid (blk_alloc (blk_new w3 (.cells #[.int .i64 q0, .int .i64 q1, .int .i64 q2] 25) (w3.heap.size) rfl) (.cells #[.int .i64 q0, .int .i64 (q1 + 9 * m), .int .i64 (q2 - 9 * m)] 25))
  have HR := Lib.hid (blk_new (w3.alloc (.cells #[.int .i64 q0, .int .i64 q1, .int .i64 q2] 25)) (.cells #[.int .i64 q0, .int .i64 (q1 + 9 * m), .int .i64 (q2 - 9 * m)] 25) (w3.heap.size + 1) (by simp))
  replace B := Lib.hid (belA (belA B.out (.cells #[.int .i64 q0, .int .i64 q1, .int .i64 q2] 25)) (.cells #[.int .i64 q0, .int .i64 (q1 + 9 * m), .int .i64 (q2 - 9 * m)] 25))
  replace TT := Lib.hid (Tab.alloc (Tab.alloc TT.out (.cells #[.int .i64 q0, .int .i64 q1, .int .i64 q2] 25)) (.cells #[.int .i64 q0, .int .i64 (q1 + 9 * m), .int .i64 (q2 - 9 * m)] 25))
  generalize ((w3.alloc (.cells #[.int .i64 q0, .int .i64 q1, .int .i64 q2] 25)).alloc (.cells #[.int .i64 q0, .int .i64 (q1 + 9 * m), .int .i64 (q2 - 9 * m)] 25)) = W1 at *
  obtain ⟨bbv, hbb⟩ : ∃ z, W1.heap.size = z := ⟨_, rfl⟩
  replace hbb := Lib.hid hbb
  have c0 := blk_cell HA.out 0 _ rfl
  have c1 := blk_cell HA.out 1 _ rfl
  have c2 := blk_cell HA.out 2 _ rfl
  have c3 := blk_cell HA.out 3 _ rfl
  have c4 := blk_cell HA.out 4 _ rfl
  have c5 := blk_cell HA.out 5 _ rfl
  have c6 := blk_cell HA.out 6 _ rfl
  have c7 := blk_cell HA.out 7 _ rfl
  have c8 := blk_cell HA.out 8 _ rfl
  have c9 := blk_cell HA.out 9 _ rfl
  have c10 := blk_cell HA.out 10 _ rfl
  have c11 := blk_cell HA.out 11 _ rfl
  go_upto_region 13 with fail
  clear c0 c1 c2 c3 c4 c5 c6 c7 c8 c9 c10 c11
  have c0 := blk_cell (blk_alloc HA.out (.cells #[.int .i64 X, .int .i64 Y, .int .i64 n0, .int .i64 n1, .int .i64 n2, .int .i64 W, .int .i64 l0, .int .i64 l1, .int .i64 l2, .int .i64 h0, .int .i64 h1, .int .i64 h2] 27)) 0 _ rfl
  have c1 := blk_cell (blk_alloc HA.out (.cells #[.int .i64 X, .int .i64 Y, .int .i64 n0, .int .i64 n1, .int .i64 n2, .int .i64 W, .int .i64 l0, .int .i64 l1, .int .i64 l2, .int .i64 h0, .int .i64 h1, .int .i64 h2] 27)) 1 _ rfl
  have d0 := blk_cell (blk_alloc HP.out (.cells #[.int .i64 X, .int .i64 Y, .int .i64 n0, .int .i64 n1, .int .i64 n2, .int .i64 W, .int .i64 l0, .int .i64 l1, .int .i64 l2, .int .i64 h0, .int .i64 h1, .int .i64 h2] 27)) 0 _ rfl
  have d1 := blk_cell (blk_alloc HP.out (.cells #[.int .i64 X, .int .i64 Y, .int .i64 n0, .int .i64 n1, .int .i64 n2, .int .i64 W, .int .i64 l0, .int .i64 l1, .int .i64 l2, .int .i64 h0, .int .i64 h1, .int .i64 h2] 27)) 1 _ rfl
  have Xb : (-1000000000 ≤ X ∧ X ≤ 1000000000) ∧ -1000000000 ≤ Y ∧ Y ≤ 1000000000 := by have := (armB_iff X Y n0 n1 n2 W l0 l1 l2 h0 h1 h2).1 HT.out; omega
  go_upto_region 14 with fail
  clear hbb c0 c1 d0 d1
  replace HA := Lib.hid (blk_alloc HA.out (.cells #[.int .i64 (X + 16 * e), .int .i64 (Y + 16 * f), .int .i64 n0, .int .i64 n1, .int .i64 n2, .int .i64 W, .int .i64 l0, .int .i64 l1, .int .i64 l2, .int .i64 h0, .int .i64 h1, .int .i64 h2] 27))
  replace HW := Lib.hid (blk_alloc HW.out (.cells #[.int .i64 (X + 16 * e), .int .i64 (Y + 16 * f), .int .i64 n0, .int .i64 n1, .int .i64 n2, .int .i64 W, .int .i64 l0, .int .i64 l1, .int .i64 l2, .int .i64 h0, .int .i64 h1, .int .i64 h2] 27))
  replace HP := Lib.hid (blk_alloc HP.out (.cells #[.int .i64 (X + 16 * e), .int .i64 (Y + 16 * f), .int .i64 n0, .int .i64 n1, .int .i64 n2, .int .i64 W, .int .i64 l0, .int .i64 l1, .int .i64 l2, .int .i64 h0, .int .i64 h1, .int .i64 h2] 27))
  replace HQ := Lib.hid (blk_alloc HQ.out (.cells #[.int .i64 (X + 16 * e), .int .i64 (Y + 16 * f), .int .i64 n0, .int .i64 n1, .int .i64 n2, .int .i64 W, .int .i64 l0, .int .i64 l1, .int .i64 l2, .int .i64 h0, .int .i64 h1, .int .i64 h2] 27))
  replace HR := Lib.hid (blk_alloc HR.out (.cells #[.int .i64 (X + 16 * e), .int .i64 (Y + 16 * f), .int .i64 n0, .int .i64 n1, .int .i64 n2, .int .i64 W, .int .i64 l0, .int .i64 l1, .int .i64 l2, .int .i64 h0, .int .i64 h1, .int .i64 h2] 27))
  have HB := Lib.hid (blk_new W1 (.cells #[.int .i64 (X + 16 * e), .int .i64 (Y + 16 * f), .int .i64 n0, .int .i64 n1, .int .i64 n2, .int .i64 W, .int .i64 l0, .int .i64 l1, .int .i64 l2, .int .i64 h0, .int .i64 h1, .int .i64 h2] 27) (W1.heap.size) rfl)
  replace B := Lib.hid (belA B.out (.cells #[.int .i64 (X + 16 * e), .int .i64 (Y + 16 * f), .int .i64 n0, .int .i64 n1, .int .i64 n2, .int .i64 W, .int .i64 l0, .int .i64 l1, .int .i64 l2, .int .i64 h0, .int .i64 h1, .int .i64 h2] 27))
  replace TT := Lib.hid (Tab.alloc TT.out (.cells #[.int .i64 (X + 16 * e), .int .i64 (Y + 16 * f), .int .i64 n0, .int .i64 n1, .int .i64 n2, .int .i64 W, .int .i64 l0, .int .i64 l1, .int .i64 l2, .int .i64 h0, .int .i64 h1, .int .i64 h2] 27))
  generalize (W1.alloc (.cells #[.int .i64 (X + 16 * e), .int .i64 (Y + 16 * f), .int .i64 n0, .int .i64 n1, .int .i64 n2, .int .i64 W, .int .i64 l0, .int .i64 l1, .int .i64 l2, .int .i64 h0, .int .i64 h1, .int .i64 h2] 27)) = W2 at *
  have c0 := blk_cell HB.out 0 _ rfl
  have c1 := blk_cell HB.out 1 _ rfl
  have c2 := blk_cell HB.out 2 _ rfl
  have c3 := blk_cell HB.out 3 _ rfl
  have c4 := blk_cell HB.out 4 _ rfl
  have c5 := blk_cell HB.out 5 _ rfl
  have c6 := blk_cell HB.out 6 _ rfl
  have c7 := blk_cell HB.out 7 _ rfl
  have c8 := blk_cell HB.out 8 _ rfl
  have c9 := blk_cell HB.out 9 _ rfl
  have c10 := blk_cell HB.out 10 _ rfl
  have c11 := blk_cell HB.out 11 _ rfl
  obtain ⟨tb, htb⟩ : ∃ t, armB (X + 16 * e) (Y + 16 * f) n0 n1 n2 W l0 l1 l2 h0 h1 h2 = t := ⟨_, rfl⟩
  replace htb := Lib.hid htb
  go_wp2_with fail
  refine (armv_is (X + 16 * e) (Y + 16 * f) n0 n1 n2 W l0 l1 l2 h0 h1 h2 tb _ htb).mono ?_
  rintro e w4 ⟨rfl, hb4⟩
  clear c0 c1 c2 c3 c4 c5 c6 c7 c8 c9 c10 c11
  replace HA := Lib.hid (blk_call HA.out hb4)
  replace HW := Lib.hid (blk_call HW.out hb4)
  replace HP := Lib.hid (blk_call HP.out hb4)
  replace HQ := Lib.hid (blk_call HQ.out hb4)
  replace HR := Lib.hid (blk_call HR.out hb4)
  replace HB := Lib.hid (blk_call HB.out hb4)
  replace B := Lib.hid (belT B.out hb4)
  replace TT := Lib.hid (Tab.below TT.out hb4)
  clear hb4
  cases tb
  · skip
    have c0 := blk_cell HA.out 0 _ rfl
    have c1 := blk_cell HA.out 1 _ rfl
    have c2 := blk_cell HA.out 2 _ rfl
    have c3 := blk_cell HA.out 3 _ rfl
    have c4 := blk_cell HA.out 4 _ rfl
    have c5 := blk_cell HA.out 5 _ rfl
    have c6 := blk_cell HA.out 6 _ rfl
    have c7 := blk_cell HA.out 7 _ rfl
    have c8 := blk_cell HA.out 8 _ rfl
    have c9 := blk_cell HA.out 9 _ rfl
    have c10 := blk_cell HA.out 10 _ rfl
    have c11 := blk_cell HA.out 11 _ rfl
    have d0 := blk_cell HR.out 0 _ rfl
    have d1 := blk_cell HR.out 1 _ rfl
    have d2 := blk_cell HR.out 2 _ rfl
    obtain ⟨ti, hti⟩ : ∃ t, fitB l0 l1 l2 h0 h1 h2 q0 (q1 + 9 * m) (q2 - 9 * m) = t := ⟨_, rfl⟩
    replace hti := Lib.hid hti
    go_wp2_with fail
    refine (inlim_is X Y n0 n1 n2 W l0 l1 l2 h0 h1 h2 q0 (q1 + 9 * m) (q2 - 9 * m) ti _ hti).mono ?_
    rintro e w5 ⟨rfl, hb5⟩
    clear c0 c1 c2 c3 c4 c5 c6 c7 c8 c9 c10 c11 d0 d1 d2
    replace HA := Lib.hid (blk_call HA.out hb5)
    replace HW := Lib.hid (blk_call HW.out hb5)
    replace HP := Lib.hid (blk_call HP.out hb5)
    replace HQ := Lib.hid (blk_call HQ.out hb5)
    replace HR := Lib.hid (blk_call HR.out hb5)
    replace HB := Lib.hid (blk_call HB.out hb5)
    replace B := Lib.hid (belT B.out hb5)
    replace TT := Lib.hid (Tab.below TT.out hb5)
    clear hb5
    cases ti
    · go_wp2_with fail
      go_ret
      exact ⟨rfl, B.out⟩
    go_upto_region 23 with fail
    obtain ⟨sp, hsp⟩ : ∃ sp : ToldS, sp = [none, none, none, none, none, none, none, none, none, none, none, none, none, none, none, none, none, none, none, some (newS w5.heap.size #[.int .i64 0, .int .i64 0, .int .i64 0, .int .i64 0, .int .i64 0, .int .i64 0, .int .i64 0, .int .i64 0, .int .i64 0] 42), some (newS w5.heap.size #[.int .i64 0, .int .i64 0, .int .i64 0, .int .i64 0, .int .i64 0, .int .i64 0, .int .i64 0, .int .i64 0, .int .i64 0] 42), none, none, none, none, none, none, none, none, none, none, none, none, none, none, none, none, none, none, none, none, none, none, none, none, none, none, none, none, none, none, none, none, none, none, none, none, none, none, none, none, none, none, none, none, none, none, none, none, none, none, none, none, none, none, none, none, none, none, none, none, none, none, none, none, none, none, none, none, none, none, none, none, none, none, none, none, none, none, none, none, none, none, none, none, none, none, none, none, none, none, none, none, none, none, none, none, none, none, none, none, none, none, none, none, none, none, none, none, none, none, none, none, none, none, none, none, some (eqS (.agg #[.int .i64 X, .int .i64 Y, .int .i64 n0, .int .i64 n1, .int .i64 n2, .int .i64 W, .int .i64 l0, .int .i64 l1, .int .i64 l2, .int .i64 h0, .int .i64 h1, .int .i64 h2])), some (eqS (.agg #[.int .i64 q0, .int .i64 q1, .int .i64 q2])), some (eqS (.agg #[.int .i64 x1, .int .i64 y1, .int .i64 1, .int .i64 x2, .int .i64 y2, .int .i64 2, .int .i64 x3, .int .i64 y3, .int .i64 3])), some (eqS (.agg #[.int .i64 X, .int .i64 Y, .int .i64 n0, .int .i64 n1, .int .i64 n2, .int .i64 W, .int .i64 l0, .int .i64 l1, .int .i64 l2, .int .i64 h0, .int .i64 h1, .int .i64 h2])), some (eqS (.agg #[.int .i64 q0, .int .i64 (q1 + 9 * m), .int .i64 (q2 - 9 * m)])), some (eqS (.agg #[.int .i64 x1, .int .i64 y1, .int .i64 1, .int .i64 x2p, .int .i64 y2p, .int .i64 2, .int .i64 x3, .int .i64 y3, .int .i64 3]))] := ⟨_, rfl⟩
    have s19 : sp.getD 19 none = some (newS w5.heap.size #[.int .i64 0, .int .i64 0, .int .i64 0, .int .i64 0, .int .i64 0, .int .i64 0, .int .i64 0, .int .i64 0, .int .i64 0] 42) := by rw [hsp]; rfl
    have s20 : sp.getD 20 none = some (newS w5.heap.size #[.int .i64 0, .int .i64 0, .int .i64 0, .int .i64 0, .int .i64 0, .int .i64 0, .int .i64 0, .int .i64 0, .int .i64 0] 42) := by rw [hsp]; rfl
    have s137 : sp.getD 137 none = some (eqS (.agg #[.int .i64 X, .int .i64 Y, .int .i64 n0, .int .i64 n1, .int .i64 n2, .int .i64 W, .int .i64 l0, .int .i64 l1, .int .i64 l2, .int .i64 h0, .int .i64 h1, .int .i64 h2])) := by rw [hsp]; rfl
    have s138 : sp.getD 138 none = some (eqS (.agg #[.int .i64 q0, .int .i64 q1, .int .i64 q2])) := by rw [hsp]; rfl
    have s139 : sp.getD 139 none = some (eqS (.agg #[.int .i64 x1, .int .i64 y1, .int .i64 1, .int .i64 x2, .int .i64 y2, .int .i64 2, .int .i64 x3, .int .i64 y3, .int .i64 3])) := by rw [hsp]; rfl
    have s140 : sp.getD 140 none = some (eqS (.agg #[.int .i64 X, .int .i64 Y, .int .i64 n0, .int .i64 n1, .int .i64 n2, .int .i64 W, .int .i64 l0, .int .i64 l1, .int .i64 l2, .int .i64 h0, .int .i64 h1, .int .i64 h2])) := by rw [hsp]; rfl
    have s141 : sp.getD 141 none = some (eqS (.agg #[.int .i64 q0, .int .i64 (q1 + 9 * m), .int .i64 (q2 - 9 * m)])) := by rw [hsp]; rfl
    have s142 : sp.getD 142 none = some (eqS (.agg #[.int .i64 x1, .int .i64 y1, .int .i64 1, .int .i64 x2p, .int .i64 y2p, .int .i64 2, .int .i64 x3, .int .i64 y3, .int .i64 3])) := by rw [hsp]; rfl
    clear hsp
    refine (wpIn_wide (n := 0)).1 (region_headF (FS := [19, 20]) (RtS sp) (rtS_keep sp) (fun t v w ht h => by rcases (by simpa using ht : t = 19 ∨ t = 20) with rfl | rfl <;> first | exact newS_fresh s19 h | exact newS_fresh s20 h) 8 rfl rfl rfl (by kernel_rfl) (by decide) (by kernel_rfl) (by kernel_rfl) (by kernel_rfl) ?_ ?_)
    · intro Q'; show ObsF _ _ _ _ _ _ _ _ _ (List.take _ _); simp only [List.take_succ_cons, List.take_zero]
      refine obsF_cons (obF_of ?_ (by intro d e; cases e; decide)) ?_
      · intro T wx K hB hF hD hK
        have g5 : T[5]? = some (.pointer (some ⟨w.heap.size, 0, none⟩)) := hF 5 (freeM_of (by kernel_rfl))
        refine ob_yes (wanted_none rfl) ?_
        clear hF hD
        exact wp_load_row 27 (.tmp 5) rfl w.heap.size (eval_tmp g5) _ _ _ _ (blk_call HA.out hB) Tryd.underlying27 rfl (by kernel_rfl) (hK _ _ (Below.refl _ _) (rt_eqS s137))
      refine obsF_cons (obF_of ?_ (by intro d e; cases e; decide)) ?_
      · intro T wx K hB hF hD hK
        have g12 : T[12]? = some (.pointer (some ⟨w3.heap.size, 0, none⟩)) := hF 12 (freeM_of (by kernel_rfl))
        refine ob_yes (wanted_none rfl) ?_
        clear hF hD
        exact wp_load_row 25 (.tmp 12) rfl (w3.heap.size) (eval_tmp g12) _ _ _ _ (blk_call HQ.out hB) Tryd.underlying25 rfl (by kernel_rfl) (hK _ _ (Below.refl _ _) (rt_eqS s138))
      refine obsF_cons (obF_of ?_ (by intro d e; cases e; decide)) ?_
      · intro T wx K hB hF hD hK
        have g137 := get_eqS (hD 0 137 (by simp [Region.binds]) (by kernel_rfl)) s137
        have g138 := get_eqS (hD 1 138 (by simp [Region.binds]) (by kernel_rfl)) s138
        refine ob_yes (wanted_none rfl) ?_
        clear hF hD
        go_simp
        refine (ldirs_is X Y n0 n1 n2 W l0 l1 l2 h0 h1 h2 q0 q1 q2 x1 y1 x2 y2 x3 y3 _ (TT.out.below hB) k0 k1 k2 (Lib.hid PP.out.e1) (Lib.hid PP.out.e2) (Lib.hid PP.out.e3)).mono ?_; rintro e w9 ⟨rfl, hb⟩
        exact hK _ _ hb (rt_eqS s139)
      refine obsF_cons (obF_of ?_ (by intro d e; cases e; decide)) ?_
      · intro T wx K hB hF hD hK
        have g5 : T[5]? = some (.pointer (some ⟨w.heap.size, 0, none⟩)) := hF 5 (freeM_of (by kernel_rfl))
        refine ob_yes (wanted_none rfl) ?_
        clear hF hD
        exact wp_load_row 27 (.tmp 5) rfl w.heap.size (eval_tmp g5) _ _ _ _ (blk_call HA.out hB) Tryd.underlying27 rfl (by kernel_rfl) (hK _ _ (Below.refl _ _) (rt_eqS s140))
      refine obsF_cons (obF_of ?_ (by intro d e; cases e; decide)) ?_
      · intro T wx K hB hF hD hK
        have g14 : T[14]? = some (.pointer (some ⟨w3.heap.size + 1, 0, none⟩)) := hF 14 (freeM_of (by kernel_rfl))
        refine ob_yes (wanted_none rfl) ?_
        clear hF hD
        exact wp_load_row 25 (.tmp 14) rfl (w3.heap.size + 1) (eval_tmp g14) _ _ _ _ (blk_call HR.out hB) Tryd.underlying25 rfl (by kernel_rfl) (hK _ _ (Below.refl _ _) (rt_eqS s141))
      refine obsF_cons (obF_of ?_ (by intro d e; cases e; decide)) ?_
      · intro T wx K hB hF hD hK
        have g140 := get_eqS (hD 3 140 (by simp [Region.binds]) (by kernel_rfl)) s140
        have g141 := get_eqS (hD 4 141 (by simp [Region.binds]) (by kernel_rfl)) s141
        refine ob_yes (wanted_none rfl) ?_
        clear hF hD
        go_simp
        refine (ldirs_is X Y n0 n1 n2 W l0 l1 l2 h0 h1 h2 q0 (q1 + 9 * m) (q2 - 9 * m) x1 y1 x2p y2p x3 y3 _ (TT.out.below hB) kr0 kr1 kr2 (Lib.hid PQ.out.e1) (Lib.hid PQ.out.e2) (Lib.hid PQ.out.e3)).mono ?_; rintro e w9 ⟨rfl, hb⟩
        exact hK _ _ hb (rt_eqS s142)
      refine obsF_cons ?_ ?_
      · intro T wx K hB hF hD hK
        refine ob_yes (wanted_none rfl) ?_
        clear hF hD
        go_simp
        exact hK _ _ (belA (Below.refl _ _) _) (fun d e => by cases e; exact ⟨rt_S s19 ⟨_, rfl, hB.size, blk_new _ _ _ rfl⟩ _ rfl, fun _ => rfl⟩)
      refine obsF_cons ?_ ?_
      · intro T wx K hB hF hD hK
        refine ob_yes (wanted_none rfl) ?_
        clear hF hD
        go_simp
        exact hK _ _ (belA (Below.refl _ _) _) (fun d e => by cases e; exact ⟨rt_S s20 ⟨_, rfl, hB.size, blk_new _ _ _ rfl⟩ _ rfl, fun _ => rfl⟩)
      exact obsF_nil
    · intro T8 v8 hb8 hF hs hD hN
      have g137 := get_eqS (hD 0 137 (by decide) (by kernel_rfl)) s137
      have g138 := get_eqS (hD 1 138 (by decide) (by kernel_rfl)) s138
      have g139 := get_eqS (hD 2 139 (by decide) (by kernel_rfl)) s139
      have g140 := get_eqS (hD 3 140 (by decide) (by kernel_rfl)) s140
      have g141 := get_eqS (hD 4 141 (by decide) (by kernel_rfl)) s141
      have g142 := get_eqS (hD 5 142 (by decide) (by kernel_rfl)) s142
      obtain ⟨v19, g19, p19⟩ := getS (hD 6 19 (by decide) (by kernel_rfl)) s19
      obtain ⟨v20, g20, p20⟩ := getS (hD 7 20 (by decide) (by kernel_rfl)) s20
      have N19_20 := hN 19 20 (by decide) (by decide) (by decide) ⟨6, by decide, by kernel_rfl⟩ ⟨7, by decide, by kernel_rfl⟩
      rw [g19, g20] at N19_20
      have hT := conc [(137, .agg #[.int .i64 X, .int .i64 Y, .int .i64 n0, .int .i64 n1, .int .i64 n2, .int .i64 W, .int .i64 l0, .int .i64 l1, .int .i64 l2, .int .i64 h0, .int .i64 h1, .int .i64 h2]), (138, .agg #[.int .i64 q0, .int .i64 q1, .int .i64 q2]), (139, .agg #[.int .i64 x1, .int .i64 y1, .int .i64 1, .int .i64 x2, .int .i64 y2, .int .i64 2, .int .i64 x3, .int .i64 y3, .int .i64 3]), (140, .agg #[.int .i64 X, .int .i64 Y, .int .i64 n0, .int .i64 n1, .int .i64 n2, .int .i64 W, .int .i64 l0, .int .i64 l1, .int .i64 l2, .int .i64 h0, .int .i64 h1, .int .i64 h2]), (141, .agg #[.int .i64 q0, .int .i64 (q1 + 9 * m), .int .i64 (q2 - 9 * m)]), (142, .agg #[.int .i64 x1, .int .i64 y1, .int .i64 1, .int .i64 x2p, .int .i64 y2p, .int .i64 2, .int .i64 x3, .int .i64 y3, .int .i64 3]), (19, v19), (20, v20)] hs hF (by simp only [List.forall_mem_cons]; exact ⟨g137, g138, g139, g140, g141, g142, g19, g20, fun p hp => absurd hp List.not_mem_nil⟩) (by kernel_rfl)
      simp only [List.foldl, List.setIfInBounds_toArray, List.set_cons_succ, List.set_cons_zero] at hT
      subst hT
      clear hF hD hs hN g137 g138 g139 g140 g141 g142 g19 g20 s19 s20 s137 s138 s139 s140 s141 s142
      show wpOpsIn _ _ _ _ _ [8, 9] _ _
      obtain ⟨b19, rfl, hs19, h19⟩ := p19
      obtain ⟨b20, rfl, hs20, h20⟩ := p20
      have ne : b19 ≠ b20 := fun e => N19_20 (by rw [e])
      refine tail_store rfl rfl rfl rfl rfl 42 (.tmp 19) (.tmp 139) rfl rfl b19 #[.int .i64 x1, .int .i64 y1, .int .i64 1, .int .i64 x2, .int .i64 y2, .int .i64 2, .int .i64 x3, .int .i64 y3, .int .i64 3] rfl rfl _ _ h19 (by kernel_rfl) rfl (by kernel_rfl) ?_
      have h20' := (setRow_other v8 b19 b20 #[.int .i64 x1, .int .i64 y1, .int .i64 1, .int .i64 x2, .int .i64 y2, .int .i64 2, .int .i64 x3, .int .i64 y3, .int .i64 3] (fun h => ne h.symm)).trans h20
      refine tail_store rfl rfl rfl rfl rfl 42 (.tmp 20) (.tmp 142) rfl rfl b20 #[.int .i64 x1, .int .i64 y1, .int .i64 1, .int .i64 x2p, .int .i64 y2p, .int .i64 2, .int .i64 x3, .int .i64 y3, .int .i64 3] rfl rfl _ _ h20' (by kernel_rfl) rfl (by kernel_rfl) ?_
      have H19 := Lib.hid ((setRow_other _ b20 b19 #[.int .i64 x1, .int .i64 y1, .int .i64 1, .int .i64 x2p, .int .i64 y2p, .int .i64 2, .int .i64 x3, .int .i64 y3, .int .i64 3] ne).trans (setRow_heap v8 b19 _ #[.int .i64 x1, .int .i64 y1, .int .i64 1, .int .i64 x2, .int .i64 y2, .int .i64 2, .int .i64 x3, .int .i64 y3, .int .i64 3] _ _ h19))
      have H20 := Lib.hid (setRow_heap _ b20 _ #[.int .i64 x1, .int .i64 y1, .int .i64 1, .int .i64 x2p, .int .i64 y2p, .int .i64 2, .int .i64 x3, .int .i64 y3, .int .i64 3] _ _ h20')
      have bw := below_setRow7 (below_setRow7 hb8 hs19 #[.int .i64 x1, .int .i64 y1, .int .i64 1, .int .i64 x2, .int .i64 y2, .int .i64 2, .int .i64 x3, .int .i64 y3, .int .i64 3]) hs20 #[.int .i64 x1, .int .i64 y1, .int .i64 1, .int .i64 x2p, .int .i64 y2p, .int .i64 2, .int .i64 x3, .int .i64 y3, .int .i64 3]
      replace B := Lib.hid (belT B.out bw)
      replace TT := Lib.hid (Tab.below TT.out bw)
      clear bw hb8 h19 h20 h20' hs19 hs20 N19_20 ne HA HQ HR HP
      simp only [wpOpsIn]
      generalize ((v8.setRow b19 #[.int .i64 x1, .int .i64 y1, .int .i64 1, .int .i64 x2, .int .i64 y2, .int .i64 2, .int .i64 x3, .int .i64 y3, .int .i64 3]).setRow b20 #[.int .i64 x1, .int .i64 y1, .int .i64 1, .int .i64 x2p, .int .i64 y2p, .int .i64 2, .int .i64 x3, .int .i64 y3, .int .i64 3]) = W7 at *
      go_wp2_with fail
      refine wp_loop_rounds 4 ?_
      rw [rounds_succ]
      have c0 := blk_cell H19.out 0 _ rfl
      have c1 := blk_cell H19.out 1 _ rfl
      have c2 := blk_cell H19.out 2 _ rfl
      have d0 := blk_cell H20.out 0 _ rfl
      have d1 := blk_cell H20.out 1 _ rfl
      have d2 := blk_cell H20.out 2 _ rfl
      go_wp2_with fail
      go_quiet (fail)
      obtain ⟨X0, hW⟩ : ∃ x, W7.drewN nq = x := ⟨_, rfl⟩
      rw [hW]
      replace H19 := Lib.hid (blk_dr hW H19.out)
      replace H20 := Lib.hid (blk_dr hW H20.out)
      replace B := Lib.hid (bel_dr hW B.out)
      replace TT := Lib.hid (tab_dr hW TT.out)
      clear hW
      clear c0 c1 c2 d0 d1 d2
      go_wp2_with fail
      rw [rounds_succ]
      have c3 := blk_cell H19.out 3 _ rfl
      have c4 := blk_cell H19.out 4 _ rfl
      have c5 := blk_cell H19.out 5 _ rfl
      have d3 := blk_cell H20.out 3 _ rfl
      have d4 := blk_cell H20.out 4 _ rfl
      have d5 := blk_cell H20.out 5 _ rfl
      go_wp2_with fail
      go_quiet (fail)
      obtain ⟨X1, hW⟩ : ∃ x, X0.drewN nq = x := ⟨_, rfl⟩
      rw [hW]
      replace H19 := Lib.hid (blk_dr hW H19.out)
      replace H20 := Lib.hid (blk_dr hW H20.out)
      replace B := Lib.hid (bel_dr hW B.out)
      replace TT := Lib.hid (tab_dr hW TT.out)
      clear hW
      clear c3 c4 c5 d3 d4 d5
      go_wp2_with fail
      rw [rounds_succ]
      have c6 := blk_cell H19.out 6 _ rfl
      have c7 := blk_cell H19.out 7 _ rfl
      have c8 := blk_cell H19.out 8 _ rfl
      have d6 := blk_cell H20.out 6 _ rfl
      have d7 := blk_cell H20.out 7 _ rfl
      have d8 := blk_cell H20.out 8 _ rfl
      go_wp2_with fail
      go_quiet (fail)
      obtain ⟨X2, hW⟩ : ∃ x, X1.drewN nq = x := ⟨_, rfl⟩
      rw [hW]
      replace H19 := Lib.hid (blk_dr hW H19.out)
      replace H20 := Lib.hid (blk_dr hW H20.out)
      replace B := Lib.hid (bel_dr hW B.out)
      replace TT := Lib.hid (tab_dr hW TT.out)
      clear hW
      clear c6 c7 c8 d6 d7 d8
      go_wp2_with fail
      rw [rounds_succ]
      go_wp2_with fail
      go_ret
      exact ⟨rfl, B.out⟩
  go_upto_region 15 with fail
  have PM := Lib.hid (pose_moved PP.out e f)
  obtain ⟨sp, hsp⟩ : ∃ sp : ToldS, sp = [none, none, none, none, none, none, none, none, none, none, none, none, none, none, none, none, some (newS w4.heap.size #[.int .i64 0, .int .i64 0, .int .i64 0, .int .i64 0, .int .i64 0, .int .i64 0, .int .i64 0, .int .i64 0] 44), some (newS w4.heap.size #[.int .i64 0, .int .i64 0, .int .i64 0, .int .i64 0, .int .i64 0, .int .i64 0, .int .i64 0, .int .i64 0] 44), none, none, none, none, none, none, none, none, none, none, none, none, none, none, none, none, none, none, none, none, none, none, none, none, none, none, none, none, none, none, none, none, none, none, none, none, none, none, none, none, none, none, none, none, none, none, none, none, none, none, none, none, none, none, none, none, none, none, none, none, none, none, none, none, none, none, none, none, none, none, none, none, none, none, some (eqS (.agg #[.int .i64 X, .int .i64 Y, .int .i64 n0, .int .i64 n1, .int .i64 n2, .int .i64 W, .int .i64 l0, .int .i64 l1, .int .i64 l2, .int .i64 h0, .int .i64 h1, .int .i64 h2])), some (eqS (.agg #[.int .i64 q0, .int .i64 q1, .int .i64 q2])), some (eqS (.agg #[.int .i64 X, .int .i64 Y, .int .i64 a1, .int .i64 b1, .int .i64 a2, .int .i64 b2, .int .i64 a3, .int .i64 b3])), some (eqS (.agg #[.int .i64 (X + 16 * e), .int .i64 (Y + 16 * f), .int .i64 n0, .int .i64 n1, .int .i64 n2, .int .i64 W, .int .i64 l0, .int .i64 l1, .int .i64 l2, .int .i64 h0, .int .i64 h1, .int .i64 h2])), some (eqS (.agg #[.int .i64 q0, .int .i64 q1, .int .i64 q2])), some (eqS (.agg #[.int .i64 (X + 16 * e), .int .i64 (Y + 16 * f), .int .i64 (a1 + 16 * e), .int .i64 (b1 + 16 * f), .int .i64 (a2 + 16 * e), .int .i64 (b2 + 16 * f), .int .i64 (a3 + 16 * e), .int .i64 (b3 + 16 * f)]))] := ⟨_, rfl⟩
  have s16 : sp.getD 16 none = some (newS w4.heap.size #[.int .i64 0, .int .i64 0, .int .i64 0, .int .i64 0, .int .i64 0, .int .i64 0, .int .i64 0, .int .i64 0] 44) := by rw [hsp]; rfl
  have s17 : sp.getD 17 none = some (newS w4.heap.size #[.int .i64 0, .int .i64 0, .int .i64 0, .int .i64 0, .int .i64 0, .int .i64 0, .int .i64 0, .int .i64 0] 44) := by rw [hsp]; rfl
  have s92 : sp.getD 92 none = some (eqS (.agg #[.int .i64 X, .int .i64 Y, .int .i64 n0, .int .i64 n1, .int .i64 n2, .int .i64 W, .int .i64 l0, .int .i64 l1, .int .i64 l2, .int .i64 h0, .int .i64 h1, .int .i64 h2])) := by rw [hsp]; rfl
  have s93 : sp.getD 93 none = some (eqS (.agg #[.int .i64 q0, .int .i64 q1, .int .i64 q2])) := by rw [hsp]; rfl
  have s94 : sp.getD 94 none = some (eqS (.agg #[.int .i64 X, .int .i64 Y, .int .i64 a1, .int .i64 b1, .int .i64 a2, .int .i64 b2, .int .i64 a3, .int .i64 b3])) := by rw [hsp]; rfl
  have s95 : sp.getD 95 none = some (eqS (.agg #[.int .i64 (X + 16 * e), .int .i64 (Y + 16 * f), .int .i64 n0, .int .i64 n1, .int .i64 n2, .int .i64 W, .int .i64 l0, .int .i64 l1, .int .i64 l2, .int .i64 h0, .int .i64 h1, .int .i64 h2])) := by rw [hsp]; rfl
  have s96 : sp.getD 96 none = some (eqS (.agg #[.int .i64 q0, .int .i64 q1, .int .i64 q2])) := by rw [hsp]; rfl
  have s97 : sp.getD 97 none = some (eqS (.agg #[.int .i64 (X + 16 * e), .int .i64 (Y + 16 * f), .int .i64 (a1 + 16 * e), .int .i64 (b1 + 16 * f), .int .i64 (a2 + 16 * e), .int .i64 (b2 + 16 * f), .int .i64 (a3 + 16 * e), .int .i64 (b3 + 16 * f)])) := by rw [hsp]; rfl
  clear hsp
  refine (wpIn_wide (n := 0)).1 (region_headF (FS := [16, 17]) (RtS sp) (rtS_keep sp) (fun t v w ht h => by rcases (by simpa using ht : t = 16 ∨ t = 17) with rfl | rfl <;> first | exact newS_fresh s16 h | exact newS_fresh s17 h) 8 rfl rfl rfl (by kernel_rfl) (by decide) (by kernel_rfl) (by kernel_rfl) (by kernel_rfl) ?_ ?_)
  · intro Q'; show ObsF _ _ _ _ _ _ _ _ _ (List.take _ _); simp only [List.take_succ_cons, List.take_zero]
    refine obsF_cons (obF_of ?_ (by intro d e; cases e; decide)) ?_
    · intro T wx K hB hF hD hK
      have g5 : T[5]? = some (.pointer (some ⟨w.heap.size, 0, none⟩)) := hF 5 (freeM_of (by kernel_rfl))
      refine ob_yes (wanted_none rfl) ?_
      clear hF hD
      exact wp_load_row 27 (.tmp 5) rfl w.heap.size (eval_tmp g5) _ _ _ _ (blk_call HA.out hB) Tryd.underlying27 rfl (by kernel_rfl) (hK _ _ (Below.refl _ _) (rt_eqS s92))
    refine obsF_cons (obF_of ?_ (by intro d e; cases e; decide)) ?_
    · intro T wx K hB hF hD hK
      have g12 : T[12]? = some (.pointer (some ⟨w3.heap.size, 0, none⟩)) := hF 12 (freeM_of (by kernel_rfl))
      refine ob_yes (wanted_none rfl) ?_
      clear hF hD
      exact wp_load_row 25 (.tmp 12) rfl (w3.heap.size) (eval_tmp g12) _ _ _ _ (blk_call HQ.out hB) Tryd.underlying25 rfl (by kernel_rfl) (hK _ _ (Below.refl _ _) (rt_eqS s93))
    refine obsF_cons (obF_of ?_ (by intro d e; cases e; decide)) ?_
    · intro T wx K hB hF hD hK
      have g92 := get_eqS (hD 0 92 (by simp [Region.binds]) (by kernel_rfl)) s92
      have g93 := get_eqS (hD 1 93 (by simp [Region.binds]) (by kernel_rfl)) s93
      refine ob_yes (wanted_none rfl) ?_
      clear hF hD
      go_simp
      refine (jpts_is X Y n0 n1 n2 W l0 l1 l2 h0 h1 h2 q0 q1 q2 x1 x2 x3 y1 y2 y3 u1 u2 u3 v1 v2 v3 a1 a2 a3 b1 b2 b3 _ (TT.out.below hB) k0 k1 k2 HT PP).mono ?_; rintro e w9 ⟨rfl, hb⟩
      exact hK _ _ hb (rt_eqS s94)
    refine obsF_cons (obF_of ?_ (by intro d e; cases e; decide)) ?_
    · intro T wx K hB hF hD hK
      have g15 : T[15]? = some (.pointer (some ⟨W1.heap.size, 0, none⟩)) := hF 15 (freeM_of (by kernel_rfl))
      refine ob_yes (wanted_none rfl) ?_
      clear hF hD
      exact wp_load_row 27 (.tmp 15) rfl (W1.heap.size) (eval_tmp g15) _ _ _ _ (blk_call HB.out hB) Tryd.underlying27 rfl (by kernel_rfl) (hK _ _ (Below.refl _ _) (rt_eqS s95))
    refine obsF_cons (obF_of ?_ (by intro d e; cases e; decide)) ?_
    · intro T wx K hB hF hD hK
      have g12 : T[12]? = some (.pointer (some ⟨w3.heap.size, 0, none⟩)) := hF 12 (freeM_of (by kernel_rfl))
      refine ob_yes (wanted_none rfl) ?_
      clear hF hD
      exact wp_load_row 25 (.tmp 12) rfl (w3.heap.size) (eval_tmp g12) _ _ _ _ (blk_call HQ.out hB) Tryd.underlying25 rfl (by kernel_rfl) (hK _ _ (Below.refl _ _) (rt_eqS s96))
    refine obsF_cons (obF_of ?_ (by intro d e; cases e; decide)) ?_
    · intro T wx K hB hF hD hK
      have g95 := get_eqS (hD 3 95 (by simp [Region.binds]) (by kernel_rfl)) s95
      have g96 := get_eqS (hD 4 96 (by simp [Region.binds]) (by kernel_rfl)) s96
      refine ob_yes (wanted_none rfl) ?_
      clear hF hD
      go_simp
      refine (jpts_is (X + 16 * e) (Y + 16 * f) n0 n1 n2 W l0 l1 l2 h0 h1 h2 q0 q1 q2 x1 x2 x3 y1 y2 y3 u1 u2 u3 v1 v2 v3 (a1 + 16 * e) (a2 + 16 * e) (a3 + 16 * e) (b1 + 16 * f) (b2 + 16 * f) (b3 + 16 * f) _ (TT.out.below hB) k0 k1 k2 htb PM).mono ?_; rintro e w9 ⟨rfl, hb⟩
      exact hK _ _ hb (rt_eqS s97)
    refine obsF_cons ?_ ?_
    · intro T wx K hB hF hD hK
      refine ob_yes (wanted_none rfl) ?_
      clear hF hD
      go_simp
      exact hK _ _ (belA (Below.refl _ _) _) (fun d e => by cases e; exact ⟨rt_S s16 ⟨_, rfl, hB.size, blk_new _ _ _ rfl⟩ _ rfl, fun _ => rfl⟩)
    refine obsF_cons ?_ ?_
    · intro T wx K hB hF hD hK
      refine ob_yes (wanted_none rfl) ?_
      clear hF hD
      go_simp
      exact hK _ _ (belA (Below.refl _ _) _) (fun d e => by cases e; exact ⟨rt_S s17 ⟨_, rfl, hB.size, blk_new _ _ _ rfl⟩ _ rfl, fun _ => rfl⟩)
    exact obsF_nil
  · intro T6 w8 hb8 hF hs hD hN
    have g92 := get_eqS (hD 0 92 (by decide) (by kernel_rfl)) s92
    have g93 := get_eqS (hD 1 93 (by decide) (by kernel_rfl)) s93
    have g94 := get_eqS (hD 2 94 (by decide) (by kernel_rfl)) s94
    have g95 := get_eqS (hD 3 95 (by decide) (by kernel_rfl)) s95
    have g96 := get_eqS (hD 4 96 (by decide) (by kernel_rfl)) s96
    have g97 := get_eqS (hD 5 97 (by decide) (by kernel_rfl)) s97
    obtain ⟨v16, g16, p16⟩ := getS (hD 6 16 (by decide) (by kernel_rfl)) s16
    obtain ⟨v17, g17, p17⟩ := getS (hD 7 17 (by decide) (by kernel_rfl)) s17
    have N16_17 := hN 16 17 (by decide) (by decide) (by decide) ⟨6, by decide, by kernel_rfl⟩ ⟨7, by decide, by kernel_rfl⟩
    rw [g16, g17] at N16_17
    have hT := conc [(92, .agg #[.int .i64 X, .int .i64 Y, .int .i64 n0, .int .i64 n1, .int .i64 n2, .int .i64 W, .int .i64 l0, .int .i64 l1, .int .i64 l2, .int .i64 h0, .int .i64 h1, .int .i64 h2]), (93, .agg #[.int .i64 q0, .int .i64 q1, .int .i64 q2]), (94, .agg #[.int .i64 X, .int .i64 Y, .int .i64 a1, .int .i64 b1, .int .i64 a2, .int .i64 b2, .int .i64 a3, .int .i64 b3]), (95, .agg #[.int .i64 (X + 16 * e), .int .i64 (Y + 16 * f), .int .i64 n0, .int .i64 n1, .int .i64 n2, .int .i64 W, .int .i64 l0, .int .i64 l1, .int .i64 l2, .int .i64 h0, .int .i64 h1, .int .i64 h2]), (96, .agg #[.int .i64 q0, .int .i64 q1, .int .i64 q2]), (97, .agg #[.int .i64 (X + 16 * e), .int .i64 (Y + 16 * f), .int .i64 (a1 + 16 * e), .int .i64 (b1 + 16 * f), .int .i64 (a2 + 16 * e), .int .i64 (b2 + 16 * f), .int .i64 (a3 + 16 * e), .int .i64 (b3 + 16 * f)]), (16, v16), (17, v17)] hs hF (by simp only [List.forall_mem_cons]; exact ⟨g92, g93, g94, g95, g96, g97, g16, g17, fun p hp => absurd hp List.not_mem_nil⟩) (by kernel_rfl)
    simp only [List.foldl, List.setIfInBounds_toArray, List.set_cons_succ, List.set_cons_zero] at hT
    subst hT
    clear hF hD hs hN g92 g93 g94 g95 g96 g97 g16 g17 s16 s17 s92 s93 s94 s95 s96 s97
    show wpOpsIn _ _ _ _ _ [8, 9] _ _
    obtain ⟨b16, rfl, hs16, h16⟩ := p16
    obtain ⟨b17, rfl, hs17, h17⟩ := p17
    have ne : b16 ≠ b17 := fun e => N16_17 (by rw [e])
    refine tail_store rfl rfl rfl rfl rfl 44 (.tmp 16) (.tmp 94) rfl rfl b16 #[.int .i64 X, .int .i64 Y, .int .i64 a1, .int .i64 b1, .int .i64 a2, .int .i64 b2, .int .i64 a3, .int .i64 b3] rfl rfl _ _ h16 (by kernel_rfl) rfl (by kernel_rfl) ?_
    have h17' := (setRow_other w8 b16 b17 #[.int .i64 X, .int .i64 Y, .int .i64 a1, .int .i64 b1, .int .i64 a2, .int .i64 b2, .int .i64 a3, .int .i64 b3] (fun h => ne h.symm)).trans h17
    refine tail_store rfl rfl rfl rfl rfl 44 (.tmp 17) (.tmp 97) rfl rfl b17 #[.int .i64 (X + 16 * e), .int .i64 (Y + 16 * f), .int .i64 (a1 + 16 * e), .int .i64 (b1 + 16 * f), .int .i64 (a2 + 16 * e), .int .i64 (b2 + 16 * f), .int .i64 (a3 + 16 * e), .int .i64 (b3 + 16 * f)] rfl rfl _ _ h17' (by kernel_rfl) rfl (by kernel_rfl) ?_
    have la := blk_lt HA.out
    have lq := blk_lt HQ.out
    have lr := blk_lt HR.out
    have lp := blk_lt HP.out
    have H16 := Lib.hid ((setRow_other _ b17 b16 #[.int .i64 (X + 16 * e), .int .i64 (Y + 16 * f), .int .i64 (a1 + 16 * e), .int .i64 (b1 + 16 * f), .int .i64 (a2 + 16 * e), .int .i64 (b2 + 16 * f), .int .i64 (a3 + 16 * e), .int .i64 (b3 + 16 * f)] ne).trans (setRow_heap w8 b16 _ #[.int .i64 X, .int .i64 Y, .int .i64 a1, .int .i64 b1, .int .i64 a2, .int .i64 b2, .int .i64 a3, .int .i64 b3] _ _ h16))
    have H17 := Lib.hid (setRow_heap _ b17 _ #[.int .i64 (X + 16 * e), .int .i64 (Y + 16 * f), .int .i64 (a1 + 16 * e), .int .i64 (b1 + 16 * f), .int .i64 (a2 + 16 * e), .int .i64 (b2 + 16 * f), .int .i64 (a3 + 16 * e), .int .i64 (b3 + 16 * f)] _ _ h17')
    replace HA := Lib.hid ((setRow_other _ b17 _ #[.int .i64 (X + 16 * e), .int .i64 (Y + 16 * f), .int .i64 (a1 + 16 * e), .int .i64 (b1 + 16 * f), .int .i64 (a2 + 16 * e), .int .i64 (b2 + 16 * f), .int .i64 (a3 + 16 * e), .int .i64 (b3 + 16 * f)] (by omega)).trans ((setRow_other w8 b16 _ #[.int .i64 X, .int .i64 Y, .int .i64 a1, .int .i64 b1, .int .i64 a2, .int .i64 b2, .int .i64 a3, .int .i64 b3] (by omega)).trans (blk_call HA.out hb8)))
    replace HQ := Lib.hid ((setRow_other _ b17 _ #[.int .i64 (X + 16 * e), .int .i64 (Y + 16 * f), .int .i64 (a1 + 16 * e), .int .i64 (b1 + 16 * f), .int .i64 (a2 + 16 * e), .int .i64 (b2 + 16 * f), .int .i64 (a3 + 16 * e), .int .i64 (b3 + 16 * f)] (by omega)).trans ((setRow_other w8 b16 _ #[.int .i64 X, .int .i64 Y, .int .i64 a1, .int .i64 b1, .int .i64 a2, .int .i64 b2, .int .i64 a3, .int .i64 b3] (by omega)).trans (blk_call HQ.out hb8)))
    replace HR := Lib.hid ((setRow_other _ b17 _ #[.int .i64 (X + 16 * e), .int .i64 (Y + 16 * f), .int .i64 (a1 + 16 * e), .int .i64 (b1 + 16 * f), .int .i64 (a2 + 16 * e), .int .i64 (b2 + 16 * f), .int .i64 (a3 + 16 * e), .int .i64 (b3 + 16 * f)] (by omega)).trans ((setRow_other w8 b16 _ #[.int .i64 X, .int .i64 Y, .int .i64 a1, .int .i64 b1, .int .i64 a2, .int .i64 b2, .int .i64 a3, .int .i64 b3] (by omega)).trans (blk_call HR.out hb8)))
    replace HP := Lib.hid ((setRow_other _ b17 _ #[.int .i64 (X + 16 * e), .int .i64 (Y + 16 * f), .int .i64 (a1 + 16 * e), .int .i64 (b1 + 16 * f), .int .i64 (a2 + 16 * e), .int .i64 (b2 + 16 * f), .int .i64 (a3 + 16 * e), .int .i64 (b3 + 16 * f)] (by omega)).trans ((setRow_other w8 b16 _ #[.int .i64 X, .int .i64 Y, .int .i64 a1, .int .i64 b1, .int .i64 a2, .int .i64 b2, .int .i64 a3, .int .i64 b3] (by omega)).trans (blk_call HP.out hb8)))
    have bw := below_setRow7 (below_setRow7 hb8 hs16 #[.int .i64 X, .int .i64 Y, .int .i64 a1, .int .i64 b1, .int .i64 a2, .int .i64 b2, .int .i64 a3, .int .i64 b3]) hs17 #[.int .i64 (X + 16 * e), .int .i64 (Y + 16 * f), .int .i64 (a1 + 16 * e), .int .i64 (b1 + 16 * f), .int .i64 (a2 + 16 * e), .int .i64 (b2 + 16 * f), .int .i64 (a3 + 16 * e), .int .i64 (b3 + 16 * f)]
    replace B := Lib.hid (belT B.out bw)
    replace TT := Lib.hid (Tab.below TT.out bw)
    clear bw hb8 h16 h17 h17' hs16 hs17 N16_17 ne la lq lr lp HB
    simp only [wpOpsIn]
    generalize ((w8.setRow b16 #[.int .i64 X, .int .i64 Y, .int .i64 a1, .int .i64 b1, .int .i64 a2, .int .i64 b2, .int .i64 a3, .int .i64 b3]).setRow b17 #[.int .i64 (X + 16 * e), .int .i64 (Y + 16 * f), .int .i64 (a1 + 16 * e), .int .i64 (b1 + 16 * f), .int .i64 (a2 + 16 * e), .int .i64 (b2 + 16 * f), .int .i64 (a3 + 16 * e), .int .i64 (b3 + 16 * f)]) = W3 at *
    have PBd := pose_bd PP.out HT.out
    have WB : 1 ≤ W ∧ W ≤ 4 := by have := (armB_iff X Y n0 n1 n2 W l0 l1 l2 h0 h1 h2).1 HT.out; omega
    have PR : (-1000000000 ≤ a1 ∧ a1 ≤ 1000000000) ∧ (-1000000000 ≤ b1 ∧ b1 ≤ 1000000000) ∧ (-1000000000 ≤ a2 ∧ a2 ≤ 1000000000) ∧ (-1000000000 ≤ b2 ∧ b2 ≤ 1000000000) ∧ (-1000000000 ≤ a3 ∧ a3 ≤ 1000000000) ∧ (-1000000000 ≤ b3 ∧ b3 ≤ 1000000000) := by omega
    clear PBd WB
    obtain ⟨r1', r2', r3', r4', r5', r6'⟩ := PR
    go_wp2_with fail
    refine wp_loop_rounds 5 ?_
    rw [rounds_succ]
    have c0 := blk_cell H16.out 0 _ rfl
    have c1 := blk_cell H16.out 1 _ rfl
    have d0 := blk_cell H17.out 0 _ rfl
    have d1 := blk_cell H17.out 1 _ rfl
    have g0 := blk_cell HP.out 0 _ rfl
    have g1 := blk_cell HP.out 1 _ rfl
    have y0 : X + 16 * e - X = 16 * e := by omega
    have y1 : Y + 16 * f - Y = 16 * f := by omega
    go_wp2_with fail
    go_quiet (fail)
    obtain ⟨Z0, hW⟩ : ∃ x, W3.drewN nq = x := ⟨_, rfl⟩
    rw [hW]
    replace HA := Lib.hid (blk_dr hW HA.out)
    replace HQ := Lib.hid (blk_dr hW HQ.out)
    replace HR := Lib.hid (blk_dr hW HR.out)
    replace HP := Lib.hid (blk_dr hW HP.out)
    replace H16 := Lib.hid (blk_dr hW H16.out)
    replace H17 := Lib.hid (blk_dr hW H17.out)
    replace B := Lib.hid (bel_dr hW B.out)
    replace TT := Lib.hid (tab_dr hW TT.out)
    clear hW
    clear y0 y1 c0 c1 d0 d1 g0 g1
    go_wp2_with fail
    rw [rounds_succ]
    have c2 := blk_cell H16.out 2 _ rfl
    have c3 := blk_cell H16.out 3 _ rfl
    have d2 := blk_cell H17.out 2 _ rfl
    have d3 := blk_cell H17.out 3 _ rfl
    have g0 := blk_cell HP.out 0 _ rfl
    have g1 := blk_cell HP.out 1 _ rfl
    have y0 : a1 + 16 * e - a1 = 16 * e := by omega
    have y1 : b1 + 16 * f - b1 = 16 * f := by omega
    go_wp2_with fail
    go_quiet (fail)
    obtain ⟨Z1, hW⟩ : ∃ x, Z0.drewN nq = x := ⟨_, rfl⟩
    rw [hW]
    replace HA := Lib.hid (blk_dr hW HA.out)
    replace HQ := Lib.hid (blk_dr hW HQ.out)
    replace HR := Lib.hid (blk_dr hW HR.out)
    replace HP := Lib.hid (blk_dr hW HP.out)
    replace H16 := Lib.hid (blk_dr hW H16.out)
    replace H17 := Lib.hid (blk_dr hW H17.out)
    replace B := Lib.hid (bel_dr hW B.out)
    replace TT := Lib.hid (tab_dr hW TT.out)
    clear hW
    clear y0 y1 c2 c3 d2 d3 g0 g1
    go_wp2_with fail
    rw [rounds_succ]
    have c4 := blk_cell H16.out 4 _ rfl
    have c5 := blk_cell H16.out 5 _ rfl
    have d4 := blk_cell H17.out 4 _ rfl
    have d5 := blk_cell H17.out 5 _ rfl
    have g0 := blk_cell HP.out 0 _ rfl
    have g1 := blk_cell HP.out 1 _ rfl
    have y0 : a2 + 16 * e - a2 = 16 * e := by omega
    have y1 : b2 + 16 * f - b2 = 16 * f := by omega
    go_wp2_with fail
    go_quiet (fail)
    obtain ⟨Z2, hW⟩ : ∃ x, Z1.drewN nq = x := ⟨_, rfl⟩
    rw [hW]
    replace HA := Lib.hid (blk_dr hW HA.out)
    replace HQ := Lib.hid (blk_dr hW HQ.out)
    replace HR := Lib.hid (blk_dr hW HR.out)
    replace HP := Lib.hid (blk_dr hW HP.out)
    replace H16 := Lib.hid (blk_dr hW H16.out)
    replace H17 := Lib.hid (blk_dr hW H17.out)
    replace B := Lib.hid (bel_dr hW B.out)
    replace TT := Lib.hid (tab_dr hW TT.out)
    clear hW
    clear y0 y1 c4 c5 d4 d5 g0 g1
    go_wp2_with fail
    rw [rounds_succ]
    have c6 := blk_cell H16.out 6 _ rfl
    have c7 := blk_cell H16.out 7 _ rfl
    have d6 := blk_cell H17.out 6 _ rfl
    have d7 := blk_cell H17.out 7 _ rfl
    have g0 := blk_cell HP.out 0 _ rfl
    have g1 := blk_cell HP.out 1 _ rfl
    have y0 : a3 + 16 * e - a3 = 16 * e := by omega
    have y1 : b3 + 16 * f - b3 = 16 * f := by omega
    go_wp2_with fail
    go_quiet (fail)
    obtain ⟨Z3, hW⟩ : ∃ x, Z2.drewN nq = x := ⟨_, rfl⟩
    rw [hW]
    replace HA := Lib.hid (blk_dr hW HA.out)
    replace HQ := Lib.hid (blk_dr hW HQ.out)
    replace HR := Lib.hid (blk_dr hW HR.out)
    replace HP := Lib.hid (blk_dr hW HP.out)
    replace H16 := Lib.hid (blk_dr hW H16.out)
    replace H17 := Lib.hid (blk_dr hW H17.out)
    replace B := Lib.hid (bel_dr hW B.out)
    replace TT := Lib.hid (tab_dr hW TT.out)
    clear hW
    clear y0 y1 c6 c7 d6 d7 g0 g1
    go_wp2_with fail
    rw [rounds_succ]
    have c0 := blk_cell HA.out 0 _ rfl
    have c1 := blk_cell HA.out 1 _ rfl
    have c2 := blk_cell HA.out 2 _ rfl
    have c3 := blk_cell HA.out 3 _ rfl
    have c4 := blk_cell HA.out 4 _ rfl
    have c5 := blk_cell HA.out 5 _ rfl
    have c6 := blk_cell HA.out 6 _ rfl
    have c7 := blk_cell HA.out 7 _ rfl
    have c8 := blk_cell HA.out 8 _ rfl
    have c9 := blk_cell HA.out 9 _ rfl
    have c10 := blk_cell HA.out 10 _ rfl
    have c11 := blk_cell HA.out 11 _ rfl
    have d0 := blk_cell HR.out 0 _ rfl
    have d1 := blk_cell HR.out 1 _ rfl
    have d2 := blk_cell HR.out 2 _ rfl
    obtain ⟨ti, hti⟩ : ∃ t, fitB l0 l1 l2 h0 h1 h2 q0 (q1 + 9 * m) (q2 - 9 * m) = t := ⟨_, rfl⟩
    replace hti := Lib.hid hti
    go_wp2_with fail
    refine (inlim_is X Y n0 n1 n2 W l0 l1 l2 h0 h1 h2 q0 (q1 + 9 * m) (q2 - 9 * m) ti _ hti).mono ?_
    rintro e w5 ⟨rfl, hb5⟩
    clear c0 c1 c2 c3 c4 c5 c6 c7 c8 c9 c10 c11 d0 d1 d2
    replace HA := Lib.hid (blk_call HA.out hb5)
    replace HQ := Lib.hid (blk_call HQ.out hb5)
    replace HR := Lib.hid (blk_call HR.out hb5)
    replace HP := Lib.hid (blk_call HP.out hb5)
    replace H16 := Lib.hid (blk_call H16.out hb5)
    replace H17 := Lib.hid (blk_call H17.out hb5)
    replace B := Lib.hid (belT B.out hb5)
    replace TT := Lib.hid (Tab.below TT.out hb5)
    clear hb5
    cases ti
    · go_wp2_with fail
      go_ret
      exact ⟨rfl, B.out⟩
    go_upto_region 23 with fail
    obtain ⟨sp, hsp⟩ : ∃ sp : ToldS, sp = [none, none, none, none, none, none, none, none, none, none, none, none, none, none, none, none, none, none, none, some (newS w5.heap.size #[.int .i64 0, .int .i64 0, .int .i64 0, .int .i64 0, .int .i64 0, .int .i64 0, .int .i64 0, .int .i64 0, .int .i64 0] 42), some (newS w5.heap.size #[.int .i64 0, .int .i64 0, .int .i64 0, .int .i64 0, .int .i64 0, .int .i64 0, .int .i64 0, .int .i64 0, .int .i64 0] 42), none, none, none, none, none, none, none, none, none, none, none, none, none, none, none, none, none, none, none, none, none, none, none, none, none, none, none, none, none, none, none, none, none, none, none, none, none, none, none, none, none, none, none, none, none, none, none, none, none, none, none, none, none, none, none, none, none, none, none, none, none, none, none, none, none, none, none, none, none, none, none, none, none, none, none, none, none, none, none, none, none, none, none, none, none, none, none, none, none, none, none, none, none, none, none, none, none, none, none, none, none, none, none, none, none, none, none, none, none, none, none, none, none, none, none, none, some (eqS (.agg #[.int .i64 X, .int .i64 Y, .int .i64 n0, .int .i64 n1, .int .i64 n2, .int .i64 W, .int .i64 l0, .int .i64 l1, .int .i64 l2, .int .i64 h0, .int .i64 h1, .int .i64 h2])), some (eqS (.agg #[.int .i64 q0, .int .i64 q1, .int .i64 q2])), some (eqS (.agg #[.int .i64 x1, .int .i64 y1, .int .i64 1, .int .i64 x2, .int .i64 y2, .int .i64 2, .int .i64 x3, .int .i64 y3, .int .i64 3])), some (eqS (.agg #[.int .i64 X, .int .i64 Y, .int .i64 n0, .int .i64 n1, .int .i64 n2, .int .i64 W, .int .i64 l0, .int .i64 l1, .int .i64 l2, .int .i64 h0, .int .i64 h1, .int .i64 h2])), some (eqS (.agg #[.int .i64 q0, .int .i64 (q1 + 9 * m), .int .i64 (q2 - 9 * m)])), some (eqS (.agg #[.int .i64 x1, .int .i64 y1, .int .i64 1, .int .i64 x2p, .int .i64 y2p, .int .i64 2, .int .i64 x3, .int .i64 y3, .int .i64 3]))] := ⟨_, rfl⟩
    have s19 : sp.getD 19 none = some (newS w5.heap.size #[.int .i64 0, .int .i64 0, .int .i64 0, .int .i64 0, .int .i64 0, .int .i64 0, .int .i64 0, .int .i64 0, .int .i64 0] 42) := by rw [hsp]; rfl
    have s20 : sp.getD 20 none = some (newS w5.heap.size #[.int .i64 0, .int .i64 0, .int .i64 0, .int .i64 0, .int .i64 0, .int .i64 0, .int .i64 0, .int .i64 0, .int .i64 0] 42) := by rw [hsp]; rfl
    have s137 : sp.getD 137 none = some (eqS (.agg #[.int .i64 X, .int .i64 Y, .int .i64 n0, .int .i64 n1, .int .i64 n2, .int .i64 W, .int .i64 l0, .int .i64 l1, .int .i64 l2, .int .i64 h0, .int .i64 h1, .int .i64 h2])) := by rw [hsp]; rfl
    have s138 : sp.getD 138 none = some (eqS (.agg #[.int .i64 q0, .int .i64 q1, .int .i64 q2])) := by rw [hsp]; rfl
    have s139 : sp.getD 139 none = some (eqS (.agg #[.int .i64 x1, .int .i64 y1, .int .i64 1, .int .i64 x2, .int .i64 y2, .int .i64 2, .int .i64 x3, .int .i64 y3, .int .i64 3])) := by rw [hsp]; rfl
    have s140 : sp.getD 140 none = some (eqS (.agg #[.int .i64 X, .int .i64 Y, .int .i64 n0, .int .i64 n1, .int .i64 n2, .int .i64 W, .int .i64 l0, .int .i64 l1, .int .i64 l2, .int .i64 h0, .int .i64 h1, .int .i64 h2])) := by rw [hsp]; rfl
    have s141 : sp.getD 141 none = some (eqS (.agg #[.int .i64 q0, .int .i64 (q1 + 9 * m), .int .i64 (q2 - 9 * m)])) := by rw [hsp]; rfl
    have s142 : sp.getD 142 none = some (eqS (.agg #[.int .i64 x1, .int .i64 y1, .int .i64 1, .int .i64 x2p, .int .i64 y2p, .int .i64 2, .int .i64 x3, .int .i64 y3, .int .i64 3])) := by rw [hsp]; rfl
    clear hsp
    refine (wpIn_wide (n := 0)).1 (region_headF (FS := [19, 20]) (RtS sp) (rtS_keep sp) (fun t v w ht h => by rcases (by simpa using ht : t = 19 ∨ t = 20) with rfl | rfl <;> first | exact newS_fresh s19 h | exact newS_fresh s20 h) 8 rfl rfl rfl (by kernel_rfl) (by decide) (by kernel_rfl) (by kernel_rfl) (by kernel_rfl) ?_ ?_)
    · intro Q'; show ObsF _ _ _ _ _ _ _ _ _ (List.take _ _); simp only [List.take_succ_cons, List.take_zero]
      refine obsF_cons (obF_of ?_ (by intro d e; cases e; decide)) ?_
      · intro T wx K hB hF hD hK
        have g5 : T[5]? = some (.pointer (some ⟨w.heap.size, 0, none⟩)) := hF 5 (freeM_of (by kernel_rfl))
        refine ob_yes (wanted_none rfl) ?_
        clear hF hD
        exact wp_load_row 27 (.tmp 5) rfl w.heap.size (eval_tmp g5) _ _ _ _ (blk_call HA.out hB) Tryd.underlying27 rfl (by kernel_rfl) (hK _ _ (Below.refl _ _) (rt_eqS s137))
      refine obsF_cons (obF_of ?_ (by intro d e; cases e; decide)) ?_
      · intro T wx K hB hF hD hK
        have g12 : T[12]? = some (.pointer (some ⟨w3.heap.size, 0, none⟩)) := hF 12 (freeM_of (by kernel_rfl))
        refine ob_yes (wanted_none rfl) ?_
        clear hF hD
        exact wp_load_row 25 (.tmp 12) rfl (w3.heap.size) (eval_tmp g12) _ _ _ _ (blk_call HQ.out hB) Tryd.underlying25 rfl (by kernel_rfl) (hK _ _ (Below.refl _ _) (rt_eqS s138))
      refine obsF_cons (obF_of ?_ (by intro d e; cases e; decide)) ?_
      · intro T wx K hB hF hD hK
        have g137 := get_eqS (hD 0 137 (by simp [Region.binds]) (by kernel_rfl)) s137
        have g138 := get_eqS (hD 1 138 (by simp [Region.binds]) (by kernel_rfl)) s138
        refine ob_yes (wanted_none rfl) ?_
        clear hF hD
        go_simp
        refine (ldirs_is X Y n0 n1 n2 W l0 l1 l2 h0 h1 h2 q0 q1 q2 x1 y1 x2 y2 x3 y3 _ (TT.out.below hB) k0 k1 k2 (Lib.hid PP.out.e1) (Lib.hid PP.out.e2) (Lib.hid PP.out.e3)).mono ?_; rintro e w9 ⟨rfl, hb⟩
        exact hK _ _ hb (rt_eqS s139)
      refine obsF_cons (obF_of ?_ (by intro d e; cases e; decide)) ?_
      · intro T wx K hB hF hD hK
        have g5 : T[5]? = some (.pointer (some ⟨w.heap.size, 0, none⟩)) := hF 5 (freeM_of (by kernel_rfl))
        refine ob_yes (wanted_none rfl) ?_
        clear hF hD
        exact wp_load_row 27 (.tmp 5) rfl w.heap.size (eval_tmp g5) _ _ _ _ (blk_call HA.out hB) Tryd.underlying27 rfl (by kernel_rfl) (hK _ _ (Below.refl _ _) (rt_eqS s140))
      refine obsF_cons (obF_of ?_ (by intro d e; cases e; decide)) ?_
      · intro T wx K hB hF hD hK
        have g14 : T[14]? = some (.pointer (some ⟨w3.heap.size + 1, 0, none⟩)) := hF 14 (freeM_of (by kernel_rfl))
        refine ob_yes (wanted_none rfl) ?_
        clear hF hD
        exact wp_load_row 25 (.tmp 14) rfl (w3.heap.size + 1) (eval_tmp g14) _ _ _ _ (blk_call HR.out hB) Tryd.underlying25 rfl (by kernel_rfl) (hK _ _ (Below.refl _ _) (rt_eqS s141))
      refine obsF_cons (obF_of ?_ (by intro d e; cases e; decide)) ?_
      · intro T wx K hB hF hD hK
        have g140 := get_eqS (hD 3 140 (by simp [Region.binds]) (by kernel_rfl)) s140
        have g141 := get_eqS (hD 4 141 (by simp [Region.binds]) (by kernel_rfl)) s141
        refine ob_yes (wanted_none rfl) ?_
        clear hF hD
        go_simp
        refine (ldirs_is X Y n0 n1 n2 W l0 l1 l2 h0 h1 h2 q0 (q1 + 9 * m) (q2 - 9 * m) x1 y1 x2p y2p x3 y3 _ (TT.out.below hB) kr0 kr1 kr2 (Lib.hid PQ.out.e1) (Lib.hid PQ.out.e2) (Lib.hid PQ.out.e3)).mono ?_; rintro e w9 ⟨rfl, hb⟩
        exact hK _ _ hb (rt_eqS s142)
      refine obsF_cons ?_ ?_
      · intro T wx K hB hF hD hK
        refine ob_yes (wanted_none rfl) ?_
        clear hF hD
        go_simp
        exact hK _ _ (belA (Below.refl _ _) _) (fun d e => by cases e; exact ⟨rt_S s19 ⟨_, rfl, hB.size, blk_new _ _ _ rfl⟩ _ rfl, fun _ => rfl⟩)
      refine obsF_cons ?_ ?_
      · intro T wx K hB hF hD hK
        refine ob_yes (wanted_none rfl) ?_
        clear hF hD
        go_simp
        exact hK _ _ (belA (Below.refl _ _) _) (fun d e => by cases e; exact ⟨rt_S s20 ⟨_, rfl, hB.size, blk_new _ _ _ rfl⟩ _ rfl, fun _ => rfl⟩)
      exact obsF_nil
    · intro T8 v8 hb8 hF hs hD hN
      have g137 := get_eqS (hD 0 137 (by decide) (by kernel_rfl)) s137
      have g138 := get_eqS (hD 1 138 (by decide) (by kernel_rfl)) s138
      have g139 := get_eqS (hD 2 139 (by decide) (by kernel_rfl)) s139
      have g140 := get_eqS (hD 3 140 (by decide) (by kernel_rfl)) s140
      have g141 := get_eqS (hD 4 141 (by decide) (by kernel_rfl)) s141
      have g142 := get_eqS (hD 5 142 (by decide) (by kernel_rfl)) s142
      obtain ⟨v19, g19, p19⟩ := getS (hD 6 19 (by decide) (by kernel_rfl)) s19
      obtain ⟨v20, g20, p20⟩ := getS (hD 7 20 (by decide) (by kernel_rfl)) s20
      have N19_20 := hN 19 20 (by decide) (by decide) (by decide) ⟨6, by decide, by kernel_rfl⟩ ⟨7, by decide, by kernel_rfl⟩
      rw [g19, g20] at N19_20
      have hT := conc [(137, .agg #[.int .i64 X, .int .i64 Y, .int .i64 n0, .int .i64 n1, .int .i64 n2, .int .i64 W, .int .i64 l0, .int .i64 l1, .int .i64 l2, .int .i64 h0, .int .i64 h1, .int .i64 h2]), (138, .agg #[.int .i64 q0, .int .i64 q1, .int .i64 q2]), (139, .agg #[.int .i64 x1, .int .i64 y1, .int .i64 1, .int .i64 x2, .int .i64 y2, .int .i64 2, .int .i64 x3, .int .i64 y3, .int .i64 3]), (140, .agg #[.int .i64 X, .int .i64 Y, .int .i64 n0, .int .i64 n1, .int .i64 n2, .int .i64 W, .int .i64 l0, .int .i64 l1, .int .i64 l2, .int .i64 h0, .int .i64 h1, .int .i64 h2]), (141, .agg #[.int .i64 q0, .int .i64 (q1 + 9 * m), .int .i64 (q2 - 9 * m)]), (142, .agg #[.int .i64 x1, .int .i64 y1, .int .i64 1, .int .i64 x2p, .int .i64 y2p, .int .i64 2, .int .i64 x3, .int .i64 y3, .int .i64 3]), (19, v19), (20, v20)] hs hF (by simp only [List.forall_mem_cons]; exact ⟨g137, g138, g139, g140, g141, g142, g19, g20, fun p hp => absurd hp List.not_mem_nil⟩) (by kernel_rfl)
      simp only [List.foldl, List.setIfInBounds_toArray, List.set_cons_succ, List.set_cons_zero] at hT
      subst hT
      clear hF hD hs hN g137 g138 g139 g140 g141 g142 g19 g20 s19 s20 s137 s138 s139 s140 s141 s142
      show wpOpsIn _ _ _ _ _ [8, 9] _ _
      obtain ⟨b19, rfl, hs19, h19⟩ := p19
      obtain ⟨b20, rfl, hs20, h20⟩ := p20
      have ne : b19 ≠ b20 := fun e => N19_20 (by rw [e])
      refine tail_store rfl rfl rfl rfl rfl 42 (.tmp 19) (.tmp 139) rfl rfl b19 #[.int .i64 x1, .int .i64 y1, .int .i64 1, .int .i64 x2, .int .i64 y2, .int .i64 2, .int .i64 x3, .int .i64 y3, .int .i64 3] rfl rfl _ _ h19 (by kernel_rfl) rfl (by kernel_rfl) ?_
      have h20' := (setRow_other v8 b19 b20 #[.int .i64 x1, .int .i64 y1, .int .i64 1, .int .i64 x2, .int .i64 y2, .int .i64 2, .int .i64 x3, .int .i64 y3, .int .i64 3] (fun h => ne h.symm)).trans h20
      refine tail_store rfl rfl rfl rfl rfl 42 (.tmp 20) (.tmp 142) rfl rfl b20 #[.int .i64 x1, .int .i64 y1, .int .i64 1, .int .i64 x2p, .int .i64 y2p, .int .i64 2, .int .i64 x3, .int .i64 y3, .int .i64 3] rfl rfl _ _ h20' (by kernel_rfl) rfl (by kernel_rfl) ?_
      have H19 := Lib.hid ((setRow_other _ b20 b19 #[.int .i64 x1, .int .i64 y1, .int .i64 1, .int .i64 x2p, .int .i64 y2p, .int .i64 2, .int .i64 x3, .int .i64 y3, .int .i64 3] ne).trans (setRow_heap v8 b19 _ #[.int .i64 x1, .int .i64 y1, .int .i64 1, .int .i64 x2, .int .i64 y2, .int .i64 2, .int .i64 x3, .int .i64 y3, .int .i64 3] _ _ h19))
      have H20 := Lib.hid (setRow_heap _ b20 _ #[.int .i64 x1, .int .i64 y1, .int .i64 1, .int .i64 x2p, .int .i64 y2p, .int .i64 2, .int .i64 x3, .int .i64 y3, .int .i64 3] _ _ h20')
      have bw := below_setRow7 (below_setRow7 hb8 hs19 #[.int .i64 x1, .int .i64 y1, .int .i64 1, .int .i64 x2, .int .i64 y2, .int .i64 2, .int .i64 x3, .int .i64 y3, .int .i64 3]) hs20 #[.int .i64 x1, .int .i64 y1, .int .i64 1, .int .i64 x2p, .int .i64 y2p, .int .i64 2, .int .i64 x3, .int .i64 y3, .int .i64 3]
      replace B := Lib.hid (belT B.out bw)
      replace TT := Lib.hid (Tab.below TT.out bw)
      clear bw hb8 h19 h20 h20' hs19 hs20 N19_20 ne HA HQ HR HP
      simp only [wpOpsIn]
      generalize ((v8.setRow b19 #[.int .i64 x1, .int .i64 y1, .int .i64 1, .int .i64 x2, .int .i64 y2, .int .i64 2, .int .i64 x3, .int .i64 y3, .int .i64 3]).setRow b20 #[.int .i64 x1, .int .i64 y1, .int .i64 1, .int .i64 x2p, .int .i64 y2p, .int .i64 2, .int .i64 x3, .int .i64 y3, .int .i64 3]) = W7 at *
      go_wp2_with fail
      refine wp_loop_rounds 4 ?_
      rw [rounds_succ]
      have c0 := blk_cell H19.out 0 _ rfl
      have c1 := blk_cell H19.out 1 _ rfl
      have c2 := blk_cell H19.out 2 _ rfl
      have d0 := blk_cell H20.out 0 _ rfl
      have d1 := blk_cell H20.out 1 _ rfl
      have d2 := blk_cell H20.out 2 _ rfl
      go_wp2_with fail
      go_quiet (fail)
      obtain ⟨X0, hW⟩ : ∃ x, W7.drewN nq = x := ⟨_, rfl⟩
      rw [hW]
      replace H19 := Lib.hid (blk_dr hW H19.out)
      replace H20 := Lib.hid (blk_dr hW H20.out)
      replace B := Lib.hid (bel_dr hW B.out)
      replace TT := Lib.hid (tab_dr hW TT.out)
      clear hW
      clear c0 c1 c2 d0 d1 d2
      go_wp2_with fail
      rw [rounds_succ]
      have c3 := blk_cell H19.out 3 _ rfl
      have c4 := blk_cell H19.out 4 _ rfl
      have c5 := blk_cell H19.out 5 _ rfl
      have d3 := blk_cell H20.out 3 _ rfl
      have d4 := blk_cell H20.out 4 _ rfl
      have d5 := blk_cell H20.out 5 _ rfl
      go_wp2_with fail
      go_quiet (fail)
      obtain ⟨X1, hW⟩ : ∃ x, X0.drewN nq = x := ⟨_, rfl⟩
      rw [hW]
      replace H19 := Lib.hid (blk_dr hW H19.out)
      replace H20 := Lib.hid (blk_dr hW H20.out)
      replace B := Lib.hid (bel_dr hW B.out)
      replace TT := Lib.hid (tab_dr hW TT.out)
      clear hW
      clear c3 c4 c5 d3 d4 d5
      go_wp2_with fail
      rw [rounds_succ]
      have c6 := blk_cell H19.out 6 _ rfl
      have c7 := blk_cell H19.out 7 _ rfl
      have c8 := blk_cell H19.out 8 _ rfl
      have d6 := blk_cell H20.out 6 _ rfl
      have d7 := blk_cell H20.out 7 _ rfl
      have d8 := blk_cell H20.out 8 _ rfl
      go_wp2_with fail
      go_quiet (fail)
      obtain ⟨X2, hW⟩ : ∃ x, X1.drewN nq = x := ⟨_, rfl⟩
      rw [hW]
      replace H19 := Lib.hid (blk_dr hW H19.out)
      replace H20 := Lib.hid (blk_dr hW H20.out)
      replace B := Lib.hid (bel_dr hW B.out)
      replace TT := Lib.hid (tab_dr hW TT.out)
      clear hW
      clear c6 c7 c8 d6 d7 d8
      go_wp2_with fail
      rw [rounds_succ]
      go_wp2_with fail
      go_ret
      exact ⟨rfl, B.out⟩

set_option maxHeartbeats 8000000 in
theorem walk1s (X Y n0 n1 n2 W l0 l1 l2 h0 h1 h2 : Int) (r0 r1 r2 : Int) (hr0 : 0 ≤ r0 ∧ r0 ≤ 255) (hr1 : 0 ≤ r1 ∧ r1 ≤ 255) (hr2 : 0 ≤ r2 ∧ r2 ≤ 255) (j s : Int) (hj : 0 ≤ j ∧ j ≤ 255) (hs : 0 ≤ s ∧ s ≤ 255) (ej : j.tmod 2 = 1) (es : s.tmod 5 = 4) (e f : Int) (he : -128 ≤ e ∧ e ≤ 127) (hf : -128 ≤ f ∧ f ≤ 127) (w : World) (hT : Tab w) :
    Calls Tryd.prog 6 #[.agg #[.int .i64 X, .int .i64 Y, .int .i64 n0, .int .i64 n1, .int .i64 n2, .int .i64 W, .int .i64 l0, .int .i64 l1, .int .i64 l2, .int .i64 h0, .int .i64 h1, .int .i64 h2], .agg #[.int .u8 r0, .int .u8 r1, .int .u8 r2], .int .u8 j, .int .u8 s, .agg #[.int .i8 e, .int .i8 f]] w fun e w' => e = .returned (.bool true) ∧ Below w.heap.size w w' := by
  have B := Lib.hid (Below.refl w.heap.size w)
  have TT := Lib.hid hT
  clear hT
  go_enter Tryd.func6, Tryd.ntmps6
  go_wp2_with fail
  refine (head7_is _ (Tab.alloc (Tab.alloc (Tab.alloc TT.out (.cells #[.int .i64 X, .int .i64 Y, .int .i64 n0, .int .i64 n1, .int .i64 n2, .int .i64 W, .int .i64 l0, .int .i64 l1, .int .i64 l2, .int .i64 h0, .int .i64 h1, .int .i64 h2] 27)) (.cells #[.int .u8 r0, .int .u8 r1, .int .u8 r2] 28)) (.cells #[.int .i8 e, .int .i8 f] 55))).mono ?_
  rintro e w1 ⟨rfl, hb1⟩
  have HA := Lib.hid (blk_call (blk_alloc (blk_alloc (blk_new w (.cells #[.int .i64 X, .int .i64 Y, .int .i64 n0, .int .i64 n1, .int .i64 n2, .int .i64 W, .int .i64 l0, .int .i64 l1, .int .i64 l2, .int .i64 h0, .int .i64 h1, .int .i64 h2] 27) (w.heap.size) rfl) (.cells #[.int .u8 r0, .int .u8 r1, .int .u8 r2] 28)) (.cells #[.int .i8 e, .int .i8 f] 55)) hb1)
  have HW := Lib.hid (blk_call (blk_alloc (blk_new (w.alloc (.cells #[.int .i64 X, .int .i64 Y, .int .i64 n0, .int .i64 n1, .int .i64 n2, .int .i64 W, .int .i64 l0, .int .i64 l1, .int .i64 l2, .int .i64 h0, .int .i64 h1, .int .i64 h2] 27)) (.cells #[.int .u8 r0, .int .u8 r1, .int .u8 r2] 28) (w.heap.size + 1) (by simp)) (.cells #[.int .i8 e, .int .i8 f] 55)) hb1)
  have HP := Lib.hid (blk_call (blk_new ((w.alloc (.cells #[.int .i64 X, .int .i64 Y, .int .i64 n0, .int .i64 n1, .int .i64 n2, .int .i64 W, .int .i64 l0, .int .i64 l1, .int .i64 l2, .int .i64 h0, .int .i64 h1, .int .i64 h2] 27)).alloc (.cells #[.int .u8 r0, .int .u8 r1, .int .u8 r2] 28)) (.cells #[.int .i8 e, .int .i8 f] 55) (w.heap.size + 1 + 1) (by simp)) hb1)
  replace B := Lib.hid (belT (belA (belA (belA B.out (.cells #[.int .i64 X, .int .i64 Y, .int .i64 n0, .int .i64 n1, .int .i64 n2, .int .i64 W, .int .i64 l0, .int .i64 l1, .int .i64 l2, .int .i64 h0, .int .i64 h1, .int .i64 h2] 27)) (.cells #[.int .u8 r0, .int .u8 r1, .int .u8 r2] 28)) (.cells #[.int .i8 e, .int .i8 f] 55)) hb1)
  replace TT := Lib.hid (Tab.below (Tab.alloc (Tab.alloc (Tab.alloc TT.out (.cells #[.int .i64 X, .int .i64 Y, .int .i64 n0, .int .i64 n1, .int .i64 n2, .int .i64 W, .int .i64 l0, .int .i64 l1, .int .i64 l2, .int .i64 h0, .int .i64 h1, .int .i64 h2] 27)) (.cells #[.int .u8 r0, .int .u8 r1, .int .u8 r2] 28)) (.cells #[.int .i8 e, .int .i8 f] 55)) hb1)
  clear hb1
  obtain ⟨t, ht⟩ : ∃ t, armB X Y n0 n1 n2 W l0 l1 l2 h0 h1 h2 = t := ⟨_, rfl⟩
  have HT := Lib.hid ht
  clear ht
  have c0 := blk_cell HA.out 0 _ rfl
  have c1 := blk_cell HA.out 1 _ rfl
  have c2 := blk_cell HA.out 2 _ rfl
  have c3 := blk_cell HA.out 3 _ rfl
  have c4 := blk_cell HA.out 4 _ rfl
  have c5 := blk_cell HA.out 5 _ rfl
  have c6 := blk_cell HA.out 6 _ rfl
  have c7 := blk_cell HA.out 7 _ rfl
  have c8 := blk_cell HA.out 8 _ rfl
  have c9 := blk_cell HA.out 9 _ rfl
  have c10 := blk_cell HA.out 10 _ rfl
  have c11 := blk_cell HA.out 11 _ rfl
  go_wp2_with fail
  refine (armv_is X Y n0 n1 n2 W l0 l1 l2 h0 h1 h2 t _ HT).mono ?_
  rintro e w2 ⟨rfl, hb2⟩
  clear c0 c1 c2 c3 c4 c5 c6 c7 c8 c9 c10 c11
  replace HA := Lib.hid (blk_call HA.out hb2)
  replace HW := Lib.hid (blk_call HW.out hb2)
  replace HP := Lib.hid (blk_call HP.out hb2)
  replace B := Lib.hid (belT B.out hb2)
  replace TT := Lib.hid (Tab.below TT.out hb2)
  clear hb2
  cases t
  · go_wp2_with fail
    go_ret
    exact ⟨rfl, B.out⟩
  have JB0 := Lib.hid (jq_bd (l := l0) (h := h0) (by have := (armB_iff X Y n0 n1 n2 W l0 l1 l2 h0 h1 h2).1 HT.out; omega) hr0.1)
  have JB1 := Lib.hid (jq_bd (l := l1) (h := h1) (by have := (armB_iff X Y n0 n1 n2 W l0 l1 l2 h0 h1 h2).1 HT.out; omega) hr1.1)
  have JB2 := Lib.hid (jq_bd (l := l2) (h := h2) (by have := (armB_iff X Y n0 n1 n2 W l0 l1 l2 h0 h1 h2).1 HT.out; omega) hr2.1)
  obtain ⟨q0, hq0⟩ : ∃ q, jq l0 h0 r0 = q := ⟨_, rfl⟩
  rw [hq0] at JB0
  have k0 : -1000 ≤ q0 ∧ q0 ≤ 1000 := by have := (armB_iff X Y n0 n1 n2 W l0 l1 l2 h0 h1 h2).1 HT.out; have := JB0.out; omega
  replace hq0 := Lib.hid hq0
  obtain ⟨q1, hq1⟩ : ∃ q, jq l1 h1 r1 = q := ⟨_, rfl⟩
  rw [hq1] at JB1
  have k1 : -1000 ≤ q1 ∧ q1 ≤ 1000 := by have := (armB_iff X Y n0 n1 n2 W l0 l1 l2 h0 h1 h2).1 HT.out; have := JB1.out; omega
  replace hq1 := Lib.hid hq1
  obtain ⟨q2, hq2⟩ : ∃ q, jq l2 h2 r2 = q := ⟨_, rfl⟩
  rw [hq2] at JB2
  have k2 : -1000 ≤ q2 ∧ q2 ≤ 1000 := by have := (armB_iff X Y n0 n1 n2 W l0 l1 l2 h0 h1 h2).1 HT.out; have := JB2.out; omega
  replace hq2 := Lib.hid hq2
  have JQ : Hid (∀ w : World, Calls Tryd.prog 15 #[.agg #[.int .i64 X, .int .i64 Y, .int .i64 n0, .int .i64 n1, .int .i64 n2, .int .i64 W, .int .i64 l0, .int .i64 l1, .int .i64 l2, .int .i64 h0, .int .i64 h1, .int .i64 h2], .agg #[.int .u8 r0, .int .u8 r1, .int .u8 r2]] w fun e w' => e = .returned (.agg #[.int .i64 q0, .int .i64 q1, .int .i64 q2]) ∧ Below w.heap.size w w') := Lib.hid (fun w => by have := joint_is X Y n0 n1 n2 W l0 l1 l2 h0 h1 h2 r0 r1 r2 w HT hr0 hr1 hr2; rwa [hq0.out, hq1.out, hq2.out] at this)
  obtain ⟨x1, x2, x3, y1, y2, y3, u1, u2, u3, v1, v2, v3, a1, a2, a3, b1, b2, b3, PP⟩ := pose_ex X Y n0 n1 n2 q0 q1 q2
  replace PP := Lib.hid PP
  obtain ⟨x1p, x2p, x3p, y1p, y2p, y3p, u1p, u2p, u3p, v1p, v2p, v3p, a1p, a2p, a3p, b1p, b2p, b3p, PQ⟩ := pose_ex X Y n0 n1 n2 q0 q2 q1
  obtain ⟨E1, E2⟩ := swap1 PP.out PQ
  replace E1 := E1.symm
  replace E2 := E2.symm
  simp only [Prod.mk.injEq] at E1 E2
  obtain ⟨rfl, rfl⟩ := E1
  obtain ⟨rfl, rfl⟩ := E2
  replace PQ := Lib.hid PQ
  have kr0 : -1000 ≤ q0 ∧ q0 ≤ 1000 := by have := (armB_iff X Y n0 n1 n2 W l0 l1 l2 h0 h1 h2).1 HT.out; have := JB0.out; have := JB1.out; have := JB2.out; omega
  have kr1 : -1000 ≤ q2 ∧ q2 ≤ 1000 := by have := (armB_iff X Y n0 n1 n2 W l0 l1 l2 h0 h1 h2).1 HT.out; have := JB0.out; have := JB1.out; have := JB2.out; omega
  have kr2 : -1000 ≤ q1 ∧ q1 ≤ 1000 := by have := (armB_iff X Y n0 n1 n2 W l0 l1 l2 h0 h1 h2).1 HT.out; have := JB0.out; have := JB1.out; have := JB2.out; omega
  have c0 := blk_cell HA.out 0 _ rfl
  have c1 := blk_cell HA.out 1 _ rfl
  have c2 := blk_cell HA.out 2 _ rfl
  have c3 := blk_cell HA.out 3 _ rfl
  have c4 := blk_cell HA.out 4 _ rfl
  have c5 := blk_cell HA.out 5 _ rfl
  have c6 := blk_cell HA.out 6 _ rfl
  have c7 := blk_cell HA.out 7 _ rfl
  have c8 := blk_cell HA.out 8 _ rfl
  have c9 := blk_cell HA.out 9 _ rfl
  have c10 := blk_cell HA.out 10 _ rfl
  have c11 := blk_cell HA.out 11 _ rfl
  have d0 := blk_cell HW.out 0 _ rfl
  have d1 := blk_cell HW.out 1 _ rfl
  have d2 := blk_cell HW.out 2 _ rfl
  go_wp2_with fail
  refine (JQ.out _).mono ?_
  rintro e w3 ⟨rfl, hb3⟩
  clear c0 c1 c2 c3 c4 c5 c6 c7 c8 c9 c10 c11 d0 d1 d2
  replace HA := Lib.hid (blk_call HA.out hb3)
  replace HW := Lib.hid (blk_call HW.out hb3)
  replace HP := Lib.hid (blk_call HP.out hb3)
  replace B := Lib.hid (belT B.out hb3)
  replace TT := Lib.hid (Tab.below TT.out hb3)
  clear hb3
  go_upto_region 12 with fail
  replace HA := Lib.hid (blk_alloc (blk_alloc HA.out (.cells #[.int .i64 q0, .int .i64 q1, .int .i64 q2] 25)) (.cells #[.int .i64 q0, .int .i64 q2, .int .i64 q1] 25))
  replace HW := Lib.hid (blk_alloc (blk_alloc HW.out (.cells #[.int .i64 q0, .int .i64 q1, .int .i64 q2] 25)) (.cells #[.int .i64 q0, .int .i64 q2, .int .i64 q1] 25))
  replace HP := Lib.hid (blk_alloc (blk_alloc HP.out (.cells #[.int .i64 q0, .int .i64 q1, .int .i64 q2] 25)) (.cells #[.int .i64 q0, .int .i64 q2, .int .i64 q1] 25))
  have HQ := Lib.hid (blk_alloc (blk_new w3 (.cells #[.int .i64 q0, .int .i64 q1, .int .i64 q2] 25) (w3.heap.size) rfl) (.cells #[.int .i64 q0, .int .i64 q2, .int .i64 q1] 25))
  have HR := Lib.hid (blk_new (w3.alloc (.cells #[.int .i64 q0, .int .i64 q1, .int .i64 q2] 25)) (.cells #[.int .i64 q0, .int .i64 q2, .int .i64 q1] 25) (w3.heap.size + 1) (by simp))
  replace B := Lib.hid (belA (belA B.out (.cells #[.int .i64 q0, .int .i64 q1, .int .i64 q2] 25)) (.cells #[.int .i64 q0, .int .i64 q2, .int .i64 q1] 25))
  replace TT := Lib.hid (Tab.alloc (Tab.alloc TT.out (.cells #[.int .i64 q0, .int .i64 q1, .int .i64 q2] 25)) (.cells #[.int .i64 q0, .int .i64 q2, .int .i64 q1] 25))
  generalize ((w3.alloc (.cells #[.int .i64 q0, .int .i64 q1, .int .i64 q2] 25)).alloc (.cells #[.int .i64 q0, .int .i64 q2, .int .i64 q1] 25)) = W1 at *
  obtain ⟨bbv, hbb⟩ : ∃ z, W1.heap.size = z := ⟨_, rfl⟩
  replace hbb := Lib.hid hbb
  have c0 := blk_cell HA.out 0 _ rfl
  have c1 := blk_cell HA.out 1 _ rfl
  have c2 := blk_cell HA.out 2 _ rfl
  have c3 := blk_cell HA.out 3 _ rfl
  have c4 := blk_cell HA.out 4 _ rfl
  have c5 := blk_cell HA.out 5 _ rfl
  have c6 := blk_cell HA.out 6 _ rfl
  have c7 := blk_cell HA.out 7 _ rfl
  have c8 := blk_cell HA.out 8 _ rfl
  have c9 := blk_cell HA.out 9 _ rfl
  have c10 := blk_cell HA.out 10 _ rfl
  have c11 := blk_cell HA.out 11 _ rfl
  go_upto_region 13 with fail
  clear c0 c1 c2 c3 c4 c5 c6 c7 c8 c9 c10 c11
  have c0 := blk_cell (blk_alloc HA.out (.cells #[.int .i64 X, .int .i64 Y, .int .i64 n0, .int .i64 n1, .int .i64 n2, .int .i64 W, .int .i64 l0, .int .i64 l1, .int .i64 l2, .int .i64 h0, .int .i64 h1, .int .i64 h2] 27)) 0 _ rfl
  have c1 := blk_cell (blk_alloc HA.out (.cells #[.int .i64 X, .int .i64 Y, .int .i64 n0, .int .i64 n1, .int .i64 n2, .int .i64 W, .int .i64 l0, .int .i64 l1, .int .i64 l2, .int .i64 h0, .int .i64 h1, .int .i64 h2] 27)) 1 _ rfl
  have d0 := blk_cell (blk_alloc HP.out (.cells #[.int .i64 X, .int .i64 Y, .int .i64 n0, .int .i64 n1, .int .i64 n2, .int .i64 W, .int .i64 l0, .int .i64 l1, .int .i64 l2, .int .i64 h0, .int .i64 h1, .int .i64 h2] 27)) 0 _ rfl
  have d1 := blk_cell (blk_alloc HP.out (.cells #[.int .i64 X, .int .i64 Y, .int .i64 n0, .int .i64 n1, .int .i64 n2, .int .i64 W, .int .i64 l0, .int .i64 l1, .int .i64 l2, .int .i64 h0, .int .i64 h1, .int .i64 h2] 27)) 1 _ rfl
  have Xb : (-1000000000 ≤ X ∧ X ≤ 1000000000) ∧ -1000000000 ≤ Y ∧ Y ≤ 1000000000 := by have := (armB_iff X Y n0 n1 n2 W l0 l1 l2 h0 h1 h2).1 HT.out; omega
  go_upto_region 14 with fail
  clear hbb c0 c1 d0 d1
  replace HA := Lib.hid (blk_alloc HA.out (.cells #[.int .i64 (X + 16 * e), .int .i64 (Y + 16 * f), .int .i64 n0, .int .i64 n1, .int .i64 n2, .int .i64 W, .int .i64 l0, .int .i64 l1, .int .i64 l2, .int .i64 h0, .int .i64 h1, .int .i64 h2] 27))
  replace HW := Lib.hid (blk_alloc HW.out (.cells #[.int .i64 (X + 16 * e), .int .i64 (Y + 16 * f), .int .i64 n0, .int .i64 n1, .int .i64 n2, .int .i64 W, .int .i64 l0, .int .i64 l1, .int .i64 l2, .int .i64 h0, .int .i64 h1, .int .i64 h2] 27))
  replace HP := Lib.hid (blk_alloc HP.out (.cells #[.int .i64 (X + 16 * e), .int .i64 (Y + 16 * f), .int .i64 n0, .int .i64 n1, .int .i64 n2, .int .i64 W, .int .i64 l0, .int .i64 l1, .int .i64 l2, .int .i64 h0, .int .i64 h1, .int .i64 h2] 27))
  replace HQ := Lib.hid (blk_alloc HQ.out (.cells #[.int .i64 (X + 16 * e), .int .i64 (Y + 16 * f), .int .i64 n0, .int .i64 n1, .int .i64 n2, .int .i64 W, .int .i64 l0, .int .i64 l1, .int .i64 l2, .int .i64 h0, .int .i64 h1, .int .i64 h2] 27))
  replace HR := Lib.hid (blk_alloc HR.out (.cells #[.int .i64 (X + 16 * e), .int .i64 (Y + 16 * f), .int .i64 n0, .int .i64 n1, .int .i64 n2, .int .i64 W, .int .i64 l0, .int .i64 l1, .int .i64 l2, .int .i64 h0, .int .i64 h1, .int .i64 h2] 27))
  have HB := Lib.hid (blk_new W1 (.cells #[.int .i64 (X + 16 * e), .int .i64 (Y + 16 * f), .int .i64 n0, .int .i64 n1, .int .i64 n2, .int .i64 W, .int .i64 l0, .int .i64 l1, .int .i64 l2, .int .i64 h0, .int .i64 h1, .int .i64 h2] 27) (W1.heap.size) rfl)
  replace B := Lib.hid (belA B.out (.cells #[.int .i64 (X + 16 * e), .int .i64 (Y + 16 * f), .int .i64 n0, .int .i64 n1, .int .i64 n2, .int .i64 W, .int .i64 l0, .int .i64 l1, .int .i64 l2, .int .i64 h0, .int .i64 h1, .int .i64 h2] 27))
  replace TT := Lib.hid (Tab.alloc TT.out (.cells #[.int .i64 (X + 16 * e), .int .i64 (Y + 16 * f), .int .i64 n0, .int .i64 n1, .int .i64 n2, .int .i64 W, .int .i64 l0, .int .i64 l1, .int .i64 l2, .int .i64 h0, .int .i64 h1, .int .i64 h2] 27))
  generalize (W1.alloc (.cells #[.int .i64 (X + 16 * e), .int .i64 (Y + 16 * f), .int .i64 n0, .int .i64 n1, .int .i64 n2, .int .i64 W, .int .i64 l0, .int .i64 l1, .int .i64 l2, .int .i64 h0, .int .i64 h1, .int .i64 h2] 27)) = W2 at *
  have c0 := blk_cell HB.out 0 _ rfl
  have c1 := blk_cell HB.out 1 _ rfl
  have c2 := blk_cell HB.out 2 _ rfl
  have c3 := blk_cell HB.out 3 _ rfl
  have c4 := blk_cell HB.out 4 _ rfl
  have c5 := blk_cell HB.out 5 _ rfl
  have c6 := blk_cell HB.out 6 _ rfl
  have c7 := blk_cell HB.out 7 _ rfl
  have c8 := blk_cell HB.out 8 _ rfl
  have c9 := blk_cell HB.out 9 _ rfl
  have c10 := blk_cell HB.out 10 _ rfl
  have c11 := blk_cell HB.out 11 _ rfl
  obtain ⟨tb, htb⟩ : ∃ t, armB (X + 16 * e) (Y + 16 * f) n0 n1 n2 W l0 l1 l2 h0 h1 h2 = t := ⟨_, rfl⟩
  replace htb := Lib.hid htb
  go_wp2_with fail
  refine (armv_is (X + 16 * e) (Y + 16 * f) n0 n1 n2 W l0 l1 l2 h0 h1 h2 tb _ htb).mono ?_
  rintro e w4 ⟨rfl, hb4⟩
  clear c0 c1 c2 c3 c4 c5 c6 c7 c8 c9 c10 c11
  replace HA := Lib.hid (blk_call HA.out hb4)
  replace HW := Lib.hid (blk_call HW.out hb4)
  replace HP := Lib.hid (blk_call HP.out hb4)
  replace HQ := Lib.hid (blk_call HQ.out hb4)
  replace HR := Lib.hid (blk_call HR.out hb4)
  replace HB := Lib.hid (blk_call HB.out hb4)
  replace B := Lib.hid (belT B.out hb4)
  replace TT := Lib.hid (Tab.below TT.out hb4)
  clear hb4
  cases tb
  · skip
    have c0 := blk_cell HA.out 0 _ rfl
    have c1 := blk_cell HA.out 1 _ rfl
    have c2 := blk_cell HA.out 2 _ rfl
    have c3 := blk_cell HA.out 3 _ rfl
    have c4 := blk_cell HA.out 4 _ rfl
    have c5 := blk_cell HA.out 5 _ rfl
    have c6 := blk_cell HA.out 6 _ rfl
    have c7 := blk_cell HA.out 7 _ rfl
    have c8 := blk_cell HA.out 8 _ rfl
    have c9 := blk_cell HA.out 9 _ rfl
    have c10 := blk_cell HA.out 10 _ rfl
    have c11 := blk_cell HA.out 11 _ rfl
    have d0 := blk_cell HR.out 0 _ rfl
    have d1 := blk_cell HR.out 1 _ rfl
    have d2 := blk_cell HR.out 2 _ rfl
    obtain ⟨ti, hti⟩ : ∃ t, fitB l0 l1 l2 h0 h1 h2 q0 q2 q1 = t := ⟨_, rfl⟩
    replace hti := Lib.hid hti
    go_wp2_with fail
    refine (inlim_is X Y n0 n1 n2 W l0 l1 l2 h0 h1 h2 q0 q2 q1 ti _ hti).mono ?_
    rintro e w5 ⟨rfl, hb5⟩
    clear c0 c1 c2 c3 c4 c5 c6 c7 c8 c9 c10 c11 d0 d1 d2
    replace HA := Lib.hid (blk_call HA.out hb5)
    replace HW := Lib.hid (blk_call HW.out hb5)
    replace HP := Lib.hid (blk_call HP.out hb5)
    replace HQ := Lib.hid (blk_call HQ.out hb5)
    replace HR := Lib.hid (blk_call HR.out hb5)
    replace HB := Lib.hid (blk_call HB.out hb5)
    replace B := Lib.hid (belT B.out hb5)
    replace TT := Lib.hid (Tab.below TT.out hb5)
    clear hb5
    cases ti
    · go_wp2_with fail
      go_ret
      exact ⟨rfl, B.out⟩
    go_upto_region 23 with fail
    obtain ⟨sp, hsp⟩ : ∃ sp : ToldS, sp = [none, none, none, none, none, none, none, none, none, none, none, none, none, none, none, none, none, none, none, some (newS w5.heap.size #[.int .i64 0, .int .i64 0, .int .i64 0, .int .i64 0, .int .i64 0, .int .i64 0, .int .i64 0, .int .i64 0, .int .i64 0] 42), some (newS w5.heap.size #[.int .i64 0, .int .i64 0, .int .i64 0, .int .i64 0, .int .i64 0, .int .i64 0, .int .i64 0, .int .i64 0, .int .i64 0] 42), none, none, none, none, none, none, none, none, none, none, none, none, none, none, none, none, none, none, none, none, none, none, none, none, none, none, none, none, none, none, none, none, none, none, none, none, none, none, none, none, none, none, none, none, none, none, none, none, none, none, none, none, none, none, none, none, none, none, none, none, none, none, none, none, none, none, none, none, none, none, none, none, none, none, none, none, none, none, none, none, none, none, none, none, none, none, none, none, none, none, none, none, none, none, none, none, none, none, none, none, none, none, none, none, none, none, none, none, none, none, none, none, none, none, none, none, some (eqS (.agg #[.int .i64 X, .int .i64 Y, .int .i64 n0, .int .i64 n1, .int .i64 n2, .int .i64 W, .int .i64 l0, .int .i64 l1, .int .i64 l2, .int .i64 h0, .int .i64 h1, .int .i64 h2])), some (eqS (.agg #[.int .i64 q0, .int .i64 q1, .int .i64 q2])), some (eqS (.agg #[.int .i64 x1, .int .i64 y1, .int .i64 1, .int .i64 x2, .int .i64 y2, .int .i64 2, .int .i64 x3, .int .i64 y3, .int .i64 3])), some (eqS (.agg #[.int .i64 X, .int .i64 Y, .int .i64 n0, .int .i64 n1, .int .i64 n2, .int .i64 W, .int .i64 l0, .int .i64 l1, .int .i64 l2, .int .i64 h0, .int .i64 h1, .int .i64 h2])), some (eqS (.agg #[.int .i64 q0, .int .i64 q2, .int .i64 q1])), some (eqS (.agg #[.int .i64 x1, .int .i64 y1, .int .i64 1, .int .i64 x2p, .int .i64 y2p, .int .i64 2, .int .i64 x3, .int .i64 y3, .int .i64 3]))] := ⟨_, rfl⟩
    have s19 : sp.getD 19 none = some (newS w5.heap.size #[.int .i64 0, .int .i64 0, .int .i64 0, .int .i64 0, .int .i64 0, .int .i64 0, .int .i64 0, .int .i64 0, .int .i64 0] 42) := by rw [hsp]; rfl
    have s20 : sp.getD 20 none = some (newS w5.heap.size #[.int .i64 0, .int .i64 0, .int .i64 0, .int .i64 0, .int .i64 0, .int .i64 0, .int .i64 0, .int .i64 0, .int .i64 0] 42) := by rw [hsp]; rfl
    have s137 : sp.getD 137 none = some (eqS (.agg #[.int .i64 X, .int .i64 Y, .int .i64 n0, .int .i64 n1, .int .i64 n2, .int .i64 W, .int .i64 l0, .int .i64 l1, .int .i64 l2, .int .i64 h0, .int .i64 h1, .int .i64 h2])) := by rw [hsp]; rfl
    have s138 : sp.getD 138 none = some (eqS (.agg #[.int .i64 q0, .int .i64 q1, .int .i64 q2])) := by rw [hsp]; rfl
    have s139 : sp.getD 139 none = some (eqS (.agg #[.int .i64 x1, .int .i64 y1, .int .i64 1, .int .i64 x2, .int .i64 y2, .int .i64 2, .int .i64 x3, .int .i64 y3, .int .i64 3])) := by rw [hsp]; rfl
    have s140 : sp.getD 140 none = some (eqS (.agg #[.int .i64 X, .int .i64 Y, .int .i64 n0, .int .i64 n1, .int .i64 n2, .int .i64 W, .int .i64 l0, .int .i64 l1, .int .i64 l2, .int .i64 h0, .int .i64 h1, .int .i64 h2])) := by rw [hsp]; rfl
    have s141 : sp.getD 141 none = some (eqS (.agg #[.int .i64 q0, .int .i64 q2, .int .i64 q1])) := by rw [hsp]; rfl
    have s142 : sp.getD 142 none = some (eqS (.agg #[.int .i64 x1, .int .i64 y1, .int .i64 1, .int .i64 x2p, .int .i64 y2p, .int .i64 2, .int .i64 x3, .int .i64 y3, .int .i64 3])) := by rw [hsp]; rfl
    clear hsp
    refine (wpIn_wide (n := 0)).1 (region_headF (FS := [19, 20]) (RtS sp) (rtS_keep sp) (fun t v w ht h => by rcases (by simpa using ht : t = 19 ∨ t = 20) with rfl | rfl <;> first | exact newS_fresh s19 h | exact newS_fresh s20 h) 8 rfl rfl rfl (by kernel_rfl) (by decide) (by kernel_rfl) (by kernel_rfl) (by kernel_rfl) ?_ ?_)
    · intro Q'; show ObsF _ _ _ _ _ _ _ _ _ (List.take _ _); simp only [List.take_succ_cons, List.take_zero]
      refine obsF_cons (obF_of ?_ (by intro d e; cases e; decide)) ?_
      · intro T wx K hB hF hD hK
        have g5 : T[5]? = some (.pointer (some ⟨w.heap.size, 0, none⟩)) := hF 5 (freeM_of (by kernel_rfl))
        refine ob_yes (wanted_none rfl) ?_
        clear hF hD
        exact wp_load_row 27 (.tmp 5) rfl w.heap.size (eval_tmp g5) _ _ _ _ (blk_call HA.out hB) Tryd.underlying27 rfl (by kernel_rfl) (hK _ _ (Below.refl _ _) (rt_eqS s137))
      refine obsF_cons (obF_of ?_ (by intro d e; cases e; decide)) ?_
      · intro T wx K hB hF hD hK
        have g12 : T[12]? = some (.pointer (some ⟨w3.heap.size, 0, none⟩)) := hF 12 (freeM_of (by kernel_rfl))
        refine ob_yes (wanted_none rfl) ?_
        clear hF hD
        exact wp_load_row 25 (.tmp 12) rfl (w3.heap.size) (eval_tmp g12) _ _ _ _ (blk_call HQ.out hB) Tryd.underlying25 rfl (by kernel_rfl) (hK _ _ (Below.refl _ _) (rt_eqS s138))
      refine obsF_cons (obF_of ?_ (by intro d e; cases e; decide)) ?_
      · intro T wx K hB hF hD hK
        have g137 := get_eqS (hD 0 137 (by simp [Region.binds]) (by kernel_rfl)) s137
        have g138 := get_eqS (hD 1 138 (by simp [Region.binds]) (by kernel_rfl)) s138
        refine ob_yes (wanted_none rfl) ?_
        clear hF hD
        go_simp
        refine (ldirs_is X Y n0 n1 n2 W l0 l1 l2 h0 h1 h2 q0 q1 q2 x1 y1 x2 y2 x3 y3 _ (TT.out.below hB) k0 k1 k2 (Lib.hid PP.out.e1) (Lib.hid PP.out.e2) (Lib.hid PP.out.e3)).mono ?_; rintro e w9 ⟨rfl, hb⟩
        exact hK _ _ hb (rt_eqS s139)
      refine obsF_cons (obF_of ?_ (by intro d e; cases e; decide)) ?_
      · intro T wx K hB hF hD hK
        have g5 : T[5]? = some (.pointer (some ⟨w.heap.size, 0, none⟩)) := hF 5 (freeM_of (by kernel_rfl))
        refine ob_yes (wanted_none rfl) ?_
        clear hF hD
        exact wp_load_row 27 (.tmp 5) rfl w.heap.size (eval_tmp g5) _ _ _ _ (blk_call HA.out hB) Tryd.underlying27 rfl (by kernel_rfl) (hK _ _ (Below.refl _ _) (rt_eqS s140))
      refine obsF_cons (obF_of ?_ (by intro d e; cases e; decide)) ?_
      · intro T wx K hB hF hD hK
        have g14 : T[14]? = some (.pointer (some ⟨w3.heap.size + 1, 0, none⟩)) := hF 14 (freeM_of (by kernel_rfl))
        refine ob_yes (wanted_none rfl) ?_
        clear hF hD
        exact wp_load_row 25 (.tmp 14) rfl (w3.heap.size + 1) (eval_tmp g14) _ _ _ _ (blk_call HR.out hB) Tryd.underlying25 rfl (by kernel_rfl) (hK _ _ (Below.refl _ _) (rt_eqS s141))
      refine obsF_cons (obF_of ?_ (by intro d e; cases e; decide)) ?_
      · intro T wx K hB hF hD hK
        have g140 := get_eqS (hD 3 140 (by simp [Region.binds]) (by kernel_rfl)) s140
        have g141 := get_eqS (hD 4 141 (by simp [Region.binds]) (by kernel_rfl)) s141
        refine ob_yes (wanted_none rfl) ?_
        clear hF hD
        go_simp
        refine (ldirs_is X Y n0 n1 n2 W l0 l1 l2 h0 h1 h2 q0 q2 q1 x1 y1 x2p y2p x3 y3 _ (TT.out.below hB) kr0 kr1 kr2 (Lib.hid PQ.out.e1) (Lib.hid PQ.out.e2) (Lib.hid PQ.out.e3)).mono ?_; rintro e w9 ⟨rfl, hb⟩
        exact hK _ _ hb (rt_eqS s142)
      refine obsF_cons ?_ ?_
      · intro T wx K hB hF hD hK
        refine ob_yes (wanted_none rfl) ?_
        clear hF hD
        go_simp
        exact hK _ _ (belA (Below.refl _ _) _) (fun d e => by cases e; exact ⟨rt_S s19 ⟨_, rfl, hB.size, blk_new _ _ _ rfl⟩ _ rfl, fun _ => rfl⟩)
      refine obsF_cons ?_ ?_
      · intro T wx K hB hF hD hK
        refine ob_yes (wanted_none rfl) ?_
        clear hF hD
        go_simp
        exact hK _ _ (belA (Below.refl _ _) _) (fun d e => by cases e; exact ⟨rt_S s20 ⟨_, rfl, hB.size, blk_new _ _ _ rfl⟩ _ rfl, fun _ => rfl⟩)
      exact obsF_nil
    · intro T8 v8 hb8 hF hs hD hN
      have g137 := get_eqS (hD 0 137 (by decide) (by kernel_rfl)) s137
      have g138 := get_eqS (hD 1 138 (by decide) (by kernel_rfl)) s138
      have g139 := get_eqS (hD 2 139 (by decide) (by kernel_rfl)) s139
      have g140 := get_eqS (hD 3 140 (by decide) (by kernel_rfl)) s140
      have g141 := get_eqS (hD 4 141 (by decide) (by kernel_rfl)) s141
      have g142 := get_eqS (hD 5 142 (by decide) (by kernel_rfl)) s142
      obtain ⟨v19, g19, p19⟩ := getS (hD 6 19 (by decide) (by kernel_rfl)) s19
      obtain ⟨v20, g20, p20⟩ := getS (hD 7 20 (by decide) (by kernel_rfl)) s20
      have N19_20 := hN 19 20 (by decide) (by decide) (by decide) ⟨6, by decide, by kernel_rfl⟩ ⟨7, by decide, by kernel_rfl⟩
      rw [g19, g20] at N19_20
      have hT := conc [(137, .agg #[.int .i64 X, .int .i64 Y, .int .i64 n0, .int .i64 n1, .int .i64 n2, .int .i64 W, .int .i64 l0, .int .i64 l1, .int .i64 l2, .int .i64 h0, .int .i64 h1, .int .i64 h2]), (138, .agg #[.int .i64 q0, .int .i64 q1, .int .i64 q2]), (139, .agg #[.int .i64 x1, .int .i64 y1, .int .i64 1, .int .i64 x2, .int .i64 y2, .int .i64 2, .int .i64 x3, .int .i64 y3, .int .i64 3]), (140, .agg #[.int .i64 X, .int .i64 Y, .int .i64 n0, .int .i64 n1, .int .i64 n2, .int .i64 W, .int .i64 l0, .int .i64 l1, .int .i64 l2, .int .i64 h0, .int .i64 h1, .int .i64 h2]), (141, .agg #[.int .i64 q0, .int .i64 q2, .int .i64 q1]), (142, .agg #[.int .i64 x1, .int .i64 y1, .int .i64 1, .int .i64 x2p, .int .i64 y2p, .int .i64 2, .int .i64 x3, .int .i64 y3, .int .i64 3]), (19, v19), (20, v20)] hs hF (by simp only [List.forall_mem_cons]; exact ⟨g137, g138, g139, g140, g141, g142, g19, g20, fun p hp => absurd hp List.not_mem_nil⟩) (by kernel_rfl)
      simp only [List.foldl, List.setIfInBounds_toArray, List.set_cons_succ, List.set_cons_zero] at hT
      subst hT
      clear hF hD hs hN g137 g138 g139 g140 g141 g142 g19 g20 s19 s20 s137 s138 s139 s140 s141 s142
      show wpOpsIn _ _ _ _ _ [8, 9] _ _
      obtain ⟨b19, rfl, hs19, h19⟩ := p19
      obtain ⟨b20, rfl, hs20, h20⟩ := p20
      have ne : b19 ≠ b20 := fun e => N19_20 (by rw [e])
      refine tail_store rfl rfl rfl rfl rfl 42 (.tmp 19) (.tmp 139) rfl rfl b19 #[.int .i64 x1, .int .i64 y1, .int .i64 1, .int .i64 x2, .int .i64 y2, .int .i64 2, .int .i64 x3, .int .i64 y3, .int .i64 3] rfl rfl _ _ h19 (by kernel_rfl) rfl (by kernel_rfl) ?_
      have h20' := (setRow_other v8 b19 b20 #[.int .i64 x1, .int .i64 y1, .int .i64 1, .int .i64 x2, .int .i64 y2, .int .i64 2, .int .i64 x3, .int .i64 y3, .int .i64 3] (fun h => ne h.symm)).trans h20
      refine tail_store rfl rfl rfl rfl rfl 42 (.tmp 20) (.tmp 142) rfl rfl b20 #[.int .i64 x1, .int .i64 y1, .int .i64 1, .int .i64 x2p, .int .i64 y2p, .int .i64 2, .int .i64 x3, .int .i64 y3, .int .i64 3] rfl rfl _ _ h20' (by kernel_rfl) rfl (by kernel_rfl) ?_
      have H19 := Lib.hid ((setRow_other _ b20 b19 #[.int .i64 x1, .int .i64 y1, .int .i64 1, .int .i64 x2p, .int .i64 y2p, .int .i64 2, .int .i64 x3, .int .i64 y3, .int .i64 3] ne).trans (setRow_heap v8 b19 _ #[.int .i64 x1, .int .i64 y1, .int .i64 1, .int .i64 x2, .int .i64 y2, .int .i64 2, .int .i64 x3, .int .i64 y3, .int .i64 3] _ _ h19))
      have H20 := Lib.hid (setRow_heap _ b20 _ #[.int .i64 x1, .int .i64 y1, .int .i64 1, .int .i64 x2p, .int .i64 y2p, .int .i64 2, .int .i64 x3, .int .i64 y3, .int .i64 3] _ _ h20')
      have bw := below_setRow7 (below_setRow7 hb8 hs19 #[.int .i64 x1, .int .i64 y1, .int .i64 1, .int .i64 x2, .int .i64 y2, .int .i64 2, .int .i64 x3, .int .i64 y3, .int .i64 3]) hs20 #[.int .i64 x1, .int .i64 y1, .int .i64 1, .int .i64 x2p, .int .i64 y2p, .int .i64 2, .int .i64 x3, .int .i64 y3, .int .i64 3]
      replace B := Lib.hid (belT B.out bw)
      replace TT := Lib.hid (Tab.below TT.out bw)
      clear bw hb8 h19 h20 h20' hs19 hs20 N19_20 ne HA HQ HR HP
      simp only [wpOpsIn]
      generalize ((v8.setRow b19 #[.int .i64 x1, .int .i64 y1, .int .i64 1, .int .i64 x2, .int .i64 y2, .int .i64 2, .int .i64 x3, .int .i64 y3, .int .i64 3]).setRow b20 #[.int .i64 x1, .int .i64 y1, .int .i64 1, .int .i64 x2p, .int .i64 y2p, .int .i64 2, .int .i64 x3, .int .i64 y3, .int .i64 3]) = W7 at *
      go_wp2_with fail
      refine wp_loop_rounds 4 ?_
      rw [rounds_succ]
      have c0 := blk_cell H19.out 0 _ rfl
      have c1 := blk_cell H19.out 1 _ rfl
      have c2 := blk_cell H19.out 2 _ rfl
      have d0 := blk_cell H20.out 0 _ rfl
      have d1 := blk_cell H20.out 1 _ rfl
      have d2 := blk_cell H20.out 2 _ rfl
      go_wp2_with fail
      go_quiet (fail)
      obtain ⟨X0, hW⟩ : ∃ x, W7.drewN nq = x := ⟨_, rfl⟩
      rw [hW]
      replace H19 := Lib.hid (blk_dr hW H19.out)
      replace H20 := Lib.hid (blk_dr hW H20.out)
      replace B := Lib.hid (bel_dr hW B.out)
      replace TT := Lib.hid (tab_dr hW TT.out)
      clear hW
      clear c0 c1 c2 d0 d1 d2
      go_wp2_with fail
      rw [rounds_succ]
      have c3 := blk_cell H19.out 3 _ rfl
      have c4 := blk_cell H19.out 4 _ rfl
      have c5 := blk_cell H19.out 5 _ rfl
      have d3 := blk_cell H20.out 3 _ rfl
      have d4 := blk_cell H20.out 4 _ rfl
      have d5 := blk_cell H20.out 5 _ rfl
      go_wp2_with fail
      go_quiet (fail)
      obtain ⟨X1, hW⟩ : ∃ x, X0.drewN nq = x := ⟨_, rfl⟩
      rw [hW]
      replace H19 := Lib.hid (blk_dr hW H19.out)
      replace H20 := Lib.hid (blk_dr hW H20.out)
      replace B := Lib.hid (bel_dr hW B.out)
      replace TT := Lib.hid (tab_dr hW TT.out)
      clear hW
      clear c3 c4 c5 d3 d4 d5
      go_wp2_with fail
      rw [rounds_succ]
      have c6 := blk_cell H19.out 6 _ rfl
      have c7 := blk_cell H19.out 7 _ rfl
      have c8 := blk_cell H19.out 8 _ rfl
      have d6 := blk_cell H20.out 6 _ rfl
      have d7 := blk_cell H20.out 7 _ rfl
      have d8 := blk_cell H20.out 8 _ rfl
      go_wp2_with fail
      go_quiet (fail)
      obtain ⟨X2, hW⟩ : ∃ x, X1.drewN nq = x := ⟨_, rfl⟩
      rw [hW]
      replace H19 := Lib.hid (blk_dr hW H19.out)
      replace H20 := Lib.hid (blk_dr hW H20.out)
      replace B := Lib.hid (bel_dr hW B.out)
      replace TT := Lib.hid (tab_dr hW TT.out)
      clear hW
      clear c6 c7 c8 d6 d7 d8
      go_wp2_with fail
      rw [rounds_succ]
      go_wp2_with fail
      go_ret
      exact ⟨rfl, B.out⟩
  go_upto_region 15 with fail
  have PM := Lib.hid (pose_moved PP.out e f)
  obtain ⟨sp, hsp⟩ : ∃ sp : ToldS, sp = [none, none, none, none, none, none, none, none, none, none, none, none, none, none, none, none, some (newS w4.heap.size #[.int .i64 0, .int .i64 0, .int .i64 0, .int .i64 0, .int .i64 0, .int .i64 0, .int .i64 0, .int .i64 0] 44), some (newS w4.heap.size #[.int .i64 0, .int .i64 0, .int .i64 0, .int .i64 0, .int .i64 0, .int .i64 0, .int .i64 0, .int .i64 0] 44), none, none, none, none, none, none, none, none, none, none, none, none, none, none, none, none, none, none, none, none, none, none, none, none, none, none, none, none, none, none, none, none, none, none, none, none, none, none, none, none, none, none, none, none, none, none, none, none, none, none, none, none, none, none, none, none, none, none, none, none, none, none, none, none, none, none, none, none, none, none, none, none, none, none, some (eqS (.agg #[.int .i64 X, .int .i64 Y, .int .i64 n0, .int .i64 n1, .int .i64 n2, .int .i64 W, .int .i64 l0, .int .i64 l1, .int .i64 l2, .int .i64 h0, .int .i64 h1, .int .i64 h2])), some (eqS (.agg #[.int .i64 q0, .int .i64 q1, .int .i64 q2])), some (eqS (.agg #[.int .i64 X, .int .i64 Y, .int .i64 a1, .int .i64 b1, .int .i64 a2, .int .i64 b2, .int .i64 a3, .int .i64 b3])), some (eqS (.agg #[.int .i64 (X + 16 * e), .int .i64 (Y + 16 * f), .int .i64 n0, .int .i64 n1, .int .i64 n2, .int .i64 W, .int .i64 l0, .int .i64 l1, .int .i64 l2, .int .i64 h0, .int .i64 h1, .int .i64 h2])), some (eqS (.agg #[.int .i64 q0, .int .i64 q1, .int .i64 q2])), some (eqS (.agg #[.int .i64 (X + 16 * e), .int .i64 (Y + 16 * f), .int .i64 (a1 + 16 * e), .int .i64 (b1 + 16 * f), .int .i64 (a2 + 16 * e), .int .i64 (b2 + 16 * f), .int .i64 (a3 + 16 * e), .int .i64 (b3 + 16 * f)]))] := ⟨_, rfl⟩
  have s16 : sp.getD 16 none = some (newS w4.heap.size #[.int .i64 0, .int .i64 0, .int .i64 0, .int .i64 0, .int .i64 0, .int .i64 0, .int .i64 0, .int .i64 0] 44) := by rw [hsp]; rfl
  have s17 : sp.getD 17 none = some (newS w4.heap.size #[.int .i64 0, .int .i64 0, .int .i64 0, .int .i64 0, .int .i64 0, .int .i64 0, .int .i64 0, .int .i64 0] 44) := by rw [hsp]; rfl
  have s92 : sp.getD 92 none = some (eqS (.agg #[.int .i64 X, .int .i64 Y, .int .i64 n0, .int .i64 n1, .int .i64 n2, .int .i64 W, .int .i64 l0, .int .i64 l1, .int .i64 l2, .int .i64 h0, .int .i64 h1, .int .i64 h2])) := by rw [hsp]; rfl
  have s93 : sp.getD 93 none = some (eqS (.agg #[.int .i64 q0, .int .i64 q1, .int .i64 q2])) := by rw [hsp]; rfl
  have s94 : sp.getD 94 none = some (eqS (.agg #[.int .i64 X, .int .i64 Y, .int .i64 a1, .int .i64 b1, .int .i64 a2, .int .i64 b2, .int .i64 a3, .int .i64 b3])) := by rw [hsp]; rfl
  have s95 : sp.getD 95 none = some (eqS (.agg #[.int .i64 (X + 16 * e), .int .i64 (Y + 16 * f), .int .i64 n0, .int .i64 n1, .int .i64 n2, .int .i64 W, .int .i64 l0, .int .i64 l1, .int .i64 l2, .int .i64 h0, .int .i64 h1, .int .i64 h2])) := by rw [hsp]; rfl
  have s96 : sp.getD 96 none = some (eqS (.agg #[.int .i64 q0, .int .i64 q1, .int .i64 q2])) := by rw [hsp]; rfl
  have s97 : sp.getD 97 none = some (eqS (.agg #[.int .i64 (X + 16 * e), .int .i64 (Y + 16 * f), .int .i64 (a1 + 16 * e), .int .i64 (b1 + 16 * f), .int .i64 (a2 + 16 * e), .int .i64 (b2 + 16 * f), .int .i64 (a3 + 16 * e), .int .i64 (b3 + 16 * f)])) := by rw [hsp]; rfl
  clear hsp
  refine (wpIn_wide (n := 0)).1 (region_headF (FS := [16, 17]) (RtS sp) (rtS_keep sp) (fun t v w ht h => by rcases (by simpa using ht : t = 16 ∨ t = 17) with rfl | rfl <;> first | exact newS_fresh s16 h | exact newS_fresh s17 h) 8 rfl rfl rfl (by kernel_rfl) (by decide) (by kernel_rfl) (by kernel_rfl) (by kernel_rfl) ?_ ?_)
  · intro Q'; show ObsF _ _ _ _ _ _ _ _ _ (List.take _ _); simp only [List.take_succ_cons, List.take_zero]
    refine obsF_cons (obF_of ?_ (by intro d e; cases e; decide)) ?_
    · intro T wx K hB hF hD hK
      have g5 : T[5]? = some (.pointer (some ⟨w.heap.size, 0, none⟩)) := hF 5 (freeM_of (by kernel_rfl))
      refine ob_yes (wanted_none rfl) ?_
      clear hF hD
      exact wp_load_row 27 (.tmp 5) rfl w.heap.size (eval_tmp g5) _ _ _ _ (blk_call HA.out hB) Tryd.underlying27 rfl (by kernel_rfl) (hK _ _ (Below.refl _ _) (rt_eqS s92))
    refine obsF_cons (obF_of ?_ (by intro d e; cases e; decide)) ?_
    · intro T wx K hB hF hD hK
      have g12 : T[12]? = some (.pointer (some ⟨w3.heap.size, 0, none⟩)) := hF 12 (freeM_of (by kernel_rfl))
      refine ob_yes (wanted_none rfl) ?_
      clear hF hD
      exact wp_load_row 25 (.tmp 12) rfl (w3.heap.size) (eval_tmp g12) _ _ _ _ (blk_call HQ.out hB) Tryd.underlying25 rfl (by kernel_rfl) (hK _ _ (Below.refl _ _) (rt_eqS s93))
    refine obsF_cons (obF_of ?_ (by intro d e; cases e; decide)) ?_
    · intro T wx K hB hF hD hK
      have g92 := get_eqS (hD 0 92 (by simp [Region.binds]) (by kernel_rfl)) s92
      have g93 := get_eqS (hD 1 93 (by simp [Region.binds]) (by kernel_rfl)) s93
      refine ob_yes (wanted_none rfl) ?_
      clear hF hD
      go_simp
      refine (jpts_is X Y n0 n1 n2 W l0 l1 l2 h0 h1 h2 q0 q1 q2 x1 x2 x3 y1 y2 y3 u1 u2 u3 v1 v2 v3 a1 a2 a3 b1 b2 b3 _ (TT.out.below hB) k0 k1 k2 HT PP).mono ?_; rintro e w9 ⟨rfl, hb⟩
      exact hK _ _ hb (rt_eqS s94)
    refine obsF_cons (obF_of ?_ (by intro d e; cases e; decide)) ?_
    · intro T wx K hB hF hD hK
      have g15 : T[15]? = some (.pointer (some ⟨W1.heap.size, 0, none⟩)) := hF 15 (freeM_of (by kernel_rfl))
      refine ob_yes (wanted_none rfl) ?_
      clear hF hD
      exact wp_load_row 27 (.tmp 15) rfl (W1.heap.size) (eval_tmp g15) _ _ _ _ (blk_call HB.out hB) Tryd.underlying27 rfl (by kernel_rfl) (hK _ _ (Below.refl _ _) (rt_eqS s95))
    refine obsF_cons (obF_of ?_ (by intro d e; cases e; decide)) ?_
    · intro T wx K hB hF hD hK
      have g12 : T[12]? = some (.pointer (some ⟨w3.heap.size, 0, none⟩)) := hF 12 (freeM_of (by kernel_rfl))
      refine ob_yes (wanted_none rfl) ?_
      clear hF hD
      exact wp_load_row 25 (.tmp 12) rfl (w3.heap.size) (eval_tmp g12) _ _ _ _ (blk_call HQ.out hB) Tryd.underlying25 rfl (by kernel_rfl) (hK _ _ (Below.refl _ _) (rt_eqS s96))
    refine obsF_cons (obF_of ?_ (by intro d e; cases e; decide)) ?_
    · intro T wx K hB hF hD hK
      have g95 := get_eqS (hD 3 95 (by simp [Region.binds]) (by kernel_rfl)) s95
      have g96 := get_eqS (hD 4 96 (by simp [Region.binds]) (by kernel_rfl)) s96
      refine ob_yes (wanted_none rfl) ?_
      clear hF hD
      go_simp
      refine (jpts_is (X + 16 * e) (Y + 16 * f) n0 n1 n2 W l0 l1 l2 h0 h1 h2 q0 q1 q2 x1 x2 x3 y1 y2 y3 u1 u2 u3 v1 v2 v3 (a1 + 16 * e) (a2 + 16 * e) (a3 + 16 * e) (b1 + 16 * f) (b2 + 16 * f) (b3 + 16 * f) _ (TT.out.below hB) k0 k1 k2 htb PM).mono ?_; rintro e w9 ⟨rfl, hb⟩
      exact hK _ _ hb (rt_eqS s97)
    refine obsF_cons ?_ ?_
    · intro T wx K hB hF hD hK
      refine ob_yes (wanted_none rfl) ?_
      clear hF hD
      go_simp
      exact hK _ _ (belA (Below.refl _ _) _) (fun d e => by cases e; exact ⟨rt_S s16 ⟨_, rfl, hB.size, blk_new _ _ _ rfl⟩ _ rfl, fun _ => rfl⟩)
    refine obsF_cons ?_ ?_
    · intro T wx K hB hF hD hK
      refine ob_yes (wanted_none rfl) ?_
      clear hF hD
      go_simp
      exact hK _ _ (belA (Below.refl _ _) _) (fun d e => by cases e; exact ⟨rt_S s17 ⟨_, rfl, hB.size, blk_new _ _ _ rfl⟩ _ rfl, fun _ => rfl⟩)
    exact obsF_nil
  · intro T6 w8 hb8 hF hs hD hN
    have g92 := get_eqS (hD 0 92 (by decide) (by kernel_rfl)) s92
    have g93 := get_eqS (hD 1 93 (by decide) (by kernel_rfl)) s93
    have g94 := get_eqS (hD 2 94 (by decide) (by kernel_rfl)) s94
    have g95 := get_eqS (hD 3 95 (by decide) (by kernel_rfl)) s95
    have g96 := get_eqS (hD 4 96 (by decide) (by kernel_rfl)) s96
    have g97 := get_eqS (hD 5 97 (by decide) (by kernel_rfl)) s97
    obtain ⟨v16, g16, p16⟩ := getS (hD 6 16 (by decide) (by kernel_rfl)) s16
    obtain ⟨v17, g17, p17⟩ := getS (hD 7 17 (by decide) (by kernel_rfl)) s17
    have N16_17 := hN 16 17 (by decide) (by decide) (by decide) ⟨6, by decide, by kernel_rfl⟩ ⟨7, by decide, by kernel_rfl⟩
    rw [g16, g17] at N16_17
    have hT := conc [(92, .agg #[.int .i64 X, .int .i64 Y, .int .i64 n0, .int .i64 n1, .int .i64 n2, .int .i64 W, .int .i64 l0, .int .i64 l1, .int .i64 l2, .int .i64 h0, .int .i64 h1, .int .i64 h2]), (93, .agg #[.int .i64 q0, .int .i64 q1, .int .i64 q2]), (94, .agg #[.int .i64 X, .int .i64 Y, .int .i64 a1, .int .i64 b1, .int .i64 a2, .int .i64 b2, .int .i64 a3, .int .i64 b3]), (95, .agg #[.int .i64 (X + 16 * e), .int .i64 (Y + 16 * f), .int .i64 n0, .int .i64 n1, .int .i64 n2, .int .i64 W, .int .i64 l0, .int .i64 l1, .int .i64 l2, .int .i64 h0, .int .i64 h1, .int .i64 h2]), (96, .agg #[.int .i64 q0, .int .i64 q1, .int .i64 q2]), (97, .agg #[.int .i64 (X + 16 * e), .int .i64 (Y + 16 * f), .int .i64 (a1 + 16 * e), .int .i64 (b1 + 16 * f), .int .i64 (a2 + 16 * e), .int .i64 (b2 + 16 * f), .int .i64 (a3 + 16 * e), .int .i64 (b3 + 16 * f)]), (16, v16), (17, v17)] hs hF (by simp only [List.forall_mem_cons]; exact ⟨g92, g93, g94, g95, g96, g97, g16, g17, fun p hp => absurd hp List.not_mem_nil⟩) (by kernel_rfl)
    simp only [List.foldl, List.setIfInBounds_toArray, List.set_cons_succ, List.set_cons_zero] at hT
    subst hT
    clear hF hD hs hN g92 g93 g94 g95 g96 g97 g16 g17 s16 s17 s92 s93 s94 s95 s96 s97
    show wpOpsIn _ _ _ _ _ [8, 9] _ _
    obtain ⟨b16, rfl, hs16, h16⟩ := p16
    obtain ⟨b17, rfl, hs17, h17⟩ := p17
    have ne : b16 ≠ b17 := fun e => N16_17 (by rw [e])
    refine tail_store rfl rfl rfl rfl rfl 44 (.tmp 16) (.tmp 94) rfl rfl b16 #[.int .i64 X, .int .i64 Y, .int .i64 a1, .int .i64 b1, .int .i64 a2, .int .i64 b2, .int .i64 a3, .int .i64 b3] rfl rfl _ _ h16 (by kernel_rfl) rfl (by kernel_rfl) ?_
    have h17' := (setRow_other w8 b16 b17 #[.int .i64 X, .int .i64 Y, .int .i64 a1, .int .i64 b1, .int .i64 a2, .int .i64 b2, .int .i64 a3, .int .i64 b3] (fun h => ne h.symm)).trans h17
    refine tail_store rfl rfl rfl rfl rfl 44 (.tmp 17) (.tmp 97) rfl rfl b17 #[.int .i64 (X + 16 * e), .int .i64 (Y + 16 * f), .int .i64 (a1 + 16 * e), .int .i64 (b1 + 16 * f), .int .i64 (a2 + 16 * e), .int .i64 (b2 + 16 * f), .int .i64 (a3 + 16 * e), .int .i64 (b3 + 16 * f)] rfl rfl _ _ h17' (by kernel_rfl) rfl (by kernel_rfl) ?_
    have la := blk_lt HA.out
    have lq := blk_lt HQ.out
    have lr := blk_lt HR.out
    have lp := blk_lt HP.out
    have H16 := Lib.hid ((setRow_other _ b17 b16 #[.int .i64 (X + 16 * e), .int .i64 (Y + 16 * f), .int .i64 (a1 + 16 * e), .int .i64 (b1 + 16 * f), .int .i64 (a2 + 16 * e), .int .i64 (b2 + 16 * f), .int .i64 (a3 + 16 * e), .int .i64 (b3 + 16 * f)] ne).trans (setRow_heap w8 b16 _ #[.int .i64 X, .int .i64 Y, .int .i64 a1, .int .i64 b1, .int .i64 a2, .int .i64 b2, .int .i64 a3, .int .i64 b3] _ _ h16))
    have H17 := Lib.hid (setRow_heap _ b17 _ #[.int .i64 (X + 16 * e), .int .i64 (Y + 16 * f), .int .i64 (a1 + 16 * e), .int .i64 (b1 + 16 * f), .int .i64 (a2 + 16 * e), .int .i64 (b2 + 16 * f), .int .i64 (a3 + 16 * e), .int .i64 (b3 + 16 * f)] _ _ h17')
    replace HA := Lib.hid ((setRow_other _ b17 _ #[.int .i64 (X + 16 * e), .int .i64 (Y + 16 * f), .int .i64 (a1 + 16 * e), .int .i64 (b1 + 16 * f), .int .i64 (a2 + 16 * e), .int .i64 (b2 + 16 * f), .int .i64 (a3 + 16 * e), .int .i64 (b3 + 16 * f)] (by omega)).trans ((setRow_other w8 b16 _ #[.int .i64 X, .int .i64 Y, .int .i64 a1, .int .i64 b1, .int .i64 a2, .int .i64 b2, .int .i64 a3, .int .i64 b3] (by omega)).trans (blk_call HA.out hb8)))
    replace HQ := Lib.hid ((setRow_other _ b17 _ #[.int .i64 (X + 16 * e), .int .i64 (Y + 16 * f), .int .i64 (a1 + 16 * e), .int .i64 (b1 + 16 * f), .int .i64 (a2 + 16 * e), .int .i64 (b2 + 16 * f), .int .i64 (a3 + 16 * e), .int .i64 (b3 + 16 * f)] (by omega)).trans ((setRow_other w8 b16 _ #[.int .i64 X, .int .i64 Y, .int .i64 a1, .int .i64 b1, .int .i64 a2, .int .i64 b2, .int .i64 a3, .int .i64 b3] (by omega)).trans (blk_call HQ.out hb8)))
    replace HR := Lib.hid ((setRow_other _ b17 _ #[.int .i64 (X + 16 * e), .int .i64 (Y + 16 * f), .int .i64 (a1 + 16 * e), .int .i64 (b1 + 16 * f), .int .i64 (a2 + 16 * e), .int .i64 (b2 + 16 * f), .int .i64 (a3 + 16 * e), .int .i64 (b3 + 16 * f)] (by omega)).trans ((setRow_other w8 b16 _ #[.int .i64 X, .int .i64 Y, .int .i64 a1, .int .i64 b1, .int .i64 a2, .int .i64 b2, .int .i64 a3, .int .i64 b3] (by omega)).trans (blk_call HR.out hb8)))
    replace HP := Lib.hid ((setRow_other _ b17 _ #[.int .i64 (X + 16 * e), .int .i64 (Y + 16 * f), .int .i64 (a1 + 16 * e), .int .i64 (b1 + 16 * f), .int .i64 (a2 + 16 * e), .int .i64 (b2 + 16 * f), .int .i64 (a3 + 16 * e), .int .i64 (b3 + 16 * f)] (by omega)).trans ((setRow_other w8 b16 _ #[.int .i64 X, .int .i64 Y, .int .i64 a1, .int .i64 b1, .int .i64 a2, .int .i64 b2, .int .i64 a3, .int .i64 b3] (by omega)).trans (blk_call HP.out hb8)))
    have bw := below_setRow7 (below_setRow7 hb8 hs16 #[.int .i64 X, .int .i64 Y, .int .i64 a1, .int .i64 b1, .int .i64 a2, .int .i64 b2, .int .i64 a3, .int .i64 b3]) hs17 #[.int .i64 (X + 16 * e), .int .i64 (Y + 16 * f), .int .i64 (a1 + 16 * e), .int .i64 (b1 + 16 * f), .int .i64 (a2 + 16 * e), .int .i64 (b2 + 16 * f), .int .i64 (a3 + 16 * e), .int .i64 (b3 + 16 * f)]
    replace B := Lib.hid (belT B.out bw)
    replace TT := Lib.hid (Tab.below TT.out bw)
    clear bw hb8 h16 h17 h17' hs16 hs17 N16_17 ne la lq lr lp HB
    simp only [wpOpsIn]
    generalize ((w8.setRow b16 #[.int .i64 X, .int .i64 Y, .int .i64 a1, .int .i64 b1, .int .i64 a2, .int .i64 b2, .int .i64 a3, .int .i64 b3]).setRow b17 #[.int .i64 (X + 16 * e), .int .i64 (Y + 16 * f), .int .i64 (a1 + 16 * e), .int .i64 (b1 + 16 * f), .int .i64 (a2 + 16 * e), .int .i64 (b2 + 16 * f), .int .i64 (a3 + 16 * e), .int .i64 (b3 + 16 * f)]) = W3 at *
    have PBd := pose_bd PP.out HT.out
    have WB : 1 ≤ W ∧ W ≤ 4 := by have := (armB_iff X Y n0 n1 n2 W l0 l1 l2 h0 h1 h2).1 HT.out; omega
    have PR : (-1000000000 ≤ a1 ∧ a1 ≤ 1000000000) ∧ (-1000000000 ≤ b1 ∧ b1 ≤ 1000000000) ∧ (-1000000000 ≤ a2 ∧ a2 ≤ 1000000000) ∧ (-1000000000 ≤ b2 ∧ b2 ≤ 1000000000) ∧ (-1000000000 ≤ a3 ∧ a3 ≤ 1000000000) ∧ (-1000000000 ≤ b3 ∧ b3 ≤ 1000000000) := by omega
    clear PBd WB
    obtain ⟨r1', r2', r3', r4', r5', r6'⟩ := PR
    go_wp2_with fail
    refine wp_loop_rounds 5 ?_
    rw [rounds_succ]
    have c0 := blk_cell H16.out 0 _ rfl
    have c1 := blk_cell H16.out 1 _ rfl
    have d0 := blk_cell H17.out 0 _ rfl
    have d1 := blk_cell H17.out 1 _ rfl
    have g0 := blk_cell HP.out 0 _ rfl
    have g1 := blk_cell HP.out 1 _ rfl
    have y0 : X + 16 * e - X = 16 * e := by omega
    have y1 : Y + 16 * f - Y = 16 * f := by omega
    go_wp2_with fail
    go_quiet (fail)
    obtain ⟨Z0, hW⟩ : ∃ x, W3.drewN nq = x := ⟨_, rfl⟩
    rw [hW]
    replace HA := Lib.hid (blk_dr hW HA.out)
    replace HQ := Lib.hid (blk_dr hW HQ.out)
    replace HR := Lib.hid (blk_dr hW HR.out)
    replace HP := Lib.hid (blk_dr hW HP.out)
    replace H16 := Lib.hid (blk_dr hW H16.out)
    replace H17 := Lib.hid (blk_dr hW H17.out)
    replace B := Lib.hid (bel_dr hW B.out)
    replace TT := Lib.hid (tab_dr hW TT.out)
    clear hW
    clear y0 y1 c0 c1 d0 d1 g0 g1
    go_wp2_with fail
    rw [rounds_succ]
    have c2 := blk_cell H16.out 2 _ rfl
    have c3 := blk_cell H16.out 3 _ rfl
    have d2 := blk_cell H17.out 2 _ rfl
    have d3 := blk_cell H17.out 3 _ rfl
    have g0 := blk_cell HP.out 0 _ rfl
    have g1 := blk_cell HP.out 1 _ rfl
    have y0 : a1 + 16 * e - a1 = 16 * e := by omega
    have y1 : b1 + 16 * f - b1 = 16 * f := by omega
    go_wp2_with fail
    go_quiet (fail)
    obtain ⟨Z1, hW⟩ : ∃ x, Z0.drewN nq = x := ⟨_, rfl⟩
    rw [hW]
    replace HA := Lib.hid (blk_dr hW HA.out)
    replace HQ := Lib.hid (blk_dr hW HQ.out)
    replace HR := Lib.hid (blk_dr hW HR.out)
    replace HP := Lib.hid (blk_dr hW HP.out)
    replace H16 := Lib.hid (blk_dr hW H16.out)
    replace H17 := Lib.hid (blk_dr hW H17.out)
    replace B := Lib.hid (bel_dr hW B.out)
    replace TT := Lib.hid (tab_dr hW TT.out)
    clear hW
    clear y0 y1 c2 c3 d2 d3 g0 g1
    go_wp2_with fail
    rw [rounds_succ]
    have c4 := blk_cell H16.out 4 _ rfl
    have c5 := blk_cell H16.out 5 _ rfl
    have d4 := blk_cell H17.out 4 _ rfl
    have d5 := blk_cell H17.out 5 _ rfl
    have g0 := blk_cell HP.out 0 _ rfl
    have g1 := blk_cell HP.out 1 _ rfl
    have y0 : a2 + 16 * e - a2 = 16 * e := by omega
    have y1 : b2 + 16 * f - b2 = 16 * f := by omega
    go_wp2_with fail
    go_quiet (fail)
    obtain ⟨Z2, hW⟩ : ∃ x, Z1.drewN nq = x := ⟨_, rfl⟩
    rw [hW]
    replace HA := Lib.hid (blk_dr hW HA.out)
    replace HQ := Lib.hid (blk_dr hW HQ.out)
    replace HR := Lib.hid (blk_dr hW HR.out)
    replace HP := Lib.hid (blk_dr hW HP.out)
    replace H16 := Lib.hid (blk_dr hW H16.out)
    replace H17 := Lib.hid (blk_dr hW H17.out)
    replace B := Lib.hid (bel_dr hW B.out)
    replace TT := Lib.hid (tab_dr hW TT.out)
    clear hW
    clear y0 y1 c4 c5 d4 d5 g0 g1
    go_wp2_with fail
    rw [rounds_succ]
    have c6 := blk_cell H16.out 6 _ rfl
    have c7 := blk_cell H16.out 7 _ rfl
    have d6 := blk_cell H17.out 6 _ rfl
    have d7 := blk_cell H17.out 7 _ rfl
    have g0 := blk_cell HP.out 0 _ rfl
    have g1 := blk_cell HP.out 1 _ rfl
    have y0 : a3 + 16 * e - a3 = 16 * e := by omega
    have y1 : b3 + 16 * f - b3 = 16 * f := by omega
    go_wp2_with fail
    go_quiet (fail)
    obtain ⟨Z3, hW⟩ : ∃ x, Z2.drewN nq = x := ⟨_, rfl⟩
    rw [hW]
    replace HA := Lib.hid (blk_dr hW HA.out)
    replace HQ := Lib.hid (blk_dr hW HQ.out)
    replace HR := Lib.hid (blk_dr hW HR.out)
    replace HP := Lib.hid (blk_dr hW HP.out)
    replace H16 := Lib.hid (blk_dr hW H16.out)
    replace H17 := Lib.hid (blk_dr hW H17.out)
    replace B := Lib.hid (bel_dr hW B.out)
    replace TT := Lib.hid (tab_dr hW TT.out)
    clear hW
    clear y0 y1 c6 c7 d6 d7 g0 g1
    go_wp2_with fail
    rw [rounds_succ]
    have c0 := blk_cell HA.out 0 _ rfl
    have c1 := blk_cell HA.out 1 _ rfl
    have c2 := blk_cell HA.out 2 _ rfl
    have c3 := blk_cell HA.out 3 _ rfl
    have c4 := blk_cell HA.out 4 _ rfl
    have c5 := blk_cell HA.out 5 _ rfl
    have c6 := blk_cell HA.out 6 _ rfl
    have c7 := blk_cell HA.out 7 _ rfl
    have c8 := blk_cell HA.out 8 _ rfl
    have c9 := blk_cell HA.out 9 _ rfl
    have c10 := blk_cell HA.out 10 _ rfl
    have c11 := blk_cell HA.out 11 _ rfl
    have d0 := blk_cell HR.out 0 _ rfl
    have d1 := blk_cell HR.out 1 _ rfl
    have d2 := blk_cell HR.out 2 _ rfl
    obtain ⟨ti, hti⟩ : ∃ t, fitB l0 l1 l2 h0 h1 h2 q0 q2 q1 = t := ⟨_, rfl⟩
    replace hti := Lib.hid hti
    go_wp2_with fail
    refine (inlim_is X Y n0 n1 n2 W l0 l1 l2 h0 h1 h2 q0 q2 q1 ti _ hti).mono ?_
    rintro e w5 ⟨rfl, hb5⟩
    clear c0 c1 c2 c3 c4 c5 c6 c7 c8 c9 c10 c11 d0 d1 d2
    replace HA := Lib.hid (blk_call HA.out hb5)
    replace HQ := Lib.hid (blk_call HQ.out hb5)
    replace HR := Lib.hid (blk_call HR.out hb5)
    replace HP := Lib.hid (blk_call HP.out hb5)
    replace H16 := Lib.hid (blk_call H16.out hb5)
    replace H17 := Lib.hid (blk_call H17.out hb5)
    replace B := Lib.hid (belT B.out hb5)
    replace TT := Lib.hid (Tab.below TT.out hb5)
    clear hb5
    cases ti
    · go_wp2_with fail
      go_ret
      exact ⟨rfl, B.out⟩
    go_upto_region 23 with fail
    obtain ⟨sp, hsp⟩ : ∃ sp : ToldS, sp = [none, none, none, none, none, none, none, none, none, none, none, none, none, none, none, none, none, none, none, some (newS w5.heap.size #[.int .i64 0, .int .i64 0, .int .i64 0, .int .i64 0, .int .i64 0, .int .i64 0, .int .i64 0, .int .i64 0, .int .i64 0] 42), some (newS w5.heap.size #[.int .i64 0, .int .i64 0, .int .i64 0, .int .i64 0, .int .i64 0, .int .i64 0, .int .i64 0, .int .i64 0, .int .i64 0] 42), none, none, none, none, none, none, none, none, none, none, none, none, none, none, none, none, none, none, none, none, none, none, none, none, none, none, none, none, none, none, none, none, none, none, none, none, none, none, none, none, none, none, none, none, none, none, none, none, none, none, none, none, none, none, none, none, none, none, none, none, none, none, none, none, none, none, none, none, none, none, none, none, none, none, none, none, none, none, none, none, none, none, none, none, none, none, none, none, none, none, none, none, none, none, none, none, none, none, none, none, none, none, none, none, none, none, none, none, none, none, none, none, none, none, none, none, some (eqS (.agg #[.int .i64 X, .int .i64 Y, .int .i64 n0, .int .i64 n1, .int .i64 n2, .int .i64 W, .int .i64 l0, .int .i64 l1, .int .i64 l2, .int .i64 h0, .int .i64 h1, .int .i64 h2])), some (eqS (.agg #[.int .i64 q0, .int .i64 q1, .int .i64 q2])), some (eqS (.agg #[.int .i64 x1, .int .i64 y1, .int .i64 1, .int .i64 x2, .int .i64 y2, .int .i64 2, .int .i64 x3, .int .i64 y3, .int .i64 3])), some (eqS (.agg #[.int .i64 X, .int .i64 Y, .int .i64 n0, .int .i64 n1, .int .i64 n2, .int .i64 W, .int .i64 l0, .int .i64 l1, .int .i64 l2, .int .i64 h0, .int .i64 h1, .int .i64 h2])), some (eqS (.agg #[.int .i64 q0, .int .i64 q2, .int .i64 q1])), some (eqS (.agg #[.int .i64 x1, .int .i64 y1, .int .i64 1, .int .i64 x2p, .int .i64 y2p, .int .i64 2, .int .i64 x3, .int .i64 y3, .int .i64 3]))] := ⟨_, rfl⟩
    have s19 : sp.getD 19 none = some (newS w5.heap.size #[.int .i64 0, .int .i64 0, .int .i64 0, .int .i64 0, .int .i64 0, .int .i64 0, .int .i64 0, .int .i64 0, .int .i64 0] 42) := by rw [hsp]; rfl
    have s20 : sp.getD 20 none = some (newS w5.heap.size #[.int .i64 0, .int .i64 0, .int .i64 0, .int .i64 0, .int .i64 0, .int .i64 0, .int .i64 0, .int .i64 0, .int .i64 0] 42) := by rw [hsp]; rfl
    have s137 : sp.getD 137 none = some (eqS (.agg #[.int .i64 X, .int .i64 Y, .int .i64 n0, .int .i64 n1, .int .i64 n2, .int .i64 W, .int .i64 l0, .int .i64 l1, .int .i64 l2, .int .i64 h0, .int .i64 h1, .int .i64 h2])) := by rw [hsp]; rfl
    have s138 : sp.getD 138 none = some (eqS (.agg #[.int .i64 q0, .int .i64 q1, .int .i64 q2])) := by rw [hsp]; rfl
    have s139 : sp.getD 139 none = some (eqS (.agg #[.int .i64 x1, .int .i64 y1, .int .i64 1, .int .i64 x2, .int .i64 y2, .int .i64 2, .int .i64 x3, .int .i64 y3, .int .i64 3])) := by rw [hsp]; rfl
    have s140 : sp.getD 140 none = some (eqS (.agg #[.int .i64 X, .int .i64 Y, .int .i64 n0, .int .i64 n1, .int .i64 n2, .int .i64 W, .int .i64 l0, .int .i64 l1, .int .i64 l2, .int .i64 h0, .int .i64 h1, .int .i64 h2])) := by rw [hsp]; rfl
    have s141 : sp.getD 141 none = some (eqS (.agg #[.int .i64 q0, .int .i64 q2, .int .i64 q1])) := by rw [hsp]; rfl
    have s142 : sp.getD 142 none = some (eqS (.agg #[.int .i64 x1, .int .i64 y1, .int .i64 1, .int .i64 x2p, .int .i64 y2p, .int .i64 2, .int .i64 x3, .int .i64 y3, .int .i64 3])) := by rw [hsp]; rfl
    clear hsp
    refine (wpIn_wide (n := 0)).1 (region_headF (FS := [19, 20]) (RtS sp) (rtS_keep sp) (fun t v w ht h => by rcases (by simpa using ht : t = 19 ∨ t = 20) with rfl | rfl <;> first | exact newS_fresh s19 h | exact newS_fresh s20 h) 8 rfl rfl rfl (by kernel_rfl) (by decide) (by kernel_rfl) (by kernel_rfl) (by kernel_rfl) ?_ ?_)
    · intro Q'; show ObsF _ _ _ _ _ _ _ _ _ (List.take _ _); simp only [List.take_succ_cons, List.take_zero]
      refine obsF_cons (obF_of ?_ (by intro d e; cases e; decide)) ?_
      · intro T wx K hB hF hD hK
        have g5 : T[5]? = some (.pointer (some ⟨w.heap.size, 0, none⟩)) := hF 5 (freeM_of (by kernel_rfl))
        refine ob_yes (wanted_none rfl) ?_
        clear hF hD
        exact wp_load_row 27 (.tmp 5) rfl w.heap.size (eval_tmp g5) _ _ _ _ (blk_call HA.out hB) Tryd.underlying27 rfl (by kernel_rfl) (hK _ _ (Below.refl _ _) (rt_eqS s137))
      refine obsF_cons (obF_of ?_ (by intro d e; cases e; decide)) ?_
      · intro T wx K hB hF hD hK
        have g12 : T[12]? = some (.pointer (some ⟨w3.heap.size, 0, none⟩)) := hF 12 (freeM_of (by kernel_rfl))
        refine ob_yes (wanted_none rfl) ?_
        clear hF hD
        exact wp_load_row 25 (.tmp 12) rfl (w3.heap.size) (eval_tmp g12) _ _ _ _ (blk_call HQ.out hB) Tryd.underlying25 rfl (by kernel_rfl) (hK _ _ (Below.refl _ _) (rt_eqS s138))
      refine obsF_cons (obF_of ?_ (by intro d e; cases e; decide)) ?_
      · intro T wx K hB hF hD hK
        have g137 := get_eqS (hD 0 137 (by simp [Region.binds]) (by kernel_rfl)) s137
        have g138 := get_eqS (hD 1 138 (by simp [Region.binds]) (by kernel_rfl)) s138
        refine ob_yes (wanted_none rfl) ?_
        clear hF hD
        go_simp
        refine (ldirs_is X Y n0 n1 n2 W l0 l1 l2 h0 h1 h2 q0 q1 q2 x1 y1 x2 y2 x3 y3 _ (TT.out.below hB) k0 k1 k2 (Lib.hid PP.out.e1) (Lib.hid PP.out.e2) (Lib.hid PP.out.e3)).mono ?_; rintro e w9 ⟨rfl, hb⟩
        exact hK _ _ hb (rt_eqS s139)
      refine obsF_cons (obF_of ?_ (by intro d e; cases e; decide)) ?_
      · intro T wx K hB hF hD hK
        have g5 : T[5]? = some (.pointer (some ⟨w.heap.size, 0, none⟩)) := hF 5 (freeM_of (by kernel_rfl))
        refine ob_yes (wanted_none rfl) ?_
        clear hF hD
        exact wp_load_row 27 (.tmp 5) rfl w.heap.size (eval_tmp g5) _ _ _ _ (blk_call HA.out hB) Tryd.underlying27 rfl (by kernel_rfl) (hK _ _ (Below.refl _ _) (rt_eqS s140))
      refine obsF_cons (obF_of ?_ (by intro d e; cases e; decide)) ?_
      · intro T wx K hB hF hD hK
        have g14 : T[14]? = some (.pointer (some ⟨w3.heap.size + 1, 0, none⟩)) := hF 14 (freeM_of (by kernel_rfl))
        refine ob_yes (wanted_none rfl) ?_
        clear hF hD
        exact wp_load_row 25 (.tmp 14) rfl (w3.heap.size + 1) (eval_tmp g14) _ _ _ _ (blk_call HR.out hB) Tryd.underlying25 rfl (by kernel_rfl) (hK _ _ (Below.refl _ _) (rt_eqS s141))
      refine obsF_cons (obF_of ?_ (by intro d e; cases e; decide)) ?_
      · intro T wx K hB hF hD hK
        have g140 := get_eqS (hD 3 140 (by simp [Region.binds]) (by kernel_rfl)) s140
        have g141 := get_eqS (hD 4 141 (by simp [Region.binds]) (by kernel_rfl)) s141
        refine ob_yes (wanted_none rfl) ?_
        clear hF hD
        go_simp
        refine (ldirs_is X Y n0 n1 n2 W l0 l1 l2 h0 h1 h2 q0 q2 q1 x1 y1 x2p y2p x3 y3 _ (TT.out.below hB) kr0 kr1 kr2 (Lib.hid PQ.out.e1) (Lib.hid PQ.out.e2) (Lib.hid PQ.out.e3)).mono ?_; rintro e w9 ⟨rfl, hb⟩
        exact hK _ _ hb (rt_eqS s142)
      refine obsF_cons ?_ ?_
      · intro T wx K hB hF hD hK
        refine ob_yes (wanted_none rfl) ?_
        clear hF hD
        go_simp
        exact hK _ _ (belA (Below.refl _ _) _) (fun d e => by cases e; exact ⟨rt_S s19 ⟨_, rfl, hB.size, blk_new _ _ _ rfl⟩ _ rfl, fun _ => rfl⟩)
      refine obsF_cons ?_ ?_
      · intro T wx K hB hF hD hK
        refine ob_yes (wanted_none rfl) ?_
        clear hF hD
        go_simp
        exact hK _ _ (belA (Below.refl _ _) _) (fun d e => by cases e; exact ⟨rt_S s20 ⟨_, rfl, hB.size, blk_new _ _ _ rfl⟩ _ rfl, fun _ => rfl⟩)
      exact obsF_nil
    · intro T8 v8 hb8 hF hs hD hN
      have g137 := get_eqS (hD 0 137 (by decide) (by kernel_rfl)) s137
      have g138 := get_eqS (hD 1 138 (by decide) (by kernel_rfl)) s138
      have g139 := get_eqS (hD 2 139 (by decide) (by kernel_rfl)) s139
      have g140 := get_eqS (hD 3 140 (by decide) (by kernel_rfl)) s140
      have g141 := get_eqS (hD 4 141 (by decide) (by kernel_rfl)) s141
      have g142 := get_eqS (hD 5 142 (by decide) (by kernel_rfl)) s142
      obtain ⟨v19, g19, p19⟩ := getS (hD 6 19 (by decide) (by kernel_rfl)) s19
      obtain ⟨v20, g20, p20⟩ := getS (hD 7 20 (by decide) (by kernel_rfl)) s20
      have N19_20 := hN 19 20 (by decide) (by decide) (by decide) ⟨6, by decide, by kernel_rfl⟩ ⟨7, by decide, by kernel_rfl⟩
      rw [g19, g20] at N19_20
      have hT := conc [(137, .agg #[.int .i64 X, .int .i64 Y, .int .i64 n0, .int .i64 n1, .int .i64 n2, .int .i64 W, .int .i64 l0, .int .i64 l1, .int .i64 l2, .int .i64 h0, .int .i64 h1, .int .i64 h2]), (138, .agg #[.int .i64 q0, .int .i64 q1, .int .i64 q2]), (139, .agg #[.int .i64 x1, .int .i64 y1, .int .i64 1, .int .i64 x2, .int .i64 y2, .int .i64 2, .int .i64 x3, .int .i64 y3, .int .i64 3]), (140, .agg #[.int .i64 X, .int .i64 Y, .int .i64 n0, .int .i64 n1, .int .i64 n2, .int .i64 W, .int .i64 l0, .int .i64 l1, .int .i64 l2, .int .i64 h0, .int .i64 h1, .int .i64 h2]), (141, .agg #[.int .i64 q0, .int .i64 q2, .int .i64 q1]), (142, .agg #[.int .i64 x1, .int .i64 y1, .int .i64 1, .int .i64 x2p, .int .i64 y2p, .int .i64 2, .int .i64 x3, .int .i64 y3, .int .i64 3]), (19, v19), (20, v20)] hs hF (by simp only [List.forall_mem_cons]; exact ⟨g137, g138, g139, g140, g141, g142, g19, g20, fun p hp => absurd hp List.not_mem_nil⟩) (by kernel_rfl)
      simp only [List.foldl, List.setIfInBounds_toArray, List.set_cons_succ, List.set_cons_zero] at hT
      subst hT
      clear hF hD hs hN g137 g138 g139 g140 g141 g142 g19 g20 s19 s20 s137 s138 s139 s140 s141 s142
      show wpOpsIn _ _ _ _ _ [8, 9] _ _
      obtain ⟨b19, rfl, hs19, h19⟩ := p19
      obtain ⟨b20, rfl, hs20, h20⟩ := p20
      have ne : b19 ≠ b20 := fun e => N19_20 (by rw [e])
      refine tail_store rfl rfl rfl rfl rfl 42 (.tmp 19) (.tmp 139) rfl rfl b19 #[.int .i64 x1, .int .i64 y1, .int .i64 1, .int .i64 x2, .int .i64 y2, .int .i64 2, .int .i64 x3, .int .i64 y3, .int .i64 3] rfl rfl _ _ h19 (by kernel_rfl) rfl (by kernel_rfl) ?_
      have h20' := (setRow_other v8 b19 b20 #[.int .i64 x1, .int .i64 y1, .int .i64 1, .int .i64 x2, .int .i64 y2, .int .i64 2, .int .i64 x3, .int .i64 y3, .int .i64 3] (fun h => ne h.symm)).trans h20
      refine tail_store rfl rfl rfl rfl rfl 42 (.tmp 20) (.tmp 142) rfl rfl b20 #[.int .i64 x1, .int .i64 y1, .int .i64 1, .int .i64 x2p, .int .i64 y2p, .int .i64 2, .int .i64 x3, .int .i64 y3, .int .i64 3] rfl rfl _ _ h20' (by kernel_rfl) rfl (by kernel_rfl) ?_
      have H19 := Lib.hid ((setRow_other _ b20 b19 #[.int .i64 x1, .int .i64 y1, .int .i64 1, .int .i64 x2p, .int .i64 y2p, .int .i64 2, .int .i64 x3, .int .i64 y3, .int .i64 3] ne).trans (setRow_heap v8 b19 _ #[.int .i64 x1, .int .i64 y1, .int .i64 1, .int .i64 x2, .int .i64 y2, .int .i64 2, .int .i64 x3, .int .i64 y3, .int .i64 3] _ _ h19))
      have H20 := Lib.hid (setRow_heap _ b20 _ #[.int .i64 x1, .int .i64 y1, .int .i64 1, .int .i64 x2p, .int .i64 y2p, .int .i64 2, .int .i64 x3, .int .i64 y3, .int .i64 3] _ _ h20')
      have bw := below_setRow7 (below_setRow7 hb8 hs19 #[.int .i64 x1, .int .i64 y1, .int .i64 1, .int .i64 x2, .int .i64 y2, .int .i64 2, .int .i64 x3, .int .i64 y3, .int .i64 3]) hs20 #[.int .i64 x1, .int .i64 y1, .int .i64 1, .int .i64 x2p, .int .i64 y2p, .int .i64 2, .int .i64 x3, .int .i64 y3, .int .i64 3]
      replace B := Lib.hid (belT B.out bw)
      replace TT := Lib.hid (Tab.below TT.out bw)
      clear bw hb8 h19 h20 h20' hs19 hs20 N19_20 ne HA HQ HR HP
      simp only [wpOpsIn]
      generalize ((v8.setRow b19 #[.int .i64 x1, .int .i64 y1, .int .i64 1, .int .i64 x2, .int .i64 y2, .int .i64 2, .int .i64 x3, .int .i64 y3, .int .i64 3]).setRow b20 #[.int .i64 x1, .int .i64 y1, .int .i64 1, .int .i64 x2p, .int .i64 y2p, .int .i64 2, .int .i64 x3, .int .i64 y3, .int .i64 3]) = W7 at *
      go_wp2_with fail
      refine wp_loop_rounds 4 ?_
      rw [rounds_succ]
      have c0 := blk_cell H19.out 0 _ rfl
      have c1 := blk_cell H19.out 1 _ rfl
      have c2 := blk_cell H19.out 2 _ rfl
      have d0 := blk_cell H20.out 0 _ rfl
      have d1 := blk_cell H20.out 1 _ rfl
      have d2 := blk_cell H20.out 2 _ rfl
      go_wp2_with fail
      go_quiet (fail)
      obtain ⟨X0, hW⟩ : ∃ x, W7.drewN nq = x := ⟨_, rfl⟩
      rw [hW]
      replace H19 := Lib.hid (blk_dr hW H19.out)
      replace H20 := Lib.hid (blk_dr hW H20.out)
      replace B := Lib.hid (bel_dr hW B.out)
      replace TT := Lib.hid (tab_dr hW TT.out)
      clear hW
      clear c0 c1 c2 d0 d1 d2
      go_wp2_with fail
      rw [rounds_succ]
      have c3 := blk_cell H19.out 3 _ rfl
      have c4 := blk_cell H19.out 4 _ rfl
      have c5 := blk_cell H19.out 5 _ rfl
      have d3 := blk_cell H20.out 3 _ rfl
      have d4 := blk_cell H20.out 4 _ rfl
      have d5 := blk_cell H20.out 5 _ rfl
      go_wp2_with fail
      go_quiet (fail)
      obtain ⟨X1, hW⟩ : ∃ x, X0.drewN nq = x := ⟨_, rfl⟩
      rw [hW]
      replace H19 := Lib.hid (blk_dr hW H19.out)
      replace H20 := Lib.hid (blk_dr hW H20.out)
      replace B := Lib.hid (bel_dr hW B.out)
      replace TT := Lib.hid (tab_dr hW TT.out)
      clear hW
      clear c3 c4 c5 d3 d4 d5
      go_wp2_with fail
      rw [rounds_succ]
      have c6 := blk_cell H19.out 6 _ rfl
      have c7 := blk_cell H19.out 7 _ rfl
      have c8 := blk_cell H19.out 8 _ rfl
      have d6 := blk_cell H20.out 6 _ rfl
      have d7 := blk_cell H20.out 7 _ rfl
      have d8 := blk_cell H20.out 8 _ rfl
      go_wp2_with fail
      go_quiet (fail)
      obtain ⟨X2, hW⟩ : ∃ x, X1.drewN nq = x := ⟨_, rfl⟩
      rw [hW]
      replace H19 := Lib.hid (blk_dr hW H19.out)
      replace H20 := Lib.hid (blk_dr hW H20.out)
      replace B := Lib.hid (bel_dr hW B.out)
      replace TT := Lib.hid (tab_dr hW TT.out)
      clear hW
      clear c6 c7 c8 d6 d7 d8
      go_wp2_with fail
      rw [rounds_succ]
      go_wp2_with fail
      go_ret
      exact ⟨rfl, B.out⟩
end Go.Proofs.YtalhkcmlacppjaaDoor.armComposesRotations
