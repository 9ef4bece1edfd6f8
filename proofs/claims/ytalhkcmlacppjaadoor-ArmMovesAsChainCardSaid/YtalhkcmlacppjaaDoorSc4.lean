/- Helpers, merged: what the law reaches. -/
import Derived.Test.YtalhkcmlacppjaaDoorSc3
namespace Go.Proofs.YtalhkcmlacppjaaDoor.armMovesAsChain
open Go.ChangeShapes Go.WideShapes Go.ChangeAt Go.RowKit
set_option linter.unusedVariables false
set_option linter.unusedSimpArgs false
set_option maxRecDepth 100000

theorem wrapi7A (n : Int) (h : -1000000000 ≤ n ∧ n ≤ 1000000000) : IntKind.i64.wrap n = n := by rw [IntKind.wrap_i64]; omega
theorem inv_bdA {x : Int} (h : InV x) : -1000000000 ≤ x ∧ x ≤ 1000000000 := by unfold InV at h; omega

set_option maxHeartbeats 8000000 in
theorem walk0 (X Y n0 n1 n2 W l0 l1 l2 h0 h1 h2 : Int) (r0 r1 r2 : Int) (hr0 : 0 ≤ r0 ∧ r0 ≤ 255) (hr1 : 0 ≤ r1 ∧ r1 ≤ 255) (hr2 : 0 ≤ r2 ∧ r2 ≤ 255) (j s : Int) (hj : 0 ≤ j ∧ j ≤ 255) (hs : 0 ≤ s ∧ s ≤ 255) (ej : j.tmod 3 = 0) (w : World) (hT : Tab w) :
    Calls Tryd.prog 5 #[.agg #[.int .i64 X, .int .i64 Y, .int .i64 n0, .int .i64 n1, .int .i64 n2, .int .i64 W, .int .i64 l0, .int .i64 l1, .int .i64 l2, .int .i64 h0, .int .i64 h1, .int .i64 h2], .agg #[.int .u8 r0, .int .u8 r1, .int .u8 r2], .int .u8 j, .int .u8 s] w fun e w' => e = .returned (.bool true) ∧ Below w.heap.size w w' := by
  have B := Lib.hid (Below.refl w.heap.size w)
  have TT := Lib.hid hT
  clear hT
  go_enter Tryd.func5, Tryd.ntmps5
  go_wp2_with fail
  refine (head7_is _ (Tab.alloc (Tab.alloc TT.out (.cells #[.int .i64 X, .int .i64 Y, .int .i64 n0, .int .i64 n1, .int .i64 n2, .int .i64 W, .int .i64 l0, .int .i64 l1, .int .i64 l2, .int .i64 h0, .int .i64 h1, .int .i64 h2] 27)) (.cells #[.int .u8 r0, .int .u8 r1, .int .u8 r2] 28))).mono ?_
  rintro e w1 ⟨rfl, hb1⟩
  have HA := Lib.hid (blk_call (blk_alloc (blk_new w (.cells #[.int .i64 X, .int .i64 Y, .int .i64 n0, .int .i64 n1, .int .i64 n2, .int .i64 W, .int .i64 l0, .int .i64 l1, .int .i64 l2, .int .i64 h0, .int .i64 h1, .int .i64 h2] 27) (w.heap.size) rfl) (.cells #[.int .u8 r0, .int .u8 r1, .int .u8 r2] 28)) hb1)
  have HW := Lib.hid (blk_call (blk_new (w.alloc (.cells #[.int .i64 X, .int .i64 Y, .int .i64 n0, .int .i64 n1, .int .i64 n2, .int .i64 W, .int .i64 l0, .int .i64 l1, .int .i64 l2, .int .i64 h0, .int .i64 h1, .int .i64 h2] 27)) (.cells #[.int .u8 r0, .int .u8 r1, .int .u8 r2] 28) (w.heap.size + 1) (by simp)) hb1)
  replace B := Lib.hid (belT (belA (belA B.out (.cells #[.int .i64 X, .int .i64 Y, .int .i64 n0, .int .i64 n1, .int .i64 n2, .int .i64 W, .int .i64 l0, .int .i64 l1, .int .i64 l2, .int .i64 h0, .int .i64 h1, .int .i64 h2] 27)) (.cells #[.int .u8 r0, .int .u8 r1, .int .u8 r2] 28)) hb1)
  replace TT := Lib.hid (Tab.below (Tab.alloc (Tab.alloc TT.out (.cells #[.int .i64 X, .int .i64 Y, .int .i64 n0, .int .i64 n1, .int .i64 n2, .int .i64 W, .int .i64 l0, .int .i64 l1, .int .i64 l2, .int .i64 h0, .int .i64 h1, .int .i64 h2] 27)) (.cells #[.int .u8 r0, .int .u8 r1, .int .u8 r2] 28)) hb1)
  clear hb1
  obtain ⟨t, ht⟩ : ∃ t, armB X Y n0 n1 n2 W l0 l1 l2 h0 h1 h2 = t := ⟨_, rfl⟩
  have HT := Lib.hid ht
  clear ht
  have c0 := blk_cell HA.out 0 _ rfl
  have c1 := blk_cell HA.out 1 _ rfl
  have c2 := blk_cell HA.out 2 _ rfl
  have c3 := blk_cell HA.out 3 _ rfl
  have c4 := blk_cell HA.out 4 _ rfl
  have c5 := blk_cell HA.out 5 _ rfl
  have c6 := blk_cell HA.out 6 _ rfl
  have c7 := blk_cell HA.out 7 _ rfl
  have c8 := blk_cell HA.out 8 _ rfl
  have c9 := blk_cell HA.out 9 _ rfl
  have c10 := blk_cell HA.out 10 _ rfl
  have c11 := blk_cell HA.out 11 _ rfl
  go_wp2_with fail
  refine (armv_is X Y n0 n1 n2 W l0 l1 l2 h0 h1 h2 t _ HT).mono ?_
  rintro e w2 ⟨rfl, hb2⟩
  clear c0 c1 c2 c3 c4 c5 c6 c7 c8 c9 c10 c11
  replace HA := Lib.hid (blk_call HA.out hb2)
  replace HW := Lib.hid (blk_call HW.out hb2)
  replace B := Lib.hid (belT B.out hb2)
  replace TT := Lib.hid (Tab.below TT.out hb2)
  clear hb2
  cases t
  · go_wp2_with fail
    go_ret
    exact ⟨rfl, B.out⟩
  have JB0 := Lib.hid (jq_bd (l := l0) (h := h0) (by have := (armB_iff X Y n0 n1 n2 W l0 l1 l2 h0 h1 h2).1 HT.out; omega) hr0.1)
  have JB1 := Lib.hid (jq_bd (l := l1) (h := h1) (by have := (armB_iff X Y n0 n1 n2 W l0 l1 l2 h0 h1 h2).1 HT.out; omega) hr1.1)
  have JB2 := Lib.hid (jq_bd (l := l2) (h := h2) (by have := (armB_iff X Y n0 n1 n2 W l0 l1 l2 h0 h1 h2).1 HT.out; omega) hr2.1)
  obtain ⟨q0, hq0⟩ : ∃ q, jq l0 h0 r0 = q := ⟨_, rfl⟩
  rw [hq0] at JB0
  have k0 : -1000 ≤ q0 ∧ q0 ≤ 1000 := by have := (armB_iff X Y n0 n1 n2 W l0 l1 l2 h0 h1 h2).1 HT.out; have := JB0.out; omega
  replace hq0 := Lib.hid hq0
  obtain ⟨q1, hq1⟩ : ∃ q, jq l1 h1 r1 = q := ⟨_, rfl⟩
  rw [hq1] at JB1
  have k1 : -1000 ≤ q1 ∧ q1 ≤ 1000 := by have := (armB_iff X Y n0 n1 n2 W l0 l1 l2 h0 h1 h2).1 HT.out; have := JB1.out; omega
  replace hq1 := Lib.hid hq1
  obtain ⟨q2, hq2⟩ : ∃ q, jq l2 h2 r2 = q := ⟨_, rfl⟩
  rw [hq2] at JB2
  have k2 : -1000 ≤ q2 ∧ q2 ≤ 1000 := by have := (armB_iff X Y n0 n1 n2 W l0 l1 l2 h0 h1 h2).1 HT.out; have := JB2.out; omega
  replace hq2 := Lib.hid hq2
  have JQ : Hid (∀ w : World, Calls Tryd.prog 15 #[.agg #[.int .i64 X, .int .i64 Y, .int .i64 n0, .int .i64 n1, .int .i64 n2, .int .i64 W, .int .i64 l0, .int .i64 l1, .int .i64 l2, .int .i64 h0, .int .i64 h1, .int .i64 h2], .agg #[.int .u8 r0, .int .u8 r1, .int .u8 r2]] w fun e w' => e = .returned (.agg #[.int .i64 q0, .int .i64 q1, .int .i64 q2]) ∧ Below w.heap.size w w') := Lib.hid (fun w => by have := joint_is X Y n0 n1 n2 W l0 l1 l2 h0 h1 h2 r0 r1 r2 w HT hr0 hr1 hr2; rwa [hq0.out, hq1.out, hq2.out] at this)
  obtain ⟨x1, x2, x3, y1, y2, y3, u1, u2, u3, v1, v2, v3, a1, a2, a3, b1, b2, b3, PP⟩ := pose_ex X Y n0 n1 n2 q0 q1 q2
  replace PP := Lib.hid PP
  have JBs := Lib.hid (jq_bd (l := l0) (h := h0) (by have := (armB_iff X Y n0 n1 n2 W l0 l1 l2 h0 h1 h2).1 HT.out; omega) hs.1)
  obtain ⟨p, hp⟩ : ∃ q, jq l0 h0 s = q := ⟨_, rfl⟩
  rw [hp] at JBs
  have kp : -1000 ≤ p ∧ p ≤ 1000 := by have := (armB_iff X Y n0 n1 n2 W l0 l1 l2 h0 h1 h2).1 HT.out; have := JBs.out; omega
  have hpE : Hid (l0 + s.tmod (h0 - l0 + 1) = p) := Lib.hid hp
  clear hp
  obtain ⟨x1p, x2p, x3p, y1p, y2p, y3p, u1p, u2p, u3p, v1p, v2p, v3p, a1p, a2p, a3p, b1p, b2p, b3p, PQ⟩ := pose_ex X Y n0 n1 n2 p q1 q2
  have CH := chain0 (W := W) PP.out PQ (by have := (armB_iff X Y n0 n1 n2 W l0 l1 l2 h0 h1 h2).1 HT.out; omega)
  replace PQ := Lib.hid PQ
  replace CH := Lib.hid CH
  have c0 := blk_cell HA.out 0 _ rfl
  have c1 := blk_cell HA.out 1 _ rfl
  have c2 := blk_cell HA.out 2 _ rfl
  have c3 := blk_cell HA.out 3 _ rfl
  have c4 := blk_cell HA.out 4 _ rfl
  have c5 := blk_cell HA.out 5 _ rfl
  have c6 := blk_cell HA.out 6 _ rfl
  have c7 := blk_cell HA.out 7 _ rfl
  have c8 := blk_cell HA.out 8 _ rfl
  have c9 := blk_cell HA.out 9 _ rfl
  have c10 := blk_cell HA.out 10 _ rfl
  have c11 := blk_cell HA.out 11 _ rfl
  have d0 := blk_cell HW.out 0 _ rfl
  have d1 := blk_cell HW.out 1 _ rfl
  have d2 := blk_cell HW.out 2 _ rfl
  go_wp2_with fail
  refine (JQ.out _).mono ?_
  rintro e w3 ⟨rfl, hb3⟩
  clear c0 c1 c2 c3 c4 c5 c6 c7 c8 c9 c10 c11 d0 d1 d2
  replace HA := Lib.hid (blk_call HA.out hb3)
  replace HW := Lib.hid (blk_call HW.out hb3)
  replace B := Lib.hid (belT B.out hb3)
  replace TT := Lib.hid (Tab.below TT.out hb3)
  clear hb3
  have LW0 : Hid (w.heap.size + 1 < w3.heap.size) := Lib.hid (blk_lt HW.out)
  have c0 := blk_cell (blk_alloc (blk_alloc HA.out (.cells #[.int .i64 q0, .int .i64 q1, .int .i64 q2] 25)) (.cells #[.int .i64 q0, .int .i64 q1, .int .i64 q2] 25)) 0 _ rfl
  have c1 := blk_cell (blk_alloc (blk_alloc HA.out (.cells #[.int .i64 q0, .int .i64 q1, .int .i64 q2] 25)) (.cells #[.int .i64 q0, .int .i64 q1, .int .i64 q2] 25)) 1 _ rfl
  have c2 := blk_cell (blk_alloc (blk_alloc HA.out (.cells #[.int .i64 q0, .int .i64 q1, .int .i64 q2] 25)) (.cells #[.int .i64 q0, .int .i64 q1, .int .i64 q2] 25)) 2 _ rfl
  have c3 := blk_cell (blk_alloc (blk_alloc HA.out (.cells #[.int .i64 q0, .int .i64 q1, .int .i64 q2] 25)) (.cells #[.int .i64 q0, .int .i64 q1, .int .i64 q2] 25)) 3 _ rfl
  have c4 := blk_cell (blk_alloc (blk_alloc HA.out (.cells #[.int .i64 q0, .int .i64 q1, .int .i64 q2] 25)) (.cells #[.int .i64 q0, .int .i64 q1, .int .i64 q2] 25)) 4 _ rfl
  have c5 := blk_cell (blk_alloc (blk_alloc HA.out (.cells #[.int .i64 q0, .int .i64 q1, .int .i64 q2] 25)) (.cells #[.int .i64 q0, .int .i64 q1, .int .i64 q2] 25)) 5 _ rfl
  have c6 := blk_cell (blk_alloc (blk_alloc HA.out (.cells #[.int .i64 q0, .int .i64 q1, .int .i64 q2] 25)) (.cells #[.int .i64 q0, .int .i64 q1, .int .i64 q2] 25)) 6 _ rfl
  have c7 := blk_cell (blk_alloc (blk_alloc HA.out (.cells #[.int .i64 q0, .int .i64 q1, .int .i64 q2] 25)) (.cells #[.int .i64 q0, .int .i64 q1, .int .i64 q2] 25)) 7 _ rfl
  have c8 := blk_cell (blk_alloc (blk_alloc HA.out (.cells #[.int .i64 q0, .int .i64 q1, .int .i64 q2] 25)) (.cells #[.int .i64 q0, .int .i64 q1, .int .i64 q2] 25)) 8 _ rfl
  have c9 := blk_cell (blk_alloc (blk_alloc HA.out (.cells #[.int .i64 q0, .int .i64 q1, .int .i64 q2] 25)) (.cells #[.int .i64 q0, .int .i64 q1, .int .i64 q2] 25)) 9 _ rfl
  have c10 := blk_cell (blk_alloc (blk_alloc HA.out (.cells #[.int .i64 q0, .int .i64 q1, .int .i64 q2] 25)) (.cells #[.int .i64 q0, .int .i64 q1, .int .i64 q2] 25)) 10 _ rfl
  have c11 := blk_cell (blk_alloc (blk_alloc HA.out (.cells #[.int .i64 q0, .int .i64 q1, .int .i64 q2] 25)) (.cells #[.int .i64 q0, .int .i64 q1, .int .i64 q2] 25)) 11 _ rfl
  have d0 := blk_cell (blk_alloc (blk_alloc HW.out (.cells #[.int .i64 q0, .int .i64 q1, .int .i64 q2] 25)) (.cells #[.int .i64 q0, .int .i64 q1, .int .i64 q2] 25)) 0 _ rfl
  have d1 := blk_cell (blk_alloc (blk_alloc HW.out (.cells #[.int .i64 q0, .int .i64 q1, .int .i64 q2] 25)) (.cells #[.int .i64 q0, .int .i64 q1, .int .i64 q2] 25)) 1 _ rfl
  have d2 := blk_cell (blk_alloc (blk_alloc HW.out (.cells #[.int .i64 q0, .int .i64 q1, .int .i64 q2] 25)) (.cells #[.int .i64 q0, .int .i64 q1, .int .i64 q2] 25)) 2 _ rfl
  go_upto_region 7 with fail
  clear c0 c1 c2 c3 c4 c5 c6 c7 c8 c9 c10 c11 d0 d1 d2
  replace HA := Lib.hid (blk_alloc (blk_alloc HA.out (.cells #[.int .i64 q0, .int .i64 q1, .int .i64 q2] 25)) (.cells #[.int .i64 q0, .int .i64 q1, .int .i64 q2] 25))
  replace HW := Lib.hid (blk_alloc (blk_alloc HW.out (.cells #[.int .i64 q0, .int .i64 q1, .int .i64 q2] 25)) (.cells #[.int .i64 q0, .int .i64 q1, .int .i64 q2] 25))
  have HQ := Lib.hid (blk_alloc (blk_new w3 (.cells #[.int .i64 q0, .int .i64 q1, .int .i64 q2] 25) (w3.heap.size) rfl) (.cells #[.int .i64 q0, .int .i64 q1, .int .i64 q2] 25))
  have HR := Lib.hid (blk_new (w3.alloc (.cells #[.int .i64 q0, .int .i64 q1, .int .i64 q2] 25)) (.cells #[.int .i64 q0, .int .i64 q1, .int .i64 q2] 25) (w3.heap.size + 1) (by simp))
  replace B := Lib.hid (belA (belA B.out (.cells #[.int .i64 q0, .int .i64 q1, .int .i64 q2] 25)) (.cells #[.int .i64 q0, .int .i64 q1, .int .i64 q2] 25))
  replace TT := Lib.hid (Tab.alloc (Tab.alloc TT.out (.cells #[.int .i64 q0, .int .i64 q1, .int .i64 q2] 25)) (.cells #[.int .i64 q0, .int .i64 q1, .int .i64 q2] 25))
  generalize ((w3.alloc (.cells #[.int .i64 q0, .int .i64 q1, .int .i64 q2] 25)).alloc (.cells #[.int .i64 q0, .int .i64 q1, .int .i64 q2] 25)) = W1 at *
  have lm : -17 ≤ l0 ∧ l0 ≤ h0 ∧ h0 ≤ 18 := by have := (armB_iff X Y n0 n1 n2 W l0 l1 l2 h0 h1 h2).1 HT.out; omega
  have lz : ¬ h0 - l0 + 1 = 0 := by omega
  obtain ⟨sp, hsp⟩ : ∃ sp : ToldS, sp = [none, none, none, none, none, none, none, none, none, none, none, none, none, none, none, none, none, none, none, none, none, none, none, none, none, none, none, none, none, none, none, none, none, some (eqS (.int .i64 0)), some (eqS (.int .i64 0)), some (eqS (.pointer (some ⟨w.heap.size, 6, none⟩))), some (eqS (.pointer (some ⟨w.heap.size, 6, none⟩))), some (eqS (.int .i64 l0)), some (eqS (.int .u8 s)), some (eqS (.int .i64 s)), some (eqS (.int .i64 0)), some (eqS (.pointer (some ⟨w.heap.size, 9, none⟩))), some (eqS (.pointer (some ⟨w.heap.size, 9, none⟩))), some (eqS (.int .i64 h0)), some (eqS (.int .i64 0)), some (eqS (.pointer (some ⟨w.heap.size, 6, none⟩))), some (eqS (.pointer (some ⟨w.heap.size, 6, none⟩))), some (eqS (.int .i64 l0)), some (eqS (.int .i64 (h0 - l0))), some (eqS (.int .i64 (h0 - l0 + 1))), some (eqS (.int .i64 (s.tmod (h0 - l0 + 1)))), some (eqS (.int .i64 p)), some (eqS (.pointer (some ⟨w3.heap.size + 1, 0, none⟩)))] := ⟨_, rfl⟩
  have s33 : sp.getD 33 none = some (eqS (.int .i64 0)) := by rw [hsp]; rfl
  have s34 : sp.getD 34 none = some (eqS (.int .i64 0)) := by rw [hsp]; rfl
  have s35 : sp.getD 35 none = some (eqS (.pointer (some ⟨w.heap.size, 6, none⟩))) := by rw [hsp]; rfl
  have s36 : sp.getD 36 none = some (eqS (.pointer (some ⟨w.heap.size, 6, none⟩))) := by rw [hsp]; rfl
  have s37 : sp.getD 37 none = some (eqS (.int .i64 l0)) := by rw [hsp]; rfl
  have s38 : sp.getD 38 none = some (eqS (.int .u8 s)) := by rw [hsp]; rfl
  have s39 : sp.getD 39 none = some (eqS (.int .i64 s)) := by rw [hsp]; rfl
  have s40 : sp.getD 40 none = some (eqS (.int .i64 0)) := by rw [hsp]; rfl
  have s41 : sp.getD 41 none = some (eqS (.pointer (some ⟨w.heap.size, 9, none⟩))) := by rw [hsp]; rfl
  have s42 : sp.getD 42 none = some (eqS (.pointer (some ⟨w.heap.size, 9, none⟩))) := by rw [hsp]; rfl
  have s43 : sp.getD 43 none = some (eqS (.int .i64 h0)) := by rw [hsp]; rfl
  have s44 : sp.getD 44 none = some (eqS (.int .i64 0)) := by rw [hsp]; rfl
  have s45 : sp.getD 45 none = some (eqS (.pointer (some ⟨w.heap.size, 6, none⟩))) := by rw [hsp]; rfl
  have s46 : sp.getD 46 none = some (eqS (.pointer (some ⟨w.heap.size, 6, none⟩))) := by rw [hsp]; rfl
  have s47 : sp.getD 47 none = some (eqS (.int .i64 l0)) := by rw [hsp]; rfl
  have s48 : sp.getD 48 none = some (eqS (.int .i64 (h0 - l0))) := by rw [hsp]; rfl
  have s49 : sp.getD 49 none = some (eqS (.int .i64 (h0 - l0 + 1))) := by rw [hsp]; rfl
  have s50 : sp.getD 50 none = some (eqS (.int .i64 (s.tmod (h0 - l0 + 1)))) := by rw [hsp]; rfl
  have s51 : sp.getD 51 none = some (eqS (.int .i64 p)) := by rw [hsp]; rfl
  have s52 : sp.getD 52 none = some (eqS (.pointer (some ⟨w3.heap.size + 1, 0, none⟩))) := by rw [hsp]; rfl
  clear hsp
  refine (wpIn_wide (n := 0)).1 (region_headR (RtS sp) (rtS_keep sp) 20 rfl rfl rfl (by kernel_rfl) (by decide) (by kernel_rfl) (by kernel_rfl) (by kernel_rfl) ?_ ?_)
  · intro Q'; show ObsR _ _ _ _ _ _ _ _ (List.take _ _); simp only [List.take_succ_cons, List.take_zero]
    refine obsR_cons ?_ ?_
    · intro T wx K hB hF hD hK
      have g11 : T[11]? = some (.int .i64 0) := hF 11 (freeM_of (by kernel_rfl))
      refine ob_yes (wanted_none rfl) ?_
      clear hF hD
      go_simp
      exact hK _ _ (Below.refl _ _) (rt_eqS s33)
    refine obsR_cons ?_ ?_
    · intro T wx K hB hF hD hK
      have g11 : T[11]? = some (.int .i64 0) := hF 11 (freeM_of (by kernel_rfl))
      refine ob_yes (wanted_none rfl) ?_
      clear hF hD
      go_simp
      exact hK _ _ (Below.refl _ _) (rt_eqS s34)
    refine obsR_cons ?_ ?_
    · intro T wx K hB hF hD hK
      have g4 : T[4]? = some (.pointer (some ⟨w.heap.size, 0, none⟩)) := hF 4 (freeM_of (by kernel_rfl))
      refine ob_yes (wanted_none rfl) ?_
      clear hF hD
      go_simp
      exact hK _ _ (Below.refl _ _) (rt_eqS s35)
    refine obsR_cons ?_ ?_
    · intro T wx K hB hF hD hK
      have g35 := get_eqS (hD 2 35 (by simp [Region.binds]) (by kernel_rfl)) s35
      have g34 := get_eqS (hD 1 34 (by simp [Region.binds]) (by kernel_rfl)) s34
      refine ob_yes (wanted_none rfl) ?_
      clear hF hD
      go_simp
      exact hK _ _ (Below.refl _ _) (rt_eqS s36)
    refine obsR_cons ?_ ?_
    · intro T wx K hB hF hD hK
      have g36 := get_eqS (hD 3 36 (by simp [Region.binds]) (by kernel_rfl)) s36
      refine ob_yes (wanted_none rfl) ?_
      clear hF hD
      have c0 := blk_cell (blk_call HA.out hB) 6 _ rfl
      go_simp
      exact hK _ _ (Below.refl _ _) (rt_eqS s37)
    refine obsR_cons ?_ ?_
    · intro T wx K hB hF hD hK
      have g3 : T[3]? = some (.int .u8 s) := hF 3 (freeM_of (by kernel_rfl))
      refine ob_yes (wanted_none rfl) ?_
      clear hF hD
      go_simp
      exact hK _ _ (Below.refl _ _) (rt_eqS s38)
    refine obsR_cons ?_ ?_
    · intro T wx K hB hF hD hK
      have g38 := get_eqS (hD 5 38 (by simp [Region.binds]) (by kernel_rfl)) s38
      refine ob_yes (wanted_none rfl) ?_
      clear hF hD
      go_simp
      rw [wrapi7A _ (by omega)]
      exact hK _ _ (Below.refl _ _) (rt_eqS s39)
    refine obsR_cons ?_ ?_
    · intro T wx K hB hF hD hK
      have g11 : T[11]? = some (.int .i64 0) := hF 11 (freeM_of (by kernel_rfl))
      refine ob_yes (wanted_none rfl) ?_
      clear hF hD
      go_simp
      exact hK _ _ (Below.refl _ _) (rt_eqS s40)
    refine obsR_cons ?_ ?_
    · intro T wx K hB hF hD hK
      have g4 : T[4]? = some (.pointer (some ⟨w.heap.size, 0, none⟩)) := hF 4 (freeM_of (by kernel_rfl))
      refine ob_yes (wanted_none rfl) ?_
      clear hF hD
      go_simp
      exact hK _ _ (Below.refl _ _) (rt_eqS s41)
    refine obsR_cons ?_ ?_
    · intro T wx K hB hF hD hK
      have g41 := get_eqS (hD 8 41 (by simp [Region.binds]) (by kernel_rfl)) s41
      have g40 := get_eqS (hD 7 40 (by simp [Region.binds]) (by kernel_rfl)) s40
      refine ob_yes (wanted_none rfl) ?_
      clear hF hD
      go_simp
      exact hK _ _ (Below.refl _ _) (rt_eqS s42)
    refine obsR_cons ?_ ?_
    · intro T wx K hB hF hD hK
      have g42 := get_eqS (hD 9 42 (by simp [Region.binds]) (by kernel_rfl)) s42
      refine ob_yes (wanted_none rfl) ?_
      clear hF hD
      have c0 := blk_cell (blk_call HA.out hB) 9 _ rfl
      go_simp
      exact hK _ _ (Below.refl _ _) (rt_eqS s43)
    refine obsR_cons ?_ ?_
    · intro T wx K hB hF hD hK
      have g11 : T[11]? = some (.int .i64 0) := hF 11 (freeM_of (by kernel_rfl))
      refine ob_yes (wanted_none rfl) ?_
      clear hF hD
      go_simp
      exact hK _ _ (Below.refl _ _) (rt_eqS s44)
    refine obsR_cons ?_ ?_
    · intro T wx K hB hF hD hK
      have g4 : T[4]? = some (.pointer (some ⟨w.heap.size, 0, none⟩)) := hF 4 (freeM_of (by kernel_rfl))
      refine ob_yes (wanted_none rfl) ?_
      clear hF hD
      go_simp
      exact hK _ _ (Below.refl _ _) (rt_eqS s45)
    refine obsR_cons ?_ ?_
    · intro T wx K hB hF hD hK
      have g45 := get_eqS (hD 12 45 (by simp [Region.binds]) (by kernel_rfl)) s45
      have g44 := get_eqS (hD 11 44 (by simp [Region.binds]) (by kernel_rfl)) s44
      refine ob_yes (wanted_none rfl) ?_
      clear hF hD
      go_simp
      exact hK _ _ (Below.refl _ _) (rt_eqS s46)
    refine obsR_cons ?_ ?_
    · intro T wx K hB hF hD hK
      have g46 := get_eqS (hD 13 46 (by simp [Region.binds]) (by kernel_rfl)) s46
      refine ob_yes (wanted_none rfl) ?_
      clear hF hD
      have c0 := blk_cell (blk_call HA.out hB) 6 _ rfl
      go_simp
      exact hK _ _ (Below.refl _ _) (rt_eqS s47)
    refine obsR_cons ?_ ?_
    · intro T wx K hB hF hD hK
      have g43 := get_eqS (hD 10 43 (by simp [Region.binds]) (by kernel_rfl)) s43
      have g47 := get_eqS (hD 14 47 (by simp [Region.binds]) (by kernel_rfl)) s47
      refine ob_yes (wanted_none rfl) ?_
      clear hF hD
      go_simp
      rw [wrapi7A _ (by omega)]
      exact hK _ _ (Below.refl _ _) (rt_eqS s48)
    refine obsR_cons ?_ ?_
    · intro T wx K hB hF hD hK
      have g48 := get_eqS (hD 15 48 (by simp [Region.binds]) (by kernel_rfl)) s48
      refine ob_yes (wanted_none rfl) ?_
      clear hF hD
      go_simp
      rw [wrapi7A _ (by omega)]
      exact hK _ _ (Below.refl _ _) (rt_eqS s49)
    refine obsR_cons ?_ ?_
    · intro T wx K hB hF hD hK
      have g39 := get_eqS (hD 6 39 (by simp [Region.binds]) (by kernel_rfl)) s39
      have g49 := get_eqS (hD 16 49 (by simp [Region.binds]) (by kernel_rfl)) s49
      refine ob_yes (wanted_none rfl) ?_
      clear hF hD
      go_simp
      exact hK _ _ (Below.refl _ _) (rt_eqS s50)
    refine obsR_cons ?_ ?_
    · intro T wx K hB hF hD hK
      have g37 := get_eqS (hD 4 37 (by simp [Region.binds]) (by kernel_rfl)) s37
      have g50 := get_eqS (hD 17 50 (by simp [Region.binds]) (by kernel_rfl)) s50
      refine ob_yes (wanted_none rfl) ?_
      clear hF hD
      go_simp
      rw [hpE.out, wrapi7A _ (by omega)]
      exact hK _ _ (Below.refl _ _) (rt_eqS s51)
    refine obsR_cons ?_ ?_
    · intro T wx K hB hF hD hK
      have g12 : T[12]? = some (.pointer (some ⟨w3.heap.size + 1, 0, none⟩)) := hF 12 (freeM_of (by kernel_rfl))
      have g33 := get_eqS (hD 0 33 (by simp [Region.binds]) (by kernel_rfl)) s33
      refine ob_yes (wanted_none rfl) ?_
      clear hF hD
      go_simp
      exact hK _ _ (Below.refl _ _) (rt_eqS s52)
    exact obsR_nil
  · intro T7 w7 hb7 hF hs hD
    have g33 := get_eqS (hD 0 33 (by decide) (by kernel_rfl)) s33
    have g34 := get_eqS (hD 1 34 (by decide) (by kernel_rfl)) s34
    have g35 := get_eqS (hD 2 35 (by decide) (by kernel_rfl)) s35
    have g36 := get_eqS (hD 3 36 (by decide) (by kernel_rfl)) s36
    have g37 := get_eqS (hD 4 37 (by decide) (by kernel_rfl)) s37
    have g38 := get_eqS (hD 5 38 (by decide) (by kernel_rfl)) s38
    have g39 := get_eqS (hD 6 39 (by decide) (by kernel_rfl)) s39
    have g40 := get_eqS (hD 7 40 (by decide) (by kernel_rfl)) s40
    have g41 := get_eqS (hD 8 41 (by decide) (by kernel_rfl)) s41
    have g42 := get_eqS (hD 9 42 (by decide) (by kernel_rfl)) s42
    have g43 := get_eqS (hD 10 43 (by decide) (by kernel_rfl)) s43
    have g44 := get_eqS (hD 11 44 (by decide) (by kernel_rfl)) s44
    have g45 := get_eqS (hD 12 45 (by decide) (by kernel_rfl)) s45
    have g46 := get_eqS (hD 13 46 (by decide) (by kernel_rfl)) s46
    have g47 := get_eqS (hD 14 47 (by decide) (by kernel_rfl)) s47
    have g48 := get_eqS (hD 15 48 (by decide) (by kernel_rfl)) s48
    have g49 := get_eqS (hD 16 49 (by decide) (by kernel_rfl)) s49
    have g50 := get_eqS (hD 17 50 (by decide) (by kernel_rfl)) s50
    have g51 := get_eqS (hD 18 51 (by decide) (by kernel_rfl)) s51
    have g52 := get_eqS (hD 19 52 (by decide) (by kernel_rfl)) s52
    have hT := conc [(33, .int .i64 0), (34, .int .i64 0), (35, .pointer (some ⟨w.heap.size, 6, none⟩)), (36, .pointer (some ⟨w.heap.size, 6, none⟩)), (37, .int .i64 l0), (38, .int .u8 s), (39, .int .i64 s), (40, .int .i64 0), (41, .pointer (some ⟨w.heap.size, 9, none⟩)), (42, .pointer (some ⟨w.heap.size, 9, none⟩)), (43, .int .i64 h0), (44, .int .i64 0), (45, .pointer (some ⟨w.heap.size, 6, none⟩)), (46, .pointer (some ⟨w.heap.size, 6, none⟩)), (47, .int .i64 l0), (48, .int .i64 (h0 - l0)), (49, .int .i64 (h0 - l0 + 1)), (50, .int .i64 (s.tmod (h0 - l0 + 1))), (51, .int .i64 p), (52, .pointer (some ⟨w3.heap.size + 1, 0, none⟩))] hs hF (by simp only [List.forall_mem_cons]; exact ⟨g33, g34, g35, g36, g37, g38, g39, g40, g41, g42, g43, g44, g45, g46, g47, g48, g49, g50, g51, g52, fun p hp => absurd hp List.not_mem_nil⟩) (by kernel_rfl)
    simp only [List.foldl, List.setIfInBounds_toArray, List.set_cons_succ, List.set_cons_zero] at hT
    subst hT
    clear hF hD hs g33 g34 g35 g36 g37 g38 g39 g40 g41 g42 g43 g44 g45 g46 g47 g48 g49 g50 g51 g52 s33 s34 s35 s36 s37 s38 s39 s40 s41 s42 s43 s44 s45 s46 s47 s48 s49 s50 s51 s52
    show wpOpsIn _ _ _ _ _ [20] _ _
    have f0 := blk_cell (blk_call HR.out hb7) 0 _ rfl
    have f1 := blk_fz (blk_call HR.out hb7) 0
    have la := blk_lt HA.out
    have lq := blk_lt HQ.out
    have lb := B.out.size
    have TP := Tab.pos TT.out
    have lw : w.heap.size + 1 ≤ w3.heap.size := by have := LW0.out; omega
    have R1 := Lib.hid (blk_set (j := 0) (blk_call HR.out hb7) (.int .i64 p))
    have Q1 := Lib.hid (blk_other (j := 0) (blk_call HQ.out hb7) (show w3.heap.size + 1 ≠ w3.heap.size by omega) (.int .i64 p))
    have A1 := Lib.hid (blk_other (j := 0) (blk_call HA.out hb7) (show w3.heap.size + 1 ≠ w.heap.size by omega) (.int .i64 p))
    have B1 := Lib.hid (belS (p := ⟨w3.heap.size + 1, 0, none⟩) (belT B.out hb7) (show w.heap.size ≤ w3.heap.size + 1 by omega) (.int .i64 p))
    have TT1 := Lib.hid (Tab.setCell (p := ⟨w3.heap.size + 1, 0, none⟩) (Tab.below TT.out hb7) (show 0 < w3.heap.size + 1 by omega) (.int .i64 p))
    clear HR HQ HA HW B TT hb7 la lq lb TP lw
    simp only [wpOpsIn]
    go_simp
    clear f0 f1 lm lz
    generalize (w7.setCell ⟨w3.heap.size + 1, 0, none⟩ (.int .i64 p)) = W2 at *
    have HR := R1
    have HQ := Q1
    have HA := A1
    have B := B1
    have TT := TT1
    clear R1 Q1 A1 B1 TT1
    go_upto_region 8 with fail
    obtain ⟨sp, hsp⟩ : ∃ sp : ToldS, sp = [none, none, none, none, none, none, none, none, none, none, none, none, none, some (newS W2.heap.size #[.int .i64 0, .int .i64 0, .int .i64 0, .int .i64 0, .int .i64 0, .int .i64 0, .int .i64 0, .int .i64 0] 44), some (newS W2.heap.size #[.int .i64 0, .int .i64 0, .int .i64 0, .int .i64 0, .int .i64 0, .int .i64 0, .int .i64 0, .int .i64 0] 44), none, none, none, none, none, none, none, none, none, none, none, none, none, none, none, none, none, none, none, none, none, none, none, none, none, none, none, none, none, none, none, none, none, none, none, none, none, none, some (eqS (.agg #[.int .i64 X, .int .i64 Y, .int .i64 n0, .int .i64 n1, .int .i64 n2, .int .i64 W, .int .i64 l0, .int .i64 l1, .int .i64 l2, .int .i64 h0, .int .i64 h1, .int .i64 h2])), some (eqS (.agg #[.int .i64 q0, .int .i64 q1, .int .i64 q2])), some (eqS (.agg #[.int .i64 X, .int .i64 Y, .int .i64 a1, .int .i64 b1, .int .i64 a2, .int .i64 b2, .int .i64 a3, .int .i64 b3])), some (eqS (.agg #[.int .i64 X, .int .i64 Y, .int .i64 n0, .int .i64 n1, .int .i64 n2, .int .i64 W, .int .i64 l0, .int .i64 l1, .int .i64 l2, .int .i64 h0, .int .i64 h1, .int .i64 h2])), some (eqS (.agg #[.int .i64 p, .int .i64 q1, .int .i64 q2])), some (eqS (.agg #[.int .i64 X, .int .i64 Y, .int .i64 a1p, .int .i64 b1p, .int .i64 a2p, .int .i64 b2p, .int .i64 a3p, .int .i64 b3p]))] := ⟨_, rfl⟩
    have s13 : sp.getD 13 none = some (newS W2.heap.size #[.int .i64 0, .int .i64 0, .int .i64 0, .int .i64 0, .int .i64 0, .int .i64 0, .int .i64 0, .int .i64 0] 44) := by rw [hsp]; rfl
    have s14 : sp.getD 14 none = some (newS W2.heap.size #[.int .i64 0, .int .i64 0, .int .i64 0, .int .i64 0, .int .i64 0, .int .i64 0, .int .i64 0, .int .i64 0] 44) := by rw [hsp]; rfl
    have s53 : sp.getD 53 none = some (eqS (.agg #[.int .i64 X, .int .i64 Y, .int .i64 n0, .int .i64 n1, .int .i64 n2, .int .i64 W, .int .i64 l0, .int .i64 l1, .int .i64 l2, .int .i64 h0, .int .i64 h1, .int .i64 h2])) := by rw [hsp]; rfl
    have s54 : sp.getD 54 none = some (eqS (.agg #[.int .i64 q0, .int .i64 q1, .int .i64 q2])) := by rw [hsp]; rfl
    have s55 : sp.getD 55 none = some (eqS (.agg #[.int .i64 X, .int .i64 Y, .int .i64 a1, .int .i64 b1, .int .i64 a2, .int .i64 b2, .int .i64 a3, .int .i64 b3])) := by rw [hsp]; rfl
    have s56 : sp.getD 56 none = some (eqS (.agg #[.int .i64 X, .int .i64 Y, .int .i64 n0, .int .i64 n1, .int .i64 n2, .int .i64 W, .int .i64 l0, .int .i64 l1, .int .i64 l2, .int .i64 h0, .int .i64 h1, .int .i64 h2])) := by rw [hsp]; rfl
    have s57 : sp.getD 57 none = some (eqS (.agg #[.int .i64 p, .int .i64 q1, .int .i64 q2])) := by rw [hsp]; rfl
    have s58 : sp.getD 58 none = some (eqS (.agg #[.int .i64 X, .int .i64 Y, .int .i64 a1p, .int .i64 b1p, .int .i64 a2p, .int .i64 b2p, .int .i64 a3p, .int .i64 b3p])) := by rw [hsp]; rfl
    clear hsp
    refine (wpIn_wide (n := 0)).1 (region_headF (FS := [13, 14]) (RtS sp) (rtS_keep sp) (fun t v w ht h => by rcases (by simpa using ht : t = 13 ∨ t = 14) with rfl | rfl <;> first | exact newS_fresh s13 h | exact newS_fresh s14 h) 8 rfl rfl rfl (by kernel_rfl) (by decide) (by kernel_rfl) (by kernel_rfl) (by kernel_rfl) ?_ ?_)
    · intro Q'; show ObsF _ _ _ _ _ _ _ _ _ (List.take _ _); simp only [List.take_succ_cons, List.take_zero]
      refine obsF_cons (obF_of ?_ (by intro d e; cases e; decide)) ?_
      · intro T wx K hB hF hD hK
        have g4 : T[4]? = some (.pointer (some ⟨w.heap.size, 0, none⟩)) := hF 4 (freeM_of (by kernel_rfl))
        refine ob_yes (wanted_none rfl) ?_
        clear hF hD
        exact wp_load_row 27 (.tmp 4) rfl (w.heap.size) (eval_tmp g4) _ _ _ _ (blk_call HA.out hB) Tryd.underlying27 rfl (by kernel_rfl) (hK _ _ (Below.refl _ _) (rt_eqS s53))
      refine obsF_cons (obF_of ?_ (by intro d e; cases e; decide)) ?_
      · intro T wx K hB hF hD hK
        have g10 : T[10]? = some (.pointer (some ⟨w3.heap.size, 0, none⟩)) := hF 10 (freeM_of (by kernel_rfl))
        refine ob_yes (wanted_none rfl) ?_
        clear hF hD
        exact wp_load_row 25 (.tmp 10) rfl (w3.heap.size) (eval_tmp g10) _ _ _ _ (blk_call HQ.out hB) Tryd.underlying25 rfl (by kernel_rfl) (hK _ _ (Below.refl _ _) (rt_eqS s54))
      refine obsF_cons (obF_of ?_ (by intro d e; cases e; decide)) ?_
      · intro T wx K hB hF hD hK
        have g53 := get_eqS (hD 0 53 (by simp [Region.binds]) (by kernel_rfl)) s53
        have g54 := get_eqS (hD 1 54 (by simp [Region.binds]) (by kernel_rfl)) s54
        refine ob_yes (wanted_none rfl) ?_
        clear hF hD
        go_simp
        refine (jpts_is X Y n0 n1 n2 W l0 l1 l2 h0 h1 h2 q0 q1 q2 x1 x2 x3 y1 y2 y3 u1 u2 u3 v1 v2 v3 a1 a2 a3 b1 b2 b3 _ (TT.out.below hB) k0 k1 k2 HT PP).mono ?_; rintro e w9 ⟨rfl, hb⟩
        exact hK _ _ hb (rt_eqS s55)
      refine obsF_cons (obF_of ?_ (by intro d e; cases e; decide)) ?_
      · intro T wx K hB hF hD hK
        have g4 : T[4]? = some (.pointer (some ⟨w.heap.size, 0, none⟩)) := hF 4 (freeM_of (by kernel_rfl))
        refine ob_yes (wanted_none rfl) ?_
        clear hF hD
        exact wp_load_row 27 (.tmp 4) rfl (w.heap.size) (eval_tmp g4) _ _ _ _ (blk_call HA.out hB) Tryd.underlying27 rfl (by kernel_rfl) (hK _ _ (Below.refl _ _) (rt_eqS s56))
      refine obsF_cons (obF_of ?_ (by intro d e; cases e; decide)) ?_
      · intro T wx K hB hF hD hK
        have g12 : T[12]? = some (.pointer (some ⟨w3.heap.size + 1, 0, none⟩)) := hF 12 (freeM_of (by kernel_rfl))
        refine ob_yes (wanted_none rfl) ?_
        clear hF hD
        exact wp_load_row 25 (.tmp 12) rfl (w3.heap.size + 1) (eval_tmp g12) _ _ _ _ (blk_call HR.out hB) Tryd.underlying25 rfl (by kernel_rfl) (hK _ _ (Below.refl _ _) (rt_eqS s57))
      refine obsF_cons (obF_of ?_ (by intro d e; cases e; decide)) ?_
      · intro T wx K hB hF hD hK
        have g56 := get_eqS (hD 3 56 (by simp [Region.binds]) (by kernel_rfl)) s56
        have g57 := get_eqS (hD 4 57 (by simp [Region.binds]) (by kernel_rfl)) s57
        refine ob_yes (wanted_none rfl) ?_
        clear hF hD
        go_simp
        refine (jpts_is X Y n0 n1 n2 W l0 l1 l2 h0 h1 h2 p q1 q2 x1p x2p x3p y1p y2p y3p u1p u2p u3p v1p v2p v3p a1p a2p a3p b1p b2p b3p _ (TT.out.below hB) kp k1 k2 HT PQ).mono ?_; rintro e w9 ⟨rfl, hb⟩
        exact hK _ _ hb (rt_eqS s58)
      refine obsF_cons ?_ ?_
      · intro T wx K hB hF hD hK
        refine ob_yes (wanted_none rfl) ?_
        clear hF hD
        go_simp
        exact hK _ _ (belA (Below.refl _ _) _) (fun d e => by cases e; exact ⟨rt_S s13 ⟨_, rfl, hB.size, blk_new _ _ _ rfl⟩ _ rfl, fun _ => rfl⟩)
      refine obsF_cons ?_ ?_
      · intro T wx K hB hF hD hK
        refine ob_yes (wanted_none rfl) ?_
        clear hF hD
        go_simp
        exact hK _ _ (belA (Below.refl _ _) _) (fun d e => by cases e; exact ⟨rt_S s14 ⟨_, rfl, hB.size, blk_new _ _ _ rfl⟩ _ rfl, fun _ => rfl⟩)
      exact obsF_nil
    · intro T8 w8 hb8 hF hs hD hN
      have g53 := get_eqS (hD 0 53 (by decide) (by kernel_rfl)) s53
      have g54 := get_eqS (hD 1 54 (by decide) (by kernel_rfl)) s54
      have g55 := get_eqS (hD 2 55 (by decide) (by kernel_rfl)) s55
      have g56 := get_eqS (hD 3 56 (by decide) (by kernel_rfl)) s56
      have g57 := get_eqS (hD 4 57 (by decide) (by kernel_rfl)) s57
      have g58 := get_eqS (hD 5 58 (by decide) (by kernel_rfl)) s58
      obtain ⟨v13, g13, p13⟩ := getS (hD 6 13 (by decide) (by kernel_rfl)) s13
      obtain ⟨v14, g14, p14⟩ := getS (hD 7 14 (by decide) (by kernel_rfl)) s14
      have N13_14 := hN 13 14 (by decide) (by decide) (by decide) ⟨6, by decide, by kernel_rfl⟩ ⟨7, by decide, by kernel_rfl⟩
      rw [g13, g14] at N13_14
      have hT := conc [(53, .agg #[.int .i64 X, .int .i64 Y, .int .i64 n0, .int .i64 n1, .int .i64 n2, .int .i64 W, .int .i64 l0, .int .i64 l1, .int .i64 l2, .int .i64 h0, .int .i64 h1, .int .i64 h2]), (54, .agg #[.int .i64 q0, .int .i64 q1, .int .i64 q2]), (55, .agg #[.int .i64 X, .int .i64 Y, .int .i64 a1, .int .i64 b1, .int .i64 a2, .int .i64 b2, .int .i64 a3, .int .i64 b3]), (56, .agg #[.int .i64 X, .int .i64 Y, .int .i64 n0, .int .i64 n1, .int .i64 n2, .int .i64 W, .int .i64 l0, .int .i64 l1, .int .i64 l2, .int .i64 h0, .int .i64 h1, .int .i64 h2]), (57, .agg #[.int .i64 p, .int .i64 q1, .int .i64 q2]), (58, .agg #[.int .i64 X, .int .i64 Y, .int .i64 a1p, .int .i64 b1p, .int .i64 a2p, .int .i64 b2p, .int .i64 a3p, .int .i64 b3p]), (13, v13), (14, v14)] hs hF (by simp only [List.forall_mem_cons]; exact ⟨g53, g54, g55, g56, g57, g58, g13, g14, fun p hp => absurd hp List.not_mem_nil⟩) (by kernel_rfl)
      simp only [List.foldl, List.setIfInBounds_toArray, List.set_cons_succ, List.set_cons_zero] at hT
      subst hT
      clear hF hD hs hN g53 g54 g55 g56 g57 g58 g13 g14 s13 s14 s53 s54 s55 s56 s57 s58
      show wpOpsIn _ _ _ _ _ [8, 9] _ _
      obtain ⟨b13, rfl, hs13, h13⟩ := p13
      obtain ⟨b14, rfl, hs14, h14⟩ := p14
      have ne : b13 ≠ b14 := fun e => N13_14 (by rw [e])
      refine tail_store rfl rfl rfl rfl rfl 44 (.tmp 13) (.tmp 55) rfl rfl b13 #[.int .i64 X, .int .i64 Y, .int .i64 a1, .int .i64 b1, .int .i64 a2, .int .i64 b2, .int .i64 a3, .int .i64 b3] rfl rfl _ _ h13 (by kernel_rfl) rfl (by kernel_rfl) ?_
      have h14' := (setRow_other w8 b13 b14 #[.int .i64 X, .int .i64 Y, .int .i64 a1, .int .i64 b1, .int .i64 a2, .int .i64 b2, .int .i64 a3, .int .i64 b3] (fun h => ne h.symm)).trans h14
      refine tail_store rfl rfl rfl rfl rfl 44 (.tmp 14) (.tmp 58) rfl rfl b14 #[.int .i64 X, .int .i64 Y, .int .i64 a1p, .int .i64 b1p, .int .i64 a2p, .int .i64 b2p, .int .i64 a3p, .int .i64 b3p] rfl rfl _ _ h14' (by kernel_rfl) rfl (by kernel_rfl) ?_
      have la := blk_lt HA.out
      have lq := blk_lt HQ.out
      have lr := blk_lt HR.out
      have H13 := Lib.hid ((setRow_other _ b14 b13 #[.int .i64 X, .int .i64 Y, .int .i64 a1p, .int .i64 b1p, .int .i64 a2p, .int .i64 b2p, .int .i64 a3p, .int .i64 b3p] ne).trans (setRow_heap w8 b13 _ #[.int .i64 X, .int .i64 Y, .int .i64 a1, .int .i64 b1, .int .i64 a2, .int .i64 b2, .int .i64 a3, .int .i64 b3] _ _ h13))
      have H14 := Lib.hid (setRow_heap _ b14 _ #[.int .i64 X, .int .i64 Y, .int .i64 a1p, .int .i64 b1p, .int .i64 a2p, .int .i64 b2p, .int .i64 a3p, .int .i64 b3p] _ _ h14')
      replace HA := Lib.hid ((setRow_other _ b14 _ #[.int .i64 X, .int .i64 Y, .int .i64 a1p, .int .i64 b1p, .int .i64 a2p, .int .i64 b2p, .int .i64 a3p, .int .i64 b3p] (by omega)).trans ((setRow_other w8 b13 _ #[.int .i64 X, .int .i64 Y, .int .i64 a1, .int .i64 b1, .int .i64 a2, .int .i64 b2, .int .i64 a3, .int .i64 b3] (by omega)).trans (blk_call HA.out hb8)))
      replace HQ := Lib.hid ((setRow_other _ b14 _ #[.int .i64 X, .int .i64 Y, .int .i64 a1p, .int .i64 b1p, .int .i64 a2p, .int .i64 b2p, .int .i64 a3p, .int .i64 b3p] (by omega)).trans ((setRow_other w8 b13 _ #[.int .i64 X, .int .i64 Y, .int .i64 a1, .int .i64 b1, .int .i64 a2, .int .i64 b2, .int .i64 a3, .int .i64 b3] (by omega)).trans (blk_call HQ.out hb8)))
      replace HR := Lib.hid ((setRow_other _ b14 _ #[.int .i64 X, .int .i64 Y, .int .i64 a1p, .int .i64 b1p, .int .i64 a2p, .int .i64 b2p, .int .i64 a3p, .int .i64 b3p] (by omega)).trans ((setRow_other w8 b13 _ #[.int .i64 X, .int .i64 Y, .int .i64 a1, .int .i64 b1, .int .i64 a2, .int .i64 b2, .int .i64 a3, .int .i64 b3] (by omega)).trans (blk_call HR.out hb8)))
      have bw := below_setRow7 (below_setRow7 hb8 hs13 #[.int .i64 X, .int .i64 Y, .int .i64 a1, .int .i64 b1, .int .i64 a2, .int .i64 b2, .int .i64 a3, .int .i64 b3]) hs14 #[.int .i64 X, .int .i64 Y, .int .i64 a1p, .int .i64 b1p, .int .i64 a2p, .int .i64 b2p, .int .i64 a3p, .int .i64 b3p]
      replace B := Lib.hid (belT B.out bw)
      replace TT := Lib.hid (Tab.below TT.out bw)
      clear bw hb8 h13 h14 h14' hs13 hs14 N13_14 ne la lq lr
      simp only [wpOpsIn]
      generalize ((w8.setRow b13 #[.int .i64 X, .int .i64 Y, .int .i64 a1, .int .i64 b1, .int .i64 a2, .int .i64 b2, .int .i64 a3, .int .i64 b3]).setRow b14 #[.int .i64 X, .int .i64 Y, .int .i64 a1p, .int .i64 b1p, .int .i64 a2p, .int .i64 b2p, .int .i64 a3p, .int .i64 b3p]) = W3 at *
      go_upto_region 9 with fail
      have PCz := (pose_corn PP.out HT.out).2.2.1
      have CHx := CH.out
      obtain ⟨z0, hz0⟩ : ∃ z, a2 + W * v3 = z := ⟨_, rfl⟩
      obtain ⟨z1, hz1⟩ : ∃ z, b2 - W * u3 = z := ⟨_, rfl⟩
      obtain ⟨z2, hz2⟩ : ∃ z, a3 + W * v3 = z := ⟨_, rfl⟩
      obtain ⟨z3, hz3⟩ : ∃ z, b3 - W * u3 = z := ⟨_, rfl⟩
      obtain ⟨z4, hz4⟩ : ∃ z, a3 - W * v3 = z := ⟨_, rfl⟩
      obtain ⟨z5, hz5⟩ : ∃ z, b3 + W * u3 = z := ⟨_, rfl⟩
      obtain ⟨z6, hz6⟩ : ∃ z, a2 - W * v3 = z := ⟨_, rfl⟩
      obtain ⟨z7, hz7⟩ : ∃ z, b2 + W * u3 = z := ⟨_, rfl⟩
      have Lz : bodL a2 b2 a3 b3 (W * u3) (W * v3) = [(z0, z1), (z2, z3), (z4, z5), (z6, z7)] := by unfold bodL; rw [hz0, hz1, hz2, hz3, hz4, hz5, hz6, hz7]
      rw [Lz] at PCz
      rw [hz0, hz1, hz2, hz3, hz4, hz5, hz6, hz7] at CHx
      replace Lz := Lib.hid Lz
      replace PCz := Lib.hid PCz
      clear hz0 hz1 hz2 hz3 hz4 hz5 hz6 hz7
      have PCo := (pose_corn PQ.out HT.out).2.2.1
      skip
      obtain ⟨o0, ho0⟩ : ∃ z, a2p + W * v3p = z := ⟨_, rfl⟩
      obtain ⟨o1, ho1⟩ : ∃ z, b2p - W * u3p = z := ⟨_, rfl⟩
      obtain ⟨o2, ho2⟩ : ∃ z, a3p + W * v3p = z := ⟨_, rfl⟩
      obtain ⟨o3, ho3⟩ : ∃ z, b3p - W * u3p = z := ⟨_, rfl⟩
      obtain ⟨o4, ho4⟩ : ∃ z, a3p - W * v3p = z := ⟨_, rfl⟩
      obtain ⟨o5, ho5⟩ : ∃ z, b3p + W * u3p = z := ⟨_, rfl⟩
      obtain ⟨o6, ho6⟩ : ∃ z, a2p - W * v3p = z := ⟨_, rfl⟩
      obtain ⟨o7, ho7⟩ : ∃ z, b2p + W * u3p = z := ⟨_, rfl⟩
      have Lo : bodL a2p b2p a3p b3p (W * u3p) (W * v3p) = [(o0, o1), (o2, o3), (o4, o5), (o6, o7)] := by unfold bodL; rw [ho0, ho1, ho2, ho3, ho4, ho5, ho6, ho7]
      rw [Lo] at PCo
      rw [ho0, ho1, ho2, ho3, ho4, ho5, ho6, ho7] at CHx
      replace Lo := Lib.hid Lo
      replace PCo := Lib.hid PCo
      clear ho0 ho1 ho2 ho3 ho4 ho5 ho6 ho7
      replace CH := Lib.hid CHx
      clear CHx
      obtain ⟨sp, hsp⟩ : ∃ sp : ToldS, sp = [none, none, none, none, none, none, none, none, none, none, none, none, none, none, none, some (newS W3.heap.size #[.slice none 0 0, .slice none 0 0, .slice none 0 0] 35), some (newS W3.heap.size #[.slice none 0 0, .slice none 0 0, .slice none 0 0] 35), none, none, none, none, none, none, none, none, none, none, none, none, none, none, none, none, none, none, none, none, none, none, none, none, none, none, none, none, none, none, none, none, none, none, none, none, none, none, none, none, none, none, some (eqS (.agg #[.int .i64 X, .int .i64 Y, .int .i64 n0, .int .i64 n1, .int .i64 n2, .int .i64 W, .int .i64 l0, .int .i64 l1, .int .i64 l2, .int .i64 h0, .int .i64 h1, .int .i64 h2])), some (eqS (.agg #[.int .i64 q0, .int .i64 q1, .int .i64 q2])), some (linkS (bodL X Y a1 b1 (W * u1) (W * v1)) (bodL a1 b1 a2 b2 (W * u2) (W * v2)) [(z0, z1), (z2, z3), (z4, z5), (z6, z7)]), some (eqS (.agg #[.int .i64 X, .int .i64 Y, .int .i64 n0, .int .i64 n1, .int .i64 n2, .int .i64 W, .int .i64 l0, .int .i64 l1, .int .i64 l2, .int .i64 h0, .int .i64 h1, .int .i64 h2])), some (eqS (.agg #[.int .i64 p, .int .i64 q1, .int .i64 q2])), some (linkS (bodL X Y a1p b1p (W * u1p) (W * v1p)) (bodL a1p b1p a2p b2p (W * u2p) (W * v2p)) [(o0, o1), (o2, o3), (o4, o5), (o6, o7)])] := ⟨_, rfl⟩
      have s15 : sp.getD 15 none = some (newS W3.heap.size #[.slice none 0 0, .slice none 0 0, .slice none 0 0] 35) := by rw [hsp]; rfl
      have s16 : sp.getD 16 none = some (newS W3.heap.size #[.slice none 0 0, .slice none 0 0, .slice none 0 0] 35) := by rw [hsp]; rfl
      have s59 : sp.getD 59 none = some (eqS (.agg #[.int .i64 X, .int .i64 Y, .int .i64 n0, .int .i64 n1, .int .i64 n2, .int .i64 W, .int .i64 l0, .int .i64 l1, .int .i64 l2, .int .i64 h0, .int .i64 h1, .int .i64 h2])) := by rw [hsp]; rfl
      have s60 : sp.getD 60 none = some (eqS (.agg #[.int .i64 q0, .int .i64 q1, .int .i64 q2])) := by rw [hsp]; rfl
      have s61 : sp.getD 61 none = some (linkS (bodL X Y a1 b1 (W * u1) (W * v1)) (bodL a1 b1 a2 b2 (W * u2) (W * v2)) [(z0, z1), (z2, z3), (z4, z5), (z6, z7)]) := by rw [hsp]; rfl
      have s62 : sp.getD 62 none = some (eqS (.agg #[.int .i64 X, .int .i64 Y, .int .i64 n0, .int .i64 n1, .int .i64 n2, .int .i64 W, .int .i64 l0, .int .i64 l1, .int .i64 l2, .int .i64 h0, .int .i64 h1, .int .i64 h2])) := by rw [hsp]; rfl
      have s63 : sp.getD 63 none = some (eqS (.agg #[.int .i64 p, .int .i64 q1, .int .i64 q2])) := by rw [hsp]; rfl
      have s64 : sp.getD 64 none = some (linkS (bodL X Y a1p b1p (W * u1p) (W * v1p)) (bodL a1p b1p a2p b2p (W * u2p) (W * v2p)) [(o0, o1), (o2, o3), (o4, o5), (o6, o7)]) := by rw [hsp]; rfl
      clear hsp
      refine (wpIn_wide (n := 0)).1 (region_headF (FS := [15, 16]) (RtS sp) (rtS_keep sp) (fun t v w ht h => by rcases (by simpa using ht : t = 15 ∨ t = 16) with rfl | rfl <;> first | exact newS_fresh s15 h | exact newS_fresh s16 h) 8 rfl rfl rfl (by kernel_rfl) (by decide) (by kernel_rfl) (by kernel_rfl) (by kernel_rfl) ?_ ?_)
      · intro Q'; show ObsF _ _ _ _ _ _ _ _ _ (List.take _ _); simp only [List.take_succ_cons, List.take_zero]
        refine obsF_cons (obF_of ?_ (by intro d e; cases e; decide)) ?_
        · intro T wx K hB hF hD hK
          have g4 : T[4]? = some (.pointer (some ⟨w.heap.size, 0, none⟩)) := hF 4 (freeM_of (by kernel_rfl))
          refine ob_yes (wanted_none rfl) ?_
          clear hF hD
          exact wp_load_row 27 (.tmp 4) rfl (w.heap.size) (eval_tmp g4) _ _ _ _ (blk_call HA.out hB) Tryd.underlying27 rfl (by kernel_rfl) (hK _ _ (Below.refl _ _) (rt_eqS s59))
        refine obsF_cons (obF_of ?_ (by intro d e; cases e; decide)) ?_
        · intro T wx K hB hF hD hK
          have g10 : T[10]? = some (.pointer (some ⟨w3.heap.size, 0, none⟩)) := hF 10 (freeM_of (by kernel_rfl))
          refine ob_yes (wanted_none rfl) ?_
          clear hF hD
          exact wp_load_row 25 (.tmp 10) rfl (w3.heap.size) (eval_tmp g10) _ _ _ _ (blk_call HQ.out hB) Tryd.underlying25 rfl (by kernel_rfl) (hK _ _ (Below.refl _ _) (rt_eqS s60))
        refine obsF_cons (obF_of ?_ (by intro d e; cases e; decide)) ?_
        · intro T wx K hB hF hD hK
          have g59 := get_eqS (hD 0 59 (by simp [Region.binds]) (by kernel_rfl)) s59
          have g60 := get_eqS (hD 1 60 (by simp [Region.binds]) (by kernel_rfl)) s60
          refine ob_yes (wanted_none rfl) ?_
          clear hF hD
          go_simp
          refine (links_is X Y n0 n1 n2 W l0 l1 l2 h0 h1 h2 q0 q1 q2 x1 x2 x3 y1 y2 y3 u1 u2 u3 v1 v2 v3 a1 a2 a3 b1 b2 b3 _ _ _ _ (TT.out.below hB) k0 k1 k2 HT PP (Lib.hid rfl) (Lib.hid rfl) Lz).mono ?_; rintro e w9 ⟨⟨g0, g1, g2, rfl, p0, p1, p2⟩, hb⟩
          exact hK _ _ hb (rt_S s61 ⟨g0, g1, g2, rfl, p0, p1, p2⟩)
        refine obsF_cons (obF_of ?_ (by intro d e; cases e; decide)) ?_
        · intro T wx K hB hF hD hK
          have g4 : T[4]? = some (.pointer (some ⟨w.heap.size, 0, none⟩)) := hF 4 (freeM_of (by kernel_rfl))
          refine ob_yes (wanted_none rfl) ?_
          clear hF hD
          exact wp_load_row 27 (.tmp 4) rfl (w.heap.size) (eval_tmp g4) _ _ _ _ (blk_call HA.out hB) Tryd.underlying27 rfl (by kernel_rfl) (hK _ _ (Below.refl _ _) (rt_eqS s62))
        refine obsF_cons (obF_of ?_ (by intro d e; cases e; decide)) ?_
        · intro T wx K hB hF hD hK
          have g12 : T[12]? = some (.pointer (some ⟨w3.heap.size + 1, 0, none⟩)) := hF 12 (freeM_of (by kernel_rfl))
          refine ob_yes (wanted_none rfl) ?_
          clear hF hD
          exact wp_load_row 25 (.tmp 12) rfl (w3.heap.size + 1) (eval_tmp g12) _ _ _ _ (blk_call HR.out hB) Tryd.underlying25 rfl (by kernel_rfl) (hK _ _ (Below.refl _ _) (rt_eqS s63))
        refine obsF_cons (obF_of ?_ (by intro d e; cases e; decide)) ?_
        · intro T wx K hB hF hD hK
          have g62 := get_eqS (hD 3 62 (by simp [Region.binds]) (by kernel_rfl)) s62
          have g63 := get_eqS (hD 4 63 (by simp [Region.binds]) (by kernel_rfl)) s63
          refine ob_yes (wanted_none rfl) ?_
          clear hF hD
          go_simp
          refine (links_is X Y n0 n1 n2 W l0 l1 l2 h0 h1 h2 p q1 q2 x1p x2p x3p y1p y2p y3p u1p u2p u3p v1p v2p v3p a1p a2p a3p b1p b2p b3p _ _ _ _ (TT.out.below hB) kp k1 k2 HT PQ (Lib.hid rfl) (Lib.hid rfl) Lo).mono ?_; rintro e w9 ⟨⟨g0, g1, g2, rfl, p0, p1, p2⟩, hb⟩
          exact hK _ _ hb (rt_S s64 ⟨g0, g1, g2, rfl, p0, p1, p2⟩)
        refine obsF_cons ?_ ?_
        · intro T wx K hB hF hD hK
          refine ob_yes (wanted_none rfl) ?_
          clear hF hD
          go_simp
          exact hK _ _ (belA (Below.refl _ _) _) (fun d e => by cases e; exact ⟨rt_S s15 ⟨_, rfl, hB.size, blk_new _ _ _ rfl⟩ _ rfl, fun _ => rfl⟩)
        refine obsF_cons ?_ ?_
        · intro T wx K hB hF hD hK
          refine ob_yes (wanted_none rfl) ?_
          clear hF hD
          go_simp
          exact hK _ _ (belA (Below.refl _ _) _) (fun d e => by cases e; exact ⟨rt_S s16 ⟨_, rfl, hB.size, blk_new _ _ _ rfl⟩ _ rfl, fun _ => rfl⟩)
        exact obsF_nil
      · intro T9 v8 hb8 hF hs hD hN
        have g59 := get_eqS (hD 0 59 (by decide) (by kernel_rfl)) s59
        have g60 := get_eqS (hD 1 60 (by decide) (by kernel_rfl)) s60
        obtain ⟨v61, g61, p61⟩ := getS (hD 2 61 (by decide) (by kernel_rfl)) s61
        have g62 := get_eqS (hD 3 62 (by decide) (by kernel_rfl)) s62
        have g63 := get_eqS (hD 4 63 (by decide) (by kernel_rfl)) s63
        obtain ⟨v64, g64, p64⟩ := getS (hD 5 64 (by decide) (by kernel_rfl)) s64
        obtain ⟨v15, g15, p15⟩ := getS (hD 6 15 (by decide) (by kernel_rfl)) s15
        obtain ⟨v16, g16, p16⟩ := getS (hD 7 16 (by decide) (by kernel_rfl)) s16
        have N15_16 := hN 15 16 (by decide) (by decide) (by decide) ⟨6, by decide, by kernel_rfl⟩ ⟨7, by decide, by kernel_rfl⟩
        rw [g15, g16] at N15_16
        have hT := conc [(59, .agg #[.int .i64 X, .int .i64 Y, .int .i64 n0, .int .i64 n1, .int .i64 n2, .int .i64 W, .int .i64 l0, .int .i64 l1, .int .i64 l2, .int .i64 h0, .int .i64 h1, .int .i64 h2]), (60, .agg #[.int .i64 q0, .int .i64 q1, .int .i64 q2]), (61, v61), (62, .agg #[.int .i64 X, .int .i64 Y, .int .i64 n0, .int .i64 n1, .int .i64 n2, .int .i64 W, .int .i64 l0, .int .i64 l1, .int .i64 l2, .int .i64 h0, .int .i64 h1, .int .i64 h2]), (63, .agg #[.int .i64 p, .int .i64 q1, .int .i64 q2]), (64, v64), (15, v15), (16, v16)] hs hF (by simp only [List.forall_mem_cons]; exact ⟨g59, g60, g61, g62, g63, g64, g15, g16, fun p hp => absurd hp List.not_mem_nil⟩) (by kernel_rfl)
        simp only [List.foldl, List.setIfInBounds_toArray, List.set_cons_succ, List.set_cons_zero] at hT
        subst hT
        clear hF hD hs hN g59 g60 g61 g62 g63 g64 g15 g16 s15 s16 s59 s60 s61 s62 s63 s64
        show wpOpsIn _ _ _ _ _ [8, 9] _ _
        obtain ⟨b15, rfl, hs15, h15⟩ := p15
        obtain ⟨b16, rfl, hs16, h16⟩ := p16
        have ne : b15 ≠ b16 := fun e => N15_16 (by rw [e])
        obtain ⟨g0, g1, g2, rfl, -, -, pg⟩ := p61
        obtain ⟨m0, m1, m2, rfl, -, -, pm⟩ := p64
        refine tail_store rfl rfl rfl rfl rfl 35 (.tmp 15) (.tmp 61) rfl rfl b15 #[.slice (some ⟨g0, 0, none⟩) 4 4, .slice (some ⟨g1, 0, none⟩) 4 4, .slice (some ⟨g2, 0, none⟩) 4 4] rfl rfl _ _ h15 (by kernel_rfl) rfl (by kernel_rfl) ?_
        have h16' := (setRow_other v8 b15 b16 #[.slice (some ⟨g0, 0, none⟩) 4 4, .slice (some ⟨g1, 0, none⟩) 4 4, .slice (some ⟨g2, 0, none⟩) 4 4] (fun h => ne h.symm)).trans h16
        refine tail_store rfl rfl rfl rfl rfl 35 (.tmp 16) (.tmp 64) rfl rfl b16 #[.slice (some ⟨m0, 0, none⟩) 4 4, .slice (some ⟨m1, 0, none⟩) 4 4, .slice (some ⟨m2, 0, none⟩) 4 4] rfl rfl _ _ h16' (by kernel_rfl) rfl (by kernel_rfl) ?_
        have l3 := blk_lt H13.out
        have l4 := blk_lt H14.out
        have H15 := Lib.hid ((setRow_other _ b16 b15 #[.slice (some ⟨m0, 0, none⟩) 4 4, .slice (some ⟨m1, 0, none⟩) 4 4, .slice (some ⟨m2, 0, none⟩) 4 4] ne).trans (setRow_heap v8 b15 _ #[.slice (some ⟨g0, 0, none⟩) 4 4, .slice (some ⟨g1, 0, none⟩) 4 4, .slice (some ⟨g2, 0, none⟩) 4 4] _ _ h15))
        have H16 := Lib.hid (setRow_heap _ b16 _ #[.slice (some ⟨m0, 0, none⟩) 4 4, .slice (some ⟨m1, 0, none⟩) 4 4, .slice (some ⟨m2, 0, none⟩) 4 4] _ _ h16')
        have RG := Lib.hid (prow_setRow (prow_setRow pg (fun h => prow_notslice pg h15 h.symm) #[.slice (some ⟨g0, 0, none⟩) 4 4, .slice (some ⟨g1, 0, none⟩) 4 4, .slice (some ⟨g2, 0, none⟩) 4 4]) (fun h => prow_notslice pg h16 h.symm) #[.slice (some ⟨m0, 0, none⟩) 4 4, .slice (some ⟨m1, 0, none⟩) 4 4, .slice (some ⟨m2, 0, none⟩) 4 4])
        have RM := Lib.hid (prow_setRow (prow_setRow pm (fun h => prow_notslice pm h15 h.symm) #[.slice (some ⟨g0, 0, none⟩) 4 4, .slice (some ⟨g1, 0, none⟩) 4 4, .slice (some ⟨g2, 0, none⟩) 4 4]) (fun h => prow_notslice pm h16 h.symm) #[.slice (some ⟨m0, 0, none⟩) 4 4, .slice (some ⟨m1, 0, none⟩) 4 4, .slice (some ⟨m2, 0, none⟩) 4 4])
        replace H13 := Lib.hid ((setRow_other _ b16 _ #[.slice (some ⟨m0, 0, none⟩) 4 4, .slice (some ⟨m1, 0, none⟩) 4 4, .slice (some ⟨m2, 0, none⟩) 4 4] (by omega)).trans ((setRow_other v8 b15 _ #[.slice (some ⟨g0, 0, none⟩) 4 4, .slice (some ⟨g1, 0, none⟩) 4 4, .slice (some ⟨g2, 0, none⟩) 4 4] (by omega)).trans (blk_call H13.out hb8)))
        replace H14 := Lib.hid ((setRow_other _ b16 _ #[.slice (some ⟨m0, 0, none⟩) 4 4, .slice (some ⟨m1, 0, none⟩) 4 4, .slice (some ⟨m2, 0, none⟩) 4 4] (by omega)).trans ((setRow_other v8 b15 _ #[.slice (some ⟨g0, 0, none⟩) 4 4, .slice (some ⟨g1, 0, none⟩) 4 4, .slice (some ⟨g2, 0, none⟩) 4 4] (by omega)).trans (blk_call H14.out hb8)))
        have bw := below_setRow7 (below_setRow7 hb8 hs15 #[.slice (some ⟨g0, 0, none⟩) 4 4, .slice (some ⟨g1, 0, none⟩) 4 4, .slice (some ⟨g2, 0, none⟩) 4 4]) hs16 #[.slice (some ⟨m0, 0, none⟩) 4 4, .slice (some ⟨m1, 0, none⟩) 4 4, .slice (some ⟨m2, 0, none⟩) 4 4]
        replace B := Lib.hid (belT B.out bw)
        replace TT := Lib.hid (Tab.below TT.out bw)
        clear bw hb8 h15 h16 h16' hs15 hs16 N15_16 ne l3 l4 pg pm HA HQ HR
        simp only [wpOpsIn]
        generalize ((v8.setRow b15 #[.slice (some ⟨g0, 0, none⟩) 4 4, .slice (some ⟨g1, 0, none⟩) 4 4, .slice (some ⟨g2, 0, none⟩) 4 4]).setRow b16 #[.slice (some ⟨m0, 0, none⟩) 4 4, .slice (some ⟨m1, 0, none⟩) 4 4, .slice (some ⟨m2, 0, none⟩) 4 4]) = W4 at *
        have PB := Lib.hid (pose_bd PP.out HT.out)
        have PBq := Lib.hid (pose_bd PQ.out HT.out)
        have WB : Hid (1 ≤ W ∧ W ≤ 4) := Lib.hid (by have := (armB_iff X Y n0 n1 n2 W l0 l1 l2 h0 h1 h2).1 HT.out; omega)
        have c2 := blk_cell H15.out 2 _ rfl
        have d2 := blk_cell H16.out 2 _ rfl
        go_wp2_with fail
        clear c2 d2
        refine wp_loop_rounds 2 ?_
        rw [rounds_succ]
        go_wp2_with fail
        obtain ⟨sp, hsp⟩ : ∃ sp : ToldS, sp = [none, none, none, none, none, none, none, none, none, none, none, none, none, none, none, none, none, none, none, none, none, none, none, none, none, none, none, none, none, none, none, none, none, none, none, none, none, none, none, none, none, none, none, none, none, none, none, none, none, none, none, none, none, none, none, none, none, none, none, none, none, none, none, none, none, none, none, none, none, none, none, none, none, none, none, none, none, none, none, none, some (eqS (.int .i64 0)), some (eqS (.pointer (some ⟨b13, 0, none⟩))), some (eqS (.agg #[.int .i64 X, .int .i64 Y])), some (eqS (.int .i64 0)), some (eqS (.pointer (some ⟨b14, 0, none⟩))), some (eqS (.agg #[.int .i64 X, .int .i64 Y])), some (eqS (.bool false))] := ⟨_, rfl⟩
        have s80 : sp.getD 80 none = some (eqS (.int .i64 0)) := by rw [hsp]; rfl
        have s81 : sp.getD 81 none = some (eqS (.pointer (some ⟨b13, 0, none⟩))) := by rw [hsp]; rfl
        have s82 : sp.getD 82 none = some (eqS (.agg #[.int .i64 X, .int .i64 Y])) := by rw [hsp]; rfl
        have s83 : sp.getD 83 none = some (eqS (.int .i64 0)) := by rw [hsp]; rfl
        have s84 : sp.getD 84 none = some (eqS (.pointer (some ⟨b14, 0, none⟩))) := by rw [hsp]; rfl
        have s85 : sp.getD 85 none = some (eqS (.agg #[.int .i64 X, .int .i64 Y])) := by rw [hsp]; rfl
        have s86 : sp.getD 86 none = some (eqS (.bool false)) := by rw [hsp]; rfl
        clear hsp
        refine (wpIn_wide (n := 0)).1 (region_allR (RtS sp) (rtS_keep sp) rfl rfl rfl (by kernel_rfl) (by kernel_rfl) (by kernel_rfl) ?_ ?_)
        · intro Q'
          refine obsR_cons ?_ ?_
          · intro T wx K hB hF hD hK
            have g17 : T[17]? = some (.int .i64 0) := hF 17 (freeM_of (by kernel_rfl))
            refine ob_yes (wanted_none rfl) ?_
            clear hF hD
            go_simp
            exact hK _ _ (Below.refl _ _) (rt_eqS s80)
          refine obsR_cons ?_ ?_
          · intro T wx K hB hF hD hK
            have g13 : T[13]? = some (.pointer (some ⟨b13, 0, none⟩)) := hF 13 (freeM_of (by kernel_rfl))
            have g80 := get_eqS (hD 0 80 (by simp [Region.binds]) (by kernel_rfl)) s80
            refine ob_yes (wanted_none rfl) ?_
            clear hF hD
            go_simp
            exact hK _ _ (Below.refl _ _) (rt_eqS s81)
          refine obsR_cons ?_ ?_
          · intro T wx K hB hF hD hK
            have g81 := get_eqS (hD 1 81 (by simp [Region.binds]) (by kernel_rfl)) s81
            refine ob_yes (wanted_none rfl) ?_
            clear hF hD
            have c0 := blk_cell (blk_call H13.out hB) 0 _ rfl
            have c1 := blk_cell (blk_call H13.out hB) 1 _ rfl
            go_simp
            exact hK _ _ (Below.refl _ _) (rt_eqS s82)
          refine obsR_cons ?_ ?_
          · intro T wx K hB hF hD hK
            have g17 : T[17]? = some (.int .i64 0) := hF 17 (freeM_of (by kernel_rfl))
            refine ob_yes (wanted_none rfl) ?_
            clear hF hD
            go_simp
            exact hK _ _ (Below.refl _ _) (rt_eqS s83)
          refine obsR_cons ?_ ?_
          · intro T wx K hB hF hD hK
            have g14 : T[14]? = some (.pointer (some ⟨b14, 0, none⟩)) := hF 14 (freeM_of (by kernel_rfl))
            have g83 := get_eqS (hD 3 83 (by simp [Region.binds]) (by kernel_rfl)) s83
            refine ob_yes (wanted_none rfl) ?_
            clear hF hD
            go_simp
            exact hK _ _ (Below.refl _ _) (rt_eqS s84)
          refine obsR_cons ?_ ?_
          · intro T wx K hB hF hD hK
            have g84 := get_eqS (hD 4 84 (by simp [Region.binds]) (by kernel_rfl)) s84
            refine ob_yes (wanted_none rfl) ?_
            clear hF hD
            have c0 := blk_cell (blk_call H14.out hB) 0 _ rfl
            have c1 := blk_cell (blk_call H14.out hB) 1 _ rfl
            go_simp
            exact hK _ _ (Below.refl _ _) (rt_eqS s85)
          refine obsR_cons ?_ ?_
          · intro T wx K hB hF hD hK
            have g82 := get_eqS (hD 2 82 (by simp [Region.binds]) (by kernel_rfl)) s82
            have g85 := get_eqS (hD 5 85 (by simp [Region.binds]) (by kernel_rfl)) s85
            refine ob_yes (wanted_none rfl) ?_
            clear hF hD
            go_simp
            exact hK _ _ (Below.refl _ _) (rt_eqS s86)
          exact obsR_nil
        · intro S1 U1 hb8 hF hs hD
          have g80 := get_eqS (hD 0 80 (by decide) (by kernel_rfl)) s80
          have g81 := get_eqS (hD 1 81 (by decide) (by kernel_rfl)) s81
          have g82 := get_eqS (hD 2 82 (by decide) (by kernel_rfl)) s82
          have g83 := get_eqS (hD 3 83 (by decide) (by kernel_rfl)) s83
          have g84 := get_eqS (hD 4 84 (by decide) (by kernel_rfl)) s84
          have g85 := get_eqS (hD 5 85 (by decide) (by kernel_rfl)) s85
          have g86 := get_eqS (hD 6 86 (by decide) (by kernel_rfl)) s86
          have hT := conc [(80, .int .i64 0), (81, .pointer (some ⟨b13, 0, none⟩)), (82, .agg #[.int .i64 X, .int .i64 Y]), (83, .int .i64 0), (84, .pointer (some ⟨b14, 0, none⟩)), (85, .agg #[.int .i64 X, .int .i64 Y]), (86, .bool false)] hs hF (by simp only [List.forall_mem_cons]; exact ⟨g80, g81, g82, g83, g84, g85, g86, fun p hp => absurd hp List.not_mem_nil⟩) (by kernel_rfl)
          simp only [List.foldl, List.setIfInBounds_toArray, List.set_cons_succ, List.set_cons_zero] at hT
          subst hT
          clear hF hD hs g80 g81 g82 g83 g84 g85 g86 s80 s81 s82 s83 s84 s85 s86
          replace H13 := Lib.hid (blk_call H13.out hb8)
          replace H14 := Lib.hid (blk_call H14.out hb8)
          replace H15 := Lib.hid (blk_call H15.out hb8)
          replace H16 := Lib.hid (blk_call H16.out hb8)
          replace RG := Lib.hid (prow_below RG.out hb8)
          replace RM := Lib.hid (prow_below RM.out hb8)
          replace B := Lib.hid (belT B.out hb8)
          replace TT := Lib.hid (Tab.below TT.out hb8)
          clear hb8
          go_wp2_with fail
          rw [rounds_succ]
          go_wp2_with fail
          refine wp_loop_rounds 5 ?_
          rw [rounds_succ]
          go_wp2_with fail
          refine wp_loop_rounds 1 ?_
          rw [rounds_succ]
          go_wp2_with fail
          rw [rounds_succ]
          go_wp2_with fail
          refine wp_loop_rounds 2 ?_
          rw [rounds_succ]
          go_wp2_with fail
          obtain ⟨sp, hsp⟩ : ∃ sp : ToldS, sp = [none, none, none, none, none, none, none, none, none, none, none, none, none, none, none, none, none, none, none, none, none, none, none, none, none, none, none, none, none, none, none, none, none, none, none, none, none, none, none, none, none, none, none, none, none, none, none, none, none, none, none, none, none, none, none, none, none, none, none, none, none, none, none, none, none, none, none, none, none, none, none, none, none, none, none, none, none, none, none, none, none, none, none, none, none, none, none, none, none, none, none, none, none, none, none, none, none, none, some (eqS (.int .i64 1)), some (eqS (.pointer (some ⟨b13, 2, none⟩))), some (eqS (.agg #[.int .i64 a1, .int .i64 b1])), some (eqS (.int .i64 0)), some (eqS (.pointer (some ⟨b13, 0, none⟩))), some (eqS (.agg #[.int .i64 X, .int .i64 Y])), some (eqS (.int .i64 (farI a1 b1 X Y))), some (eqS (.int .i64 1)), some (eqS (.pointer (some ⟨b14, 2, none⟩))), some (eqS (.agg #[.int .i64 a1p, .int .i64 b1p])), some (eqS (.int .i64 0)), some (eqS (.pointer (some ⟨b14, 0, none⟩))), some (eqS (.agg #[.int .i64 X, .int .i64 Y])), some (eqS (.int .i64 (farI a1 b1 X Y))), some (eqS (.bool false))] := ⟨_, rfl⟩
          have s98 : sp.getD 98 none = some (eqS (.int .i64 1)) := by rw [hsp]; rfl
          have s99 : sp.getD 99 none = some (eqS (.pointer (some ⟨b13, 2, none⟩))) := by rw [hsp]; rfl
          have s100 : sp.getD 100 none = some (eqS (.agg #[.int .i64 a1, .int .i64 b1])) := by rw [hsp]; rfl
          have s101 : sp.getD 101 none = some (eqS (.int .i64 0)) := by rw [hsp]; rfl
          have s102 : sp.getD 102 none = some (eqS (.pointer (some ⟨b13, 0, none⟩))) := by rw [hsp]; rfl
          have s103 : sp.getD 103 none = some (eqS (.agg #[.int .i64 X, .int .i64 Y])) := by rw [hsp]; rfl
          have s104 : sp.getD 104 none = some (eqS (.int .i64 (farI a1 b1 X Y))) := by rw [hsp]; rfl
          have s105 : sp.getD 105 none = some (eqS (.int .i64 1)) := by rw [hsp]; rfl
          have s106 : sp.getD 106 none = some (eqS (.pointer (some ⟨b14, 2, none⟩))) := by rw [hsp]; rfl
          have s107 : sp.getD 107 none = some (eqS (.agg #[.int .i64 a1p, .int .i64 b1p])) := by rw [hsp]; rfl
          have s108 : sp.getD 108 none = some (eqS (.int .i64 0)) := by rw [hsp]; rfl
          have s109 : sp.getD 109 none = some (eqS (.pointer (some ⟨b14, 0, none⟩))) := by rw [hsp]; rfl
          have s110 : sp.getD 110 none = some (eqS (.agg #[.int .i64 X, .int .i64 Y])) := by rw [hsp]; rfl
          have s111 : sp.getD 111 none = some (eqS (.int .i64 (farI a1 b1 X Y))) := by rw [hsp]; rfl
          have s112 : sp.getD 112 none = some (eqS (.bool false)) := by rw [hsp]; rfl
          clear hsp
          refine (wpIn_wide (n := 0)).1 (region_allR (RtS sp) (rtS_keep sp) rfl rfl rfl (by kernel_rfl) (by kernel_rfl) (by kernel_rfl) ?_ ?_)
          · intro Q'
            refine obsR_cons ?_ ?_
            · intro T wx K hB hF hD hK
              have g18 : T[18]? = some (.int .i64 1) := hF 18 (freeM_of (by kernel_rfl))
              refine ob_yes (wanted_none rfl) ?_
              clear hF hD
              go_simp
              exact hK _ _ (Below.refl _ _) (rt_eqS s98)
            refine obsR_cons ?_ ?_
            · intro T wx K hB hF hD hK
              have g13 : T[13]? = some (.pointer (some ⟨b13, 0, none⟩)) := hF 13 (freeM_of (by kernel_rfl))
              have g98 := get_eqS (hD 0 98 (by simp [Region.binds]) (by kernel_rfl)) s98
              refine ob_yes (wanted_none rfl) ?_
              clear hF hD
              go_simp
              exact hK _ _ (Below.refl _ _) (rt_eqS s99)
            refine obsR_cons ?_ ?_
            · intro T wx K hB hF hD hK
              have g99 := get_eqS (hD 1 99 (by simp [Region.binds]) (by kernel_rfl)) s99
              refine ob_yes (wanted_none rfl) ?_
              clear hF hD
              have c0 := blk_cell (blk_call H13.out hB) 2 _ rfl
              have c1 := blk_cell (blk_call H13.out hB) 3 _ rfl
              go_simp
              exact hK _ _ (Below.refl _ _) (rt_eqS s100)
            refine obsR_cons ?_ ?_
            · intro T wx K hB hF hD hK
              have g19 : T[19]? = some (.int .i64 0) := hF 19 (freeM_of (by kernel_rfl))
              refine ob_yes (wanted_none rfl) ?_
              clear hF hD
              go_simp
              exact hK _ _ (Below.refl _ _) (rt_eqS s101)
            refine obsR_cons ?_ ?_
            · intro T wx K hB hF hD hK
              have g13 : T[13]? = some (.pointer (some ⟨b13, 0, none⟩)) := hF 13 (freeM_of (by kernel_rfl))
              have g101 := get_eqS (hD 3 101 (by simp [Region.binds]) (by kernel_rfl)) s101
              refine ob_yes (wanted_none rfl) ?_
              clear hF hD
              go_simp
              exact hK _ _ (Below.refl _ _) (rt_eqS s102)
            refine obsR_cons ?_ ?_
            · intro T wx K hB hF hD hK
              have g102 := get_eqS (hD 4 102 (by simp [Region.binds]) (by kernel_rfl)) s102
              refine ob_yes (wanted_none rfl) ?_
              clear hF hD
              have c0 := blk_cell (blk_call H13.out hB) 0 _ rfl
              have c1 := blk_cell (blk_call H13.out hB) 1 _ rfl
              go_simp
              exact hK _ _ (Below.refl _ _) (rt_eqS s103)
            refine obsR_cons ?_ ?_
            · intro T wx K hB hF hD hK
              have g100 := get_eqS (hD 2 100 (by simp [Region.binds]) (by kernel_rfl)) s100
              have g103 := get_eqS (hD 5 103 (by simp [Region.binds]) (by kernel_rfl)) s103
              refine ob_yes (wanted_none rfl) ?_
              clear hF hD
              go_simp
              refine (lfar_is a1 b1 X Y (farI a1 b1 X Y) _ (Lib.hid rfl) (by have := PB.out.2.1; have := WB.out; omega) (by have := PB.out.2.1; have := WB.out; omega) (by have := PB.out.1; have := WB.out; omega) (by have := PB.out.1; have := WB.out; omega)).mono ?_; rintro e w9 ⟨rfl, hb⟩
              exact hK _ _ hb (rt_eqS s104)
            refine obsR_cons ?_ ?_
            · intro T wx K hB hF hD hK
              have g18 : T[18]? = some (.int .i64 1) := hF 18 (freeM_of (by kernel_rfl))
              refine ob_yes (wanted_none rfl) ?_
              clear hF hD
              go_simp
              exact hK _ _ (Below.refl _ _) (rt_eqS s105)
            refine obsR_cons ?_ ?_
            · intro T wx K hB hF hD hK
              have g14 : T[14]? = some (.pointer (some ⟨b14, 0, none⟩)) := hF 14 (freeM_of (by kernel_rfl))
              have g105 := get_eqS (hD 7 105 (by simp [Region.binds]) (by kernel_rfl)) s105
              refine ob_yes (wanted_none rfl) ?_
              clear hF hD
              go_simp
              exact hK _ _ (Below.refl _ _) (rt_eqS s106)
            refine obsR_cons ?_ ?_
            · intro T wx K hB hF hD hK
              have g106 := get_eqS (hD 8 106 (by simp [Region.binds]) (by kernel_rfl)) s106
              refine ob_yes (wanted_none rfl) ?_
              clear hF hD
              have c0 := blk_cell (blk_call H14.out hB) 2 _ rfl
              have c1 := blk_cell (blk_call H14.out hB) 3 _ rfl
              go_simp
              exact hK _ _ (Below.refl _ _) (rt_eqS s107)
            refine obsR_cons ?_ ?_
            · intro T wx K hB hF hD hK
              have g19 : T[19]? = some (.int .i64 0) := hF 19 (freeM_of (by kernel_rfl))
              refine ob_yes (wanted_none rfl) ?_
              clear hF hD
              go_simp
              exact hK _ _ (Below.refl _ _) (rt_eqS s108)
            refine obsR_cons ?_ ?_
            · intro T wx K hB hF hD hK
              have g14 : T[14]? = some (.pointer (some ⟨b14, 0, none⟩)) := hF 14 (freeM_of (by kernel_rfl))
              have g108 := get_eqS (hD 10 108 (by simp [Region.binds]) (by kernel_rfl)) s108
              refine ob_yes (wanted_none rfl) ?_
              clear hF hD
              go_simp
              exact hK _ _ (Below.refl _ _) (rt_eqS s109)
            refine obsR_cons ?_ ?_
            · intro T wx K hB hF hD hK
              have g109 := get_eqS (hD 11 109 (by simp [Region.binds]) (by kernel_rfl)) s109
              refine ob_yes (wanted_none rfl) ?_
              clear hF hD
              have c0 := blk_cell (blk_call H14.out hB) 0 _ rfl
              have c1 := blk_cell (blk_call H14.out hB) 1 _ rfl
              go_simp
              exact hK _ _ (Below.refl _ _) (rt_eqS s110)
            refine obsR_cons ?_ ?_
            · intro T wx K hB hF hD hK
              have g107 := get_eqS (hD 9 107 (by simp [Region.binds]) (by kernel_rfl)) s107
              have g110 := get_eqS (hD 12 110 (by simp [Region.binds]) (by kernel_rfl)) s110
              refine ob_yes (wanted_none rfl) ?_
              clear hF hD
              go_simp
              refine (lfar_is a1p b1p X Y (farI a1 b1 X Y) _ (Lib.hid CH.out.1) (by have := PBq.out.2.1; have := WB.out; omega) (by have := PBq.out.2.1; have := WB.out; omega) (by have := PBq.out.1; have := WB.out; omega) (by have := PBq.out.1; have := WB.out; omega)).mono ?_; rintro e w9 ⟨rfl, hb⟩
              exact hK _ _ hb (rt_eqS s111)
            refine obsR_cons ?_ ?_
            · intro T wx K hB hF hD hK
              have g104 := get_eqS (hD 6 104 (by simp [Region.binds]) (by kernel_rfl)) s104
              have g111 := get_eqS (hD 13 111 (by simp [Region.binds]) (by kernel_rfl)) s111
              refine ob_yes (wanted_none rfl) ?_
              clear hF hD
              go_simp
              exact hK _ _ (Below.refl _ _) (rt_eqS s112)
            exact obsR_nil
          · intro S2 U2 hb8 hF hs hD
            have g98 := get_eqS (hD 0 98 (by decide) (by kernel_rfl)) s98
            have g99 := get_eqS (hD 1 99 (by decide) (by kernel_rfl)) s99
            have g100 := get_eqS (hD 2 100 (by decide) (by kernel_rfl)) s100
            have g101 := get_eqS (hD 3 101 (by decide) (by kernel_rfl)) s101
            have g102 := get_eqS (hD 4 102 (by decide) (by kernel_rfl)) s102
            have g103 := get_eqS (hD 5 103 (by decide) (by kernel_rfl)) s103
            have g104 := get_eqS (hD 6 104 (by decide) (by kernel_rfl)) s104
            have g105 := get_eqS (hD 7 105 (by decide) (by kernel_rfl)) s105
            have g106 := get_eqS (hD 8 106 (by decide) (by kernel_rfl)) s106
            have g107 := get_eqS (hD 9 107 (by decide) (by kernel_rfl)) s107
            have g108 := get_eqS (hD 10 108 (by decide) (by kernel_rfl)) s108
            have g109 := get_eqS (hD 11 109 (by decide) (by kernel_rfl)) s109
            have g110 := get_eqS (hD 12 110 (by decide) (by kernel_rfl)) s110
            have g111 := get_eqS (hD 13 111 (by decide) (by kernel_rfl)) s111
            have g112 := get_eqS (hD 14 112 (by decide) (by kernel_rfl)) s112
            have hT := conc [(98, .int .i64 1), (99, .pointer (some ⟨b13, 2, none⟩)), (100, .agg #[.int .i64 a1, .int .i64 b1]), (101, .int .i64 0), (102, .pointer (some ⟨b13, 0, none⟩)), (103, .agg #[.int .i64 X, .int .i64 Y]), (104, .int .i64 (farI a1 b1 X Y)), (105, .int .i64 1), (106, .pointer (some ⟨b14, 2, none⟩)), (107, .agg #[.int .i64 a1p, .int .i64 b1p]), (108, .int .i64 0), (109, .pointer (some ⟨b14, 0, none⟩)), (110, .agg #[.int .i64 X, .int .i64 Y]), (111, .int .i64 (farI a1 b1 X Y)), (112, .bool false)] hs hF (by simp only [List.forall_mem_cons]; exact ⟨g98, g99, g100, g101, g102, g103, g104, g105, g106, g107, g108, g109, g110, g111, g112, fun p hp => absurd hp List.not_mem_nil⟩) (by kernel_rfl)
            simp only [List.foldl, List.setIfInBounds_toArray, List.set_cons_succ, List.set_cons_zero] at hT
            subst hT
            clear hF hD hs g98 g99 g100 g101 g102 g103 g104 g105 g106 g107 g108 g109 g110 g111 g112 s98 s99 s100 s101 s102 s103 s104 s105 s106 s107 s108 s109 s110 s111 s112
            replace H13 := Lib.hid (blk_call H13.out hb8)
            replace H14 := Lib.hid (blk_call H14.out hb8)
            replace H15 := Lib.hid (blk_call H15.out hb8)
            replace H16 := Lib.hid (blk_call H16.out hb8)
            replace RG := Lib.hid (prow_below RG.out hb8)
            replace RM := Lib.hid (prow_below RM.out hb8)
            replace B := Lib.hid (belT B.out hb8)
            replace TT := Lib.hid (Tab.below TT.out hb8)
            clear hb8
            go_wp2_with fail
            rw [rounds_succ]
            go_wp2_with fail
            rw [rounds_succ]
            go_wp2_with fail
            refine wp_loop_rounds 3 ?_
            rw [rounds_succ]
            go_wp2_with fail
            obtain ⟨sp, hsp⟩ : ∃ sp : ToldS, sp = [none, none, none, none, none, none, none, none, none, none, none, none, none, none, none, none, none, none, none, none, none, none, none, none, none, none, none, none, none, none, none, none, none, none, none, none, none, none, none, none, none, none, none, none, none, none, none, none, none, none, none, none, none, none, none, none, none, none, none, none, none, none, none, none, none, none, none, none, none, none, none, none, none, none, none, none, none, none, none, none, none, none, none, none, none, none, none, none, none, none, none, none, none, none, none, none, none, none, some (eqS (.int .i64 2)), some (eqS (.pointer (some ⟨b13, 4, none⟩))), some (eqS (.agg #[.int .i64 a2, .int .i64 b2])), some (eqS (.int .i64 0)), some (eqS (.pointer (some ⟨b13, 0, none⟩))), some (eqS (.agg #[.int .i64 X, .int .i64 Y])), some (eqS (.int .i64 (farI a2 b2 X Y))), some (eqS (.int .i64 2)), some (eqS (.pointer (some ⟨b14, 4, none⟩))), some (eqS (.agg #[.int .i64 a2p, .int .i64 b2p])), some (eqS (.int .i64 0)), some (eqS (.pointer (some ⟨b14, 0, none⟩))), some (eqS (.agg #[.int .i64 X, .int .i64 Y])), some (eqS (.int .i64 (farI a2 b2 X Y))), some (eqS (.bool false))] := ⟨_, rfl⟩
            have s98 : sp.getD 98 none = some (eqS (.int .i64 2)) := by rw [hsp]; rfl
            have s99 : sp.getD 99 none = some (eqS (.pointer (some ⟨b13, 4, none⟩))) := by rw [hsp]; rfl
            have s100 : sp.getD 100 none = some (eqS (.agg #[.int .i64 a2, .int .i64 b2])) := by rw [hsp]; rfl
            have s101 : sp.getD 101 none = some (eqS (.int .i64 0)) := by rw [hsp]; rfl
            have s102 : sp.getD 102 none = some (eqS (.pointer (some ⟨b13, 0, none⟩))) := by rw [hsp]; rfl
            have s103 : sp.getD 103 none = some (eqS (.agg #[.int .i64 X, .int .i64 Y])) := by rw [hsp]; rfl
            have s104 : sp.getD 104 none = some (eqS (.int .i64 (farI a2 b2 X Y))) := by rw [hsp]; rfl
            have s105 : sp.getD 105 none = some (eqS (.int .i64 2)) := by rw [hsp]; rfl
            have s106 : sp.getD 106 none = some (eqS (.pointer (some ⟨b14, 4, none⟩))) := by rw [hsp]; rfl
            have s107 : sp.getD 107 none = some (eqS (.agg #[.int .i64 a2p, .int .i64 b2p])) := by rw [hsp]; rfl
            have s108 : sp.getD 108 none = some (eqS (.int .i64 0)) := by rw [hsp]; rfl
            have s109 : sp.getD 109 none = some (eqS (.pointer (some ⟨b14, 0, none⟩))) := by rw [hsp]; rfl
            have s110 : sp.getD 110 none = some (eqS (.agg #[.int .i64 X, .int .i64 Y])) := by rw [hsp]; rfl
            have s111 : sp.getD 111 none = some (eqS (.int .i64 (farI a2 b2 X Y))) := by rw [hsp]; rfl
            have s112 : sp.getD 112 none = some (eqS (.bool false)) := by rw [hsp]; rfl
            clear hsp
            refine (wpIn_wide (n := 0)).1 (region_allR (RtS sp) (rtS_keep sp) rfl rfl rfl (by kernel_rfl) (by kernel_rfl) (by kernel_rfl) ?_ ?_)
            · intro Q'
              refine obsR_cons ?_ ?_
              · intro T wx K hB hF hD hK
                have g18 : T[18]? = some (.int .i64 2) := hF 18 (freeM_of (by kernel_rfl))
                refine ob_yes (wanted_none rfl) ?_
                clear hF hD
                go_simp
                exact hK _ _ (Below.refl _ _) (rt_eqS s98)
              refine obsR_cons ?_ ?_
              · intro T wx K hB hF hD hK
                have g13 : T[13]? = some (.pointer (some ⟨b13, 0, none⟩)) := hF 13 (freeM_of (by kernel_rfl))
                have g98 := get_eqS (hD 0 98 (by simp [Region.binds]) (by kernel_rfl)) s98
                refine ob_yes (wanted_none rfl) ?_
                clear hF hD
                go_simp
                exact hK _ _ (Below.refl _ _) (rt_eqS s99)
              refine obsR_cons ?_ ?_
              · intro T wx K hB hF hD hK
                have g99 := get_eqS (hD 1 99 (by simp [Region.binds]) (by kernel_rfl)) s99
                refine ob_yes (wanted_none rfl) ?_
                clear hF hD
                have c0 := blk_cell (blk_call H13.out hB) 4 _ rfl
                have c1 := blk_cell (blk_call H13.out hB) 5 _ rfl
                go_simp
                exact hK _ _ (Below.refl _ _) (rt_eqS s100)
              refine obsR_cons ?_ ?_
              · intro T wx K hB hF hD hK
                have g19 : T[19]? = some (.int .i64 0) := hF 19 (freeM_of (by kernel_rfl))
                refine ob_yes (wanted_none rfl) ?_
                clear hF hD
                go_simp
                exact hK _ _ (Below.refl _ _) (rt_eqS s101)
              refine obsR_cons ?_ ?_
              · intro T wx K hB hF hD hK
                have g13 : T[13]? = some (.pointer (some ⟨b13, 0, none⟩)) := hF 13 (freeM_of (by kernel_rfl))
                have g101 := get_eqS (hD 3 101 (by simp [Region.binds]) (by kernel_rfl)) s101
                refine ob_yes (wanted_none rfl) ?_
                clear hF hD
                go_simp
                exact hK _ _ (Below.refl _ _) (rt_eqS s102)
              refine obsR_cons ?_ ?_
              · intro T wx K hB hF hD hK
                have g102 := get_eqS (hD 4 102 (by simp [Region.binds]) (by kernel_rfl)) s102
                refine ob_yes (wanted_none rfl) ?_
                clear hF hD
                have c0 := blk_cell (blk_call H13.out hB) 0 _ rfl
                have c1 := blk_cell (blk_call H13.out hB) 1 _ rfl
                go_simp
                exact hK _ _ (Below.refl _ _) (rt_eqS s103)
              refine obsR_cons ?_ ?_
              · intro T wx K hB hF hD hK
                have g100 := get_eqS (hD 2 100 (by simp [Region.binds]) (by kernel_rfl)) s100
                have g103 := get_eqS (hD 5 103 (by simp [Region.binds]) (by kernel_rfl)) s103
                refine ob_yes (wanted_none rfl) ?_
                clear hF hD
                go_simp
                refine (lfar_is a2 b2 X Y (farI a2 b2 X Y) _ (Lib.hid rfl) (by have := PB.out.2.2.1; have := WB.out; omega) (by have := PB.out.2.2.1; have := WB.out; omega) (by have := PB.out.1; have := WB.out; omega) (by have := PB.out.1; have := WB.out; omega)).mono ?_; rintro e w9 ⟨rfl, hb⟩
                exact hK _ _ hb (rt_eqS s104)
              refine obsR_cons ?_ ?_
              · intro T wx K hB hF hD hK
                have g18 : T[18]? = some (.int .i64 2) := hF 18 (freeM_of (by kernel_rfl))
                refine ob_yes (wanted_none rfl) ?_
                clear hF hD
                go_simp
                exact hK _ _ (Below.refl _ _) (rt_eqS s105)
              refine obsR_cons ?_ ?_
              · intro T wx K hB hF hD hK
                have g14 : T[14]? = some (.pointer (some ⟨b14, 0, none⟩)) := hF 14 (freeM_of (by kernel_rfl))
                have g105 := get_eqS (hD 7 105 (by simp [Region.binds]) (by kernel_rfl)) s105
                refine ob_yes (wanted_none rfl) ?_
                clear hF hD
                go_simp
                exact hK _ _ (Below.refl _ _) (rt_eqS s106)
              refine obsR_cons ?_ ?_
              · intro T wx K hB hF hD hK
                have g106 := get_eqS (hD 8 106 (by simp [Region.binds]) (by kernel_rfl)) s106
                refine ob_yes (wanted_none rfl) ?_
                clear hF hD
                have c0 := blk_cell (blk_call H14.out hB) 4 _ rfl
                have c1 := blk_cell (blk_call H14.out hB) 5 _ rfl
                go_simp
                exact hK _ _ (Below.refl _ _) (rt_eqS s107)
              refine obsR_cons ?_ ?_
              · intro T wx K hB hF hD hK
                have g19 : T[19]? = some (.int .i64 0) := hF 19 (freeM_of (by kernel_rfl))
                refine ob_yes (wanted_none rfl) ?_
                clear hF hD
                go_simp
                exact hK _ _ (Below.refl _ _) (rt_eqS s108)
              refine obsR_cons ?_ ?_
              · intro T wx K hB hF hD hK
                have g14 : T[14]? = some (.pointer (some ⟨b14, 0, none⟩)) := hF 14 (freeM_of (by kernel_rfl))
                have g108 := get_eqS (hD 10 108 (by simp [Region.binds]) (by kernel_rfl)) s108
                refine ob_yes (wanted_none rfl) ?_
                clear hF hD
                go_simp
                exact hK _ _ (Below.refl _ _) (rt_eqS s109)
              refine obsR_cons ?_ ?_
              · intro T wx K hB hF hD hK
                have g109 := get_eqS (hD 11 109 (by simp [Region.binds]) (by kernel_rfl)) s109
                refine ob_yes (wanted_none rfl) ?_
                clear hF hD
                have c0 := blk_cell (blk_call H14.out hB) 0 _ rfl
                have c1 := blk_cell (blk_call H14.out hB) 1 _ rfl
                go_simp
                exact hK _ _ (Below.refl _ _) (rt_eqS s110)
              refine obsR_cons ?_ ?_
              · intro T wx K hB hF hD hK
                have g107 := get_eqS (hD 9 107 (by simp [Region.binds]) (by kernel_rfl)) s107
                have g110 := get_eqS (hD 12 110 (by simp [Region.binds]) (by kernel_rfl)) s110
                refine ob_yes (wanted_none rfl) ?_
                clear hF hD
                go_simp
                refine (lfar_is a2p b2p X Y (farI a2 b2 X Y) _ (Lib.hid CH.out.2.1) (by have := PBq.out.2.2.1; have := WB.out; omega) (by have := PBq.out.2.2.1; have := WB.out; omega) (by have := PBq.out.1; have := WB.out; omega) (by have := PBq.out.1; have := WB.out; omega)).mono ?_; rintro e w9 ⟨rfl, hb⟩
                exact hK _ _ hb (rt_eqS s111)
              refine obsR_cons ?_ ?_
              · intro T wx K hB hF hD hK
                have g104 := get_eqS (hD 6 104 (by simp [Region.binds]) (by kernel_rfl)) s104
                have g111 := get_eqS (hD 13 111 (by simp [Region.binds]) (by kernel_rfl)) s111
                refine ob_yes (wanted_none rfl) ?_
                clear hF hD
                go_simp
                exact hK _ _ (Below.refl _ _) (rt_eqS s112)
              exact obsR_nil
            · intro S3 U3 hb8 hF hs hD
              have g98 := get_eqS (hD 0 98 (by decide) (by kernel_rfl)) s98
              have g99 := get_eqS (hD 1 99 (by decide) (by kernel_rfl)) s99
              have g100 := get_eqS (hD 2 100 (by decide) (by kernel_rfl)) s100
              have g101 := get_eqS (hD 3 101 (by decide) (by kernel_rfl)) s101
              have g102 := get_eqS (hD 4 102 (by decide) (by kernel_rfl)) s102
              have g103 := get_eqS (hD 5 103 (by decide) (by kernel_rfl)) s103
              have g104 := get_eqS (hD 6 104 (by decide) (by kernel_rfl)) s104
              have g105 := get_eqS (hD 7 105 (by decide) (by kernel_rfl)) s105
              have g106 := get_eqS (hD 8 106 (by decide) (by kernel_rfl)) s106
              have g107 := get_eqS (hD 9 107 (by decide) (by kernel_rfl)) s107
              have g108 := get_eqS (hD 10 108 (by decide) (by kernel_rfl)) s108
              have g109 := get_eqS (hD 11 109 (by decide) (by kernel_rfl)) s109
              have g110 := get_eqS (hD 12 110 (by decide) (by kernel_rfl)) s110
              have g111 := get_eqS (hD 13 111 (by decide) (by kernel_rfl)) s111
              have g112 := get_eqS (hD 14 112 (by decide) (by kernel_rfl)) s112
              have hT := conc [(98, .int .i64 2), (99, .pointer (some ⟨b13, 4, none⟩)), (100, .agg #[.int .i64 a2, .int .i64 b2]), (101, .int .i64 0), (102, .pointer (some ⟨b13, 0, none⟩)), (103, .agg #[.int .i64 X, .int .i64 Y]), (104, .int .i64 (farI a2 b2 X Y)), (105, .int .i64 2), (106, .pointer (some ⟨b14, 4, none⟩)), (107, .agg #[.int .i64 a2p, .int .i64 b2p]), (108, .int .i64 0), (109, .pointer (some ⟨b14, 0, none⟩)), (110, .agg #[.int .i64 X, .int .i64 Y]), (111, .int .i64 (farI a2 b2 X Y)), (112, .bool false)] hs hF (by simp only [List.forall_mem_cons]; exact ⟨g98, g99, g100, g101, g102, g103, g104, g105, g106, g107, g108, g109, g110, g111, g112, fun p hp => absurd hp List.not_mem_nil⟩) (by kernel_rfl)
              simp only [List.foldl, List.setIfInBounds_toArray, List.set_cons_succ, List.set_cons_zero] at hT
              subst hT
              clear hF hD hs g98 g99 g100 g101 g102 g103 g104 g105 g106 g107 g108 g109 g110 g111 g112 s98 s99 s100 s101 s102 s103 s104 s105 s106 s107 s108 s109 s110 s111 s112
              replace H13 := Lib.hid (blk_call H13.out hb8)
              replace H14 := Lib.hid (blk_call H14.out hb8)
              replace H15 := Lib.hid (blk_call H15.out hb8)
              replace H16 := Lib.hid (blk_call H16.out hb8)
              replace RG := Lib.hid (prow_below RG.out hb8)
              replace RM := Lib.hid (prow_below RM.out hb8)
              replace B := Lib.hid (belT B.out hb8)
              replace TT := Lib.hid (Tab.below TT.out hb8)
              clear hb8
              go_wp2_with fail
              rw [rounds_succ]
              go_wp2_with fail
              obtain ⟨sp, hsp⟩ : ∃ sp : ToldS, sp = [none, none, none, none, none, none, none, none, none, none, none, none, none, none, none, none, none, none, none, none, none, none, none, none, none, none, none, none, none, none, none, none, none, none, none, none, none, none, none, none, none, none, none, none, none, none, none, none, none, none, none, none, none, none, none, none, none, none, none, none, none, none, none, none, none, none, none, none, none, none, none, none, none, none, none, none, none, none, none, none, none, none, none, none, none, none, none, none, none, none, none, none, none, none, none, none, none, none, some (eqS (.int .i64 2)), some (eqS (.pointer (some ⟨b13, 4, none⟩))), some (eqS (.agg #[.int .i64 a2, .int .i64 b2])), some (eqS (.int .i64 1)), some (eqS (.pointer (some ⟨b13, 2, none⟩))), some (eqS (.agg #[.int .i64 a1, .int .i64 b1])), some (eqS (.int .i64 (farI a2 b2 a1 b1))), some (eqS (.int .i64 2)), some (eqS (.pointer (some ⟨b14, 4, none⟩))), some (eqS (.agg #[.int .i64 a2p, .int .i64 b2p])), some (eqS (.int .i64 1)), some (eqS (.pointer (some ⟨b14, 2, none⟩))), some (eqS (.agg #[.int .i64 a1p, .int .i64 b1p])), some (eqS (.int .i64 (farI a2 b2 a1 b1))), some (eqS (.bool false))] := ⟨_, rfl⟩
              have s98 : sp.getD 98 none = some (eqS (.int .i64 2)) := by rw [hsp]; rfl
              have s99 : sp.getD 99 none = some (eqS (.pointer (some ⟨b13, 4, none⟩))) := by rw [hsp]; rfl
              have s100 : sp.getD 100 none = some (eqS (.agg #[.int .i64 a2, .int .i64 b2])) := by rw [hsp]; rfl
              have s101 : sp.getD 101 none = some (eqS (.int .i64 1)) := by rw [hsp]; rfl
              have s102 : sp.getD 102 none = some (eqS (.pointer (some ⟨b13, 2, none⟩))) := by rw [hsp]; rfl
              have s103 : sp.getD 103 none = some (eqS (.agg #[.int .i64 a1, .int .i64 b1])) := by rw [hsp]; rfl
              have s104 : sp.getD 104 none = some (eqS (.int .i64 (farI a2 b2 a1 b1))) := by rw [hsp]; rfl
              have s105 : sp.getD 105 none = some (eqS (.int .i64 2)) := by rw [hsp]; rfl
              have s106 : sp.getD 106 none = some (eqS (.pointer (some ⟨b14, 4, none⟩))) := by rw [hsp]; rfl
              have s107 : sp.getD 107 none = some (eqS (.agg #[.int .i64 a2p, .int .i64 b2p])) := by rw [hsp]; rfl
              have s108 : sp.getD 108 none = some (eqS (.int .i64 1)) := by rw [hsp]; rfl
              have s109 : sp.getD 109 none = some (eqS (.pointer (some ⟨b14, 2, none⟩))) := by rw [hsp]; rfl
              have s110 : sp.getD 110 none = some (eqS (.agg #[.int .i64 a1p, .int .i64 b1p])) := by rw [hsp]; rfl
              have s111 : sp.getD 111 none = some (eqS (.int .i64 (farI a2 b2 a1 b1))) := by rw [hsp]; rfl
              have s112 : sp.getD 112 none = some (eqS (.bool false)) := by rw [hsp]; rfl
              clear hsp
              refine (wpIn_wide (n := 0)).1 (region_allR (RtS sp) (rtS_keep sp) rfl rfl rfl (by kernel_rfl) (by kernel_rfl) (by kernel_rfl) ?_ ?_)
              · intro Q'
                refine obsR_cons ?_ ?_
                · intro T wx K hB hF hD hK
                  have g18 : T[18]? = some (.int .i64 2) := hF 18 (freeM_of (by kernel_rfl))
                  refine ob_yes (wanted_none rfl) ?_
                  clear hF hD
                  go_simp
                  exact hK _ _ (Below.refl _ _) (rt_eqS s98)
                refine obsR_cons ?_ ?_
                · intro T wx K hB hF hD hK
                  have g13 : T[13]? = some (.pointer (some ⟨b13, 0, none⟩)) := hF 13 (freeM_of (by kernel_rfl))
                  have g98 := get_eqS (hD 0 98 (by simp [Region.binds]) (by kernel_rfl)) s98
                  refine ob_yes (wanted_none rfl) ?_
                  clear hF hD
                  go_simp
                  exact hK _ _ (Below.refl _ _) (rt_eqS s99)
                refine obsR_cons ?_ ?_
                · intro T wx K hB hF hD hK
                  have g99 := get_eqS (hD 1 99 (by simp [Region.binds]) (by kernel_rfl)) s99
                  refine ob_yes (wanted_none rfl) ?_
                  clear hF hD
                  have c0 := blk_cell (blk_call H13.out hB) 4 _ rfl
                  have c1 := blk_cell (blk_call H13.out hB) 5 _ rfl
                  go_simp
                  exact hK _ _ (Below.refl _ _) (rt_eqS s100)
                refine obsR_cons ?_ ?_
                · intro T wx K hB hF hD hK
                  have g19 : T[19]? = some (.int .i64 1) := hF 19 (freeM_of (by kernel_rfl))
                  refine ob_yes (wanted_none rfl) ?_
                  clear hF hD
                  go_simp
                  exact hK _ _ (Below.refl _ _) (rt_eqS s101)
                refine obsR_cons ?_ ?_
                · intro T wx K hB hF hD hK
                  have g13 : T[13]? = some (.pointer (some ⟨b13, 0, none⟩)) := hF 13 (freeM_of (by kernel_rfl))
                  have g101 := get_eqS (hD 3 101 (by simp [Region.binds]) (by kernel_rfl)) s101
                  refine ob_yes (wanted_none rfl) ?_
                  clear hF hD
                  go_simp
                  exact hK _ _ (Below.refl _ _) (rt_eqS s102)
                refine obsR_cons ?_ ?_
                · intro T wx K hB hF hD hK
                  have g102 := get_eqS (hD 4 102 (by simp [Region.binds]) (by kernel_rfl)) s102
                  refine ob_yes (wanted_none rfl) ?_
                  clear hF hD
                  have c0 := blk_cell (blk_call H13.out hB) 2 _ rfl
                  have c1 := blk_cell (blk_call H13.out hB) 3 _ rfl
                  go_simp
                  exact hK _ _ (Below.refl _ _) (rt_eqS s103)
                refine obsR_cons ?_ ?_
                · intro T wx K hB hF hD hK
                  have g100 := get_eqS (hD 2 100 (by simp [Region.binds]) (by kernel_rfl)) s100
                  have g103 := get_eqS (hD 5 103 (by simp [Region.binds]) (by kernel_rfl)) s103
                  refine ob_yes (wanted_none rfl) ?_
                  clear hF hD
                  go_simp
                  refine (lfar_is a2 b2 a1 b1 (farI a2 b2 a1 b1) _ (Lib.hid rfl) (by have := PB.out.2.2.1; have := WB.out; omega) (by have := PB.out.2.2.1; have := WB.out; omega) (by have := PB.out.2.1; have := WB.out; omega) (by have := PB.out.2.1; have := WB.out; omega)).mono ?_; rintro e w9 ⟨rfl, hb⟩
                  exact hK _ _ hb (rt_eqS s104)
                refine obsR_cons ?_ ?_
                · intro T wx K hB hF hD hK
                  have g18 : T[18]? = some (.int .i64 2) := hF 18 (freeM_of (by kernel_rfl))
                  refine ob_yes (wanted_none rfl) ?_
                  clear hF hD
                  go_simp
                  exact hK _ _ (Below.refl _ _) (rt_eqS s105)
                refine obsR_cons ?_ ?_
                · intro T wx K hB hF hD hK
                  have g14 : T[14]? = some (.pointer (some ⟨b14, 0, none⟩)) := hF 14 (freeM_of (by kernel_rfl))
                  have g105 := get_eqS (hD 7 105 (by simp [Region.binds]) (by kernel_rfl)) s105
                  refine ob_yes (wanted_none rfl) ?_
                  clear hF hD
                  go_simp
                  exact hK _ _ (Below.refl _ _) (rt_eqS s106)
                refine obsR_cons ?_ ?_
                · intro T wx K hB hF hD hK
                  have g106 := get_eqS (hD 8 106 (by simp [Region.binds]) (by kernel_rfl)) s106
                  refine ob_yes (wanted_none rfl) ?_
                  clear hF hD
                  have c0 := blk_cell (blk_call H14.out hB) 4 _ rfl
                  have c1 := blk_cell (blk_call H14.out hB) 5 _ rfl
                  go_simp
                  exact hK _ _ (Below.refl _ _) (rt_eqS s107)
                refine obsR_cons ?_ ?_
                · intro T wx K hB hF hD hK
                  have g19 : T[19]? = some (.int .i64 1) := hF 19 (freeM_of (by kernel_rfl))
                  refine ob_yes (wanted_none rfl) ?_
                  clear hF hD
                  go_simp
                  exact hK _ _ (Below.refl _ _) (rt_eqS s108)
                refine obsR_cons ?_ ?_
                · intro T wx K hB hF hD hK
                  have g14 : T[14]? = some (.pointer (some ⟨b14, 0, none⟩)) := hF 14 (freeM_of (by kernel_rfl))
                  have g108 := get_eqS (hD 10 108 (by simp [Region.binds]) (by kernel_rfl)) s108
                  refine ob_yes (wanted_none rfl) ?_
                  clear hF hD
                  go_simp
                  exact hK _ _ (Below.refl _ _) (rt_eqS s109)
                refine obsR_cons ?_ ?_
                · intro T wx K hB hF hD hK
                  have g109 := get_eqS (hD 11 109 (by simp [Region.binds]) (by kernel_rfl)) s109
                  refine ob_yes (wanted_none rfl) ?_
                  clear hF hD
                  have c0 := blk_cell (blk_call H14.out hB) 2 _ rfl
                  have c1 := blk_cell (blk_call H14.out hB) 3 _ rfl
                  go_simp
                  exact hK _ _ (Below.refl _ _) (rt_eqS s110)
                refine obsR_cons ?_ ?_
                · intro T wx K hB hF hD hK
                  have g107 := get_eqS (hD 9 107 (by simp [Region.binds]) (by kernel_rfl)) s107
                  have g110 := get_eqS (hD 12 110 (by simp [Region.binds]) (by kernel_rfl)) s110
                  refine ob_yes (wanted_none rfl) ?_
                  clear hF hD
                  go_simp
                  refine (lfar_is a2p b2p a1p b1p (farI a2 b2 a1 b1) _ (Lib.hid CH.out.2.2.1) (by have := PBq.out.2.2.1; have := WB.out; omega) (by have := PBq.out.2.2.1; have := WB.out; omega) (by have := PBq.out.2.1; have := WB.out; omega) (by have := PBq.out.2.1; have := WB.out; omega)).mono ?_; rintro e w9 ⟨rfl, hb⟩
                  exact hK _ _ hb (rt_eqS s111)
                refine obsR_cons ?_ ?_
                · intro T wx K hB hF hD hK
                  have g104 := get_eqS (hD 6 104 (by simp [Region.binds]) (by kernel_rfl)) s104
                  have g111 := get_eqS (hD 13 111 (by simp [Region.binds]) (by kernel_rfl)) s111
                  refine ob_yes (wanted_none rfl) ?_
                  clear hF hD
                  go_simp
                  exact hK _ _ (Below.refl _ _) (rt_eqS s112)
                exact obsR_nil
              · intro S4 U4 hb8 hF hs hD
                have g98 := get_eqS (hD 0 98 (by decide) (by kernel_rfl)) s98
                have g99 := get_eqS (hD 1 99 (by decide) (by kernel_rfl)) s99
                have g100 := get_eqS (hD 2 100 (by decide) (by kernel_rfl)) s100
                have g101 := get_eqS (hD 3 101 (by decide) (by kernel_rfl)) s101
                have g102 := get_eqS (hD 4 102 (by decide) (by kernel_rfl)) s102
                have g103 := get_eqS (hD 5 103 (by decide) (by kernel_rfl)) s103
                have g104 := get_eqS (hD 6 104 (by decide) (by kernel_rfl)) s104
                have g105 := get_eqS (hD 7 105 (by decide) (by kernel_rfl)) s105
                have g106 := get_eqS (hD 8 106 (by decide) (by kernel_rfl)) s106
                have g107 := get_eqS (hD 9 107 (by decide) (by kernel_rfl)) s107
                have g108 := get_eqS (hD 10 108 (by decide) (by kernel_rfl)) s108
                have g109 := get_eqS (hD 11 109 (by decide) (by kernel_rfl)) s109
                have g110 := get_eqS (hD 12 110 (by decide) (by kernel_rfl)) s110
                have g111 := get_eqS (hD 13 111 (by decide) (by kernel_rfl)) s111
                have g112 := get_eqS (hD 14 112 (by decide) (by kernel_rfl)) s112
                have hT := conc [(98, .int .i64 2), (99, .pointer (some ⟨b13, 4, none⟩)), (100, .agg #[.int .i64 a2, .int .i64 b2]), (101, .int .i64 1), (102, .pointer (some ⟨b13, 2, none⟩)), (103, .agg #[.int .i64 a1, .int .i64 b1]), (104, .int .i64 (farI a2 b2 a1 b1)), (105, .int .i64 2), (106, .pointer (some ⟨b14, 4, none⟩)), (107, .agg #[.int .i64 a2p, .int .i64 b2p]), (108, .int .i64 1), (109, .pointer (some ⟨b14, 2, none⟩)), (110, .agg #[.int .i64 a1p, .int .i64 b1p]), (111, .int .i64 (farI a2 b2 a1 b1)), (112, .bool false)] hs hF (by simp only [List.forall_mem_cons]; exact ⟨g98, g99, g100, g101, g102, g103, g104, g105, g106, g107, g108, g109, g110, g111, g112, fun p hp => absurd hp List.not_mem_nil⟩) (by kernel_rfl)
                simp only [List.foldl, List.setIfInBounds_toArray, List.set_cons_succ, List.set_cons_zero] at hT
                subst hT
                clear hF hD hs g98 g99 g100 g101 g102 g103 g104 g105 g106 g107 g108 g109 g110 g111 g112 s98 s99 s100 s101 s102 s103 s104 s105 s106 s107 s108 s109 s110 s111 s112
                replace H13 := Lib.hid (blk_call H13.out hb8)
                replace H14 := Lib.hid (blk_call H14.out hb8)
                replace H15 := Lib.hid (blk_call H15.out hb8)
                replace H16 := Lib.hid (blk_call H16.out hb8)
                replace RG := Lib.hid (prow_below RG.out hb8)
                replace RM := Lib.hid (prow_below RM.out hb8)
                replace B := Lib.hid (belT B.out hb8)
                replace TT := Lib.hid (Tab.below TT.out hb8)
                clear hb8
                go_wp2_with fail
                rw [rounds_succ]
                go_wp2_with fail
                rw [rounds_succ]
                go_wp2_with fail
                refine wp_loop_rounds 4 ?_
                rw [rounds_succ]
                go_wp2_with fail
                obtain ⟨sp, hsp⟩ : ∃ sp : ToldS, sp = [none, none, none, none, none, none, none, none, none, none, none, none, none, none, none, none, none, none, none, none, none, none, none, none, none, none, none, none, none, none, none, none, none, none, none, none, none, none, none, none, none, none, none, none, none, none, none, none, none, none, none, none, none, none, none, none, none, none, none, none, none, none, none, none, none, none, none, none, none, none, none, none, none, none, none, none, none, none, none, none, none, none, none, none, none, none, none, none, none, none, none, none, none, none, none, none, none, none, some (eqS (.int .i64 3)), some (eqS (.pointer (some ⟨b13, 6, none⟩))), some (eqS (.agg #[.int .i64 a3, .int .i64 b3])), some (eqS (.int .i64 0)), some (eqS (.pointer (some ⟨b13, 0, none⟩))), some (eqS (.agg #[.int .i64 X, .int .i64 Y])), some (eqS (.int .i64 (farI a3 b3 X Y))), some (eqS (.int .i64 3)), some (eqS (.pointer (some ⟨b14, 6, none⟩))), some (eqS (.agg #[.int .i64 a3p, .int .i64 b3p])), some (eqS (.int .i64 0)), some (eqS (.pointer (some ⟨b14, 0, none⟩))), some (eqS (.agg #[.int .i64 X, .int .i64 Y])), some (eqS (.int .i64 (farI a3 b3 X Y))), some (eqS (.bool false))] := ⟨_, rfl⟩
                have s98 : sp.getD 98 none = some (eqS (.int .i64 3)) := by rw [hsp]; rfl
                have s99 : sp.getD 99 none = some (eqS (.pointer (some ⟨b13, 6, none⟩))) := by rw [hsp]; rfl
                have s100 : sp.getD 100 none = some (eqS (.agg #[.int .i64 a3, .int .i64 b3])) := by rw [hsp]; rfl
                have s101 : sp.getD 101 none = some (eqS (.int .i64 0)) := by rw [hsp]; rfl
                have s102 : sp.getD 102 none = some (eqS (.pointer (some ⟨b13, 0, none⟩))) := by rw [hsp]; rfl
                have s103 : sp.getD 103 none = some (eqS (.agg #[.int .i64 X, .int .i64 Y])) := by rw [hsp]; rfl
                have s104 : sp.getD 104 none = some (eqS (.int .i64 (farI a3 b3 X Y))) := by rw [hsp]; rfl
                have s105 : sp.getD 105 none = some (eqS (.int .i64 3)) := by rw [hsp]; rfl
                have s106 : sp.getD 106 none = some (eqS (.pointer (some ⟨b14, 6, none⟩))) := by rw [hsp]; rfl
                have s107 : sp.getD 107 none = some (eqS (.agg #[.int .i64 a3p, .int .i64 b3p])) := by rw [hsp]; rfl
                have s108 : sp.getD 108 none = some (eqS (.int .i64 0)) := by rw [hsp]; rfl
                have s109 : sp.getD 109 none = some (eqS (.pointer (some ⟨b14, 0, none⟩))) := by rw [hsp]; rfl
                have s110 : sp.getD 110 none = some (eqS (.agg #[.int .i64 X, .int .i64 Y])) := by rw [hsp]; rfl
                have s111 : sp.getD 111 none = some (eqS (.int .i64 (farI a3 b3 X Y))) := by rw [hsp]; rfl
                have s112 : sp.getD 112 none = some (eqS (.bool false)) := by rw [hsp]; rfl
                clear hsp
                refine (wpIn_wide (n := 0)).1 (region_allR (RtS sp) (rtS_keep sp) rfl rfl rfl (by kernel_rfl) (by kernel_rfl) (by kernel_rfl) ?_ ?_)
                · intro Q'
                  refine obsR_cons ?_ ?_
                  · intro T wx K hB hF hD hK
                    have g18 : T[18]? = some (.int .i64 3) := hF 18 (freeM_of (by kernel_rfl))
                    refine ob_yes (wanted_none rfl) ?_
                    clear hF hD
                    go_simp
                    exact hK _ _ (Below.refl _ _) (rt_eqS s98)
                  refine obsR_cons ?_ ?_
                  · intro T wx K hB hF hD hK
                    have g13 : T[13]? = some (.pointer (some ⟨b13, 0, none⟩)) := hF 13 (freeM_of (by kernel_rfl))
                    have g98 := get_eqS (hD 0 98 (by simp [Region.binds]) (by kernel_rfl)) s98
                    refine ob_yes (wanted_none rfl) ?_
                    clear hF hD
                    go_simp
                    exact hK _ _ (Below.refl _ _) (rt_eqS s99)
                  refine obsR_cons ?_ ?_
                  · intro T wx K hB hF hD hK
                    have g99 := get_eqS (hD 1 99 (by simp [Region.binds]) (by kernel_rfl)) s99
                    refine ob_yes (wanted_none rfl) ?_
                    clear hF hD
                    have c0 := blk_cell (blk_call H13.out hB) 6 _ rfl
                    have c1 := blk_cell (blk_call H13.out hB) 7 _ rfl
                    go_simp
                    exact hK _ _ (Below.refl _ _) (rt_eqS s100)
                  refine obsR_cons ?_ ?_
                  · intro T wx K hB hF hD hK
                    have g19 : T[19]? = some (.int .i64 0) := hF 19 (freeM_of (by kernel_rfl))
                    refine ob_yes (wanted_none rfl) ?_
                    clear hF hD
                    go_simp
                    exact hK _ _ (Below.refl _ _) (rt_eqS s101)
                  refine obsR_cons ?_ ?_
                  · intro T wx K hB hF hD hK
                    have g13 : T[13]? = some (.pointer (some ⟨b13, 0, none⟩)) := hF 13 (freeM_of (by kernel_rfl))
                    have g101 := get_eqS (hD 3 101 (by simp [Region.binds]) (by kernel_rfl)) s101
                    refine ob_yes (wanted_none rfl) ?_
                    clear hF hD
                    go_simp
                    exact hK _ _ (Below.refl _ _) (rt_eqS s102)
                  refine obsR_cons ?_ ?_
                  · intro T wx K hB hF hD hK
                    have g102 := get_eqS (hD 4 102 (by simp [Region.binds]) (by kernel_rfl)) s102
                    refine ob_yes (wanted_none rfl) ?_
                    clear hF hD
                    have c0 := blk_cell (blk_call H13.out hB) 0 _ rfl
                    have c1 := blk_cell (blk_call H13.out hB) 1 _ rfl
                    go_simp
                    exact hK _ _ (Below.refl _ _) (rt_eqS s103)
                  refine obsR_cons ?_ ?_
                  · intro T wx K hB hF hD hK
                    have g100 := get_eqS (hD 2 100 (by simp [Region.binds]) (by kernel_rfl)) s100
                    have g103 := get_eqS (hD 5 103 (by simp [Region.binds]) (by kernel_rfl)) s103
                    refine ob_yes (wanted_none rfl) ?_
                    clear hF hD
                    go_simp
                    refine (lfar_is a3 b3 X Y (farI a3 b3 X Y) _ (Lib.hid rfl) (by have := PB.out.2.2.2; have := WB.out; omega) (by have := PB.out.2.2.2; have := WB.out; omega) (by have := PB.out.1; have := WB.out; omega) (by have := PB.out.1; have := WB.out; omega)).mono ?_; rintro e w9 ⟨rfl, hb⟩
                    exact hK _ _ hb (rt_eqS s104)
                  refine obsR_cons ?_ ?_
                  · intro T wx K hB hF hD hK
                    have g18 : T[18]? = some (.int .i64 3) := hF 18 (freeM_of (by kernel_rfl))
                    refine ob_yes (wanted_none rfl) ?_
                    clear hF hD
                    go_simp
                    exact hK _ _ (Below.refl _ _) (rt_eqS s105)
                  refine obsR_cons ?_ ?_
                  · intro T wx K hB hF hD hK
                    have g14 : T[14]? = some (.pointer (some ⟨b14, 0, none⟩)) := hF 14 (freeM_of (by kernel_rfl))
                    have g105 := get_eqS (hD 7 105 (by simp [Region.binds]) (by kernel_rfl)) s105
                    refine ob_yes (wanted_none rfl) ?_
                    clear hF hD
                    go_simp
                    exact hK _ _ (Below.refl _ _) (rt_eqS s106)
                  refine obsR_cons ?_ ?_
                  · intro T wx K hB hF hD hK
                    have g106 := get_eqS (hD 8 106 (by simp [Region.binds]) (by kernel_rfl)) s106
                    refine ob_yes (wanted_none rfl) ?_
                    clear hF hD
                    have c0 := blk_cell (blk_call H14.out hB) 6 _ rfl
                    have c1 := blk_cell (blk_call H14.out hB) 7 _ rfl
                    go_simp
                    exact hK _ _ (Below.refl _ _) (rt_eqS s107)
                  refine obsR_cons ?_ ?_
                  · intro T wx K hB hF hD hK
                    have g19 : T[19]? = some (.int .i64 0) := hF 19 (freeM_of (by kernel_rfl))
                    refine ob_yes (wanted_none rfl) ?_
                    clear hF hD
                    go_simp
                    exact hK _ _ (Below.refl _ _) (rt_eqS s108)
                  refine obsR_cons ?_ ?_
                  · intro T wx K hB hF hD hK
                    have g14 : T[14]? = some (.pointer (some ⟨b14, 0, none⟩)) := hF 14 (freeM_of (by kernel_rfl))
                    have g108 := get_eqS (hD 10 108 (by simp [Region.binds]) (by kernel_rfl)) s108
                    refine ob_yes (wanted_none rfl) ?_
                    clear hF hD
                    go_simp
                    exact hK _ _ (Below.refl _ _) (rt_eqS s109)
                  refine obsR_cons ?_ ?_
                  · intro T wx K hB hF hD hK
                    have g109 := get_eqS (hD 11 109 (by simp [Region.binds]) (by kernel_rfl)) s109
                    refine ob_yes (wanted_none rfl) ?_
                    clear hF hD
                    have c0 := blk_cell (blk_call H14.out hB) 0 _ rfl
                    have c1 := blk_cell (blk_call H14.out hB) 1 _ rfl
                    go_simp
                    exact hK _ _ (Below.refl _ _) (rt_eqS s110)
                  refine obsR_cons ?_ ?_
                  · intro T wx K hB hF hD hK
                    have g107 := get_eqS (hD 9 107 (by simp [Region.binds]) (by kernel_rfl)) s107
                    have g110 := get_eqS (hD 12 110 (by simp [Region.binds]) (by kernel_rfl)) s110
                    refine ob_yes (wanted_none rfl) ?_
                    clear hF hD
                    go_simp
                    refine (lfar_is a3p b3p X Y (farI a3 b3 X Y) _ (Lib.hid CH.out.2.2.2.1) (by have := PBq.out.2.2.2; have := WB.out; omega) (by have := PBq.out.2.2.2; have := WB.out; omega) (by have := PBq.out.1; have := WB.out; omega) (by have := PBq.out.1; have := WB.out; omega)).mono ?_; rintro e w9 ⟨rfl, hb⟩
                    exact hK _ _ hb (rt_eqS s111)
                  refine obsR_cons ?_ ?_
                  · intro T wx K hB hF hD hK
                    have g104 := get_eqS (hD 6 104 (by simp [Region.binds]) (by kernel_rfl)) s104
                    have g111 := get_eqS (hD 13 111 (by simp [Region.binds]) (by kernel_rfl)) s111
                    refine ob_yes (wanted_none rfl) ?_
                    clear hF hD
                    go_simp
                    exact hK _ _ (Below.refl _ _) (rt_eqS s112)
                  exact obsR_nil
                · intro S5 U5 hb8 hF hs hD
                  have g98 := get_eqS (hD 0 98 (by decide) (by kernel_rfl)) s98
                  have g99 := get_eqS (hD 1 99 (by decide) (by kernel_rfl)) s99
                  have g100 := get_eqS (hD 2 100 (by decide) (by kernel_rfl)) s100
                  have g101 := get_eqS (hD 3 101 (by decide) (by kernel_rfl)) s101
                  have g102 := get_eqS (hD 4 102 (by decide) (by kernel_rfl)) s102
                  have g103 := get_eqS (hD 5 103 (by decide) (by kernel_rfl)) s103
                  have g104 := get_eqS (hD 6 104 (by decide) (by kernel_rfl)) s104
                  have g105 := get_eqS (hD 7 105 (by decide) (by kernel_rfl)) s105
                  have g106 := get_eqS (hD 8 106 (by decide) (by kernel_rfl)) s106
                  have g107 := get_eqS (hD 9 107 (by decide) (by kernel_rfl)) s107
                  have g108 := get_eqS (hD 10 108 (by decide) (by kernel_rfl)) s108
                  have g109 := get_eqS (hD 11 109 (by decide) (by kernel_rfl)) s109
                  have g110 := get_eqS (hD 12 110 (by decide) (by kernel_rfl)) s110
                  have g111 := get_eqS (hD 13 111 (by decide) (by kernel_rfl)) s111
                  have g112 := get_eqS (hD 14 112 (by decide) (by kernel_rfl)) s112
                  have hT := conc [(98, .int .i64 3), (99, .pointer (some ⟨b13, 6, none⟩)), (100, .agg #[.int .i64 a3, .int .i64 b3]), (101, .int .i64 0), (102, .pointer (some ⟨b13, 0, none⟩)), (103, .agg #[.int .i64 X, .int .i64 Y]), (104, .int .i64 (farI a3 b3 X Y)), (105, .int .i64 3), (106, .pointer (some ⟨b14, 6, none⟩)), (107, .agg #[.int .i64 a3p, .int .i64 b3p]), (108, .int .i64 0), (109, .pointer (some ⟨b14, 0, none⟩)), (110, .agg #[.int .i64 X, .int .i64 Y]), (111, .int .i64 (farI a3 b3 X Y)), (112, .bool false)] hs hF (by simp only [List.forall_mem_cons]; exact ⟨g98, g99, g100, g101, g102, g103, g104, g105, g106, g107, g108, g109, g110, g111, g112, fun p hp => absurd hp List.not_mem_nil⟩) (by kernel_rfl)
                  simp only [List.foldl, List.setIfInBounds_toArray, List.set_cons_succ, List.set_cons_zero] at hT
                  subst hT
                  clear hF hD hs g98 g99 g100 g101 g102 g103 g104 g105 g106 g107 g108 g109 g110 g111 g112 s98 s99 s100 s101 s102 s103 s104 s105 s106 s107 s108 s109 s110 s111 s112
                  replace H13 := Lib.hid (blk_call H13.out hb8)
                  replace H14 := Lib.hid (blk_call H14.out hb8)
                  replace H15 := Lib.hid (blk_call H15.out hb8)
                  replace H16 := Lib.hid (blk_call H16.out hb8)
                  replace RG := Lib.hid (prow_below RG.out hb8)
                  replace RM := Lib.hid (prow_below RM.out hb8)
                  replace B := Lib.hid (belT B.out hb8)
                  replace TT := Lib.hid (Tab.below TT.out hb8)
                  clear hb8
                  go_wp2_with fail
                  rw [rounds_succ]
                  go_wp2_with fail
                  obtain ⟨sp, hsp⟩ : ∃ sp : ToldS, sp = [none, none, none, none, none, none, none, none, none, none, none, none, none, none, none, none, none, none, none, none, none, none, none, none, none, none, none, none, none, none, none, none, none, none, none, none, none, none, none, none, none, none, none, none, none, none, none, none, none, none, none, none, none, none, none, none, none, none, none, none, none, none, none, none, none, none, none, none, none, none, none, none, none, none, none, none, none, none, none, none, none, none, none, none, none, none, none, none, none, none, none, none, none, none, none, none, none, none, some (eqS (.int .i64 3)), some (eqS (.pointer (some ⟨b13, 6, none⟩))), some (eqS (.agg #[.int .i64 a3, .int .i64 b3])), some (eqS (.int .i64 1)), some (eqS (.pointer (some ⟨b13, 2, none⟩))), some (eqS (.agg #[.int .i64 a1, .int .i64 b1])), some (eqS (.int .i64 (farI a3 b3 a1 b1))), some (eqS (.int .i64 3)), some (eqS (.pointer (some ⟨b14, 6, none⟩))), some (eqS (.agg #[.int .i64 a3p, .int .i64 b3p])), some (eqS (.int .i64 1)), some (eqS (.pointer (some ⟨b14, 2, none⟩))), some (eqS (.agg #[.int .i64 a1p, .int .i64 b1p])), some (eqS (.int .i64 (farI a3 b3 a1 b1))), some (eqS (.bool false))] := ⟨_, rfl⟩
                  have s98 : sp.getD 98 none = some (eqS (.int .i64 3)) := by rw [hsp]; rfl
                  have s99 : sp.getD 99 none = some (eqS (.pointer (some ⟨b13, 6, none⟩))) := by rw [hsp]; rfl
                  have s100 : sp.getD 100 none = some (eqS (.agg #[.int .i64 a3, .int .i64 b3])) := by rw [hsp]; rfl
                  have s101 : sp.getD 101 none = some (eqS (.int .i64 1)) := by rw [hsp]; rfl
                  have s102 : sp.getD 102 none = some (eqS (.pointer (some ⟨b13, 2, none⟩))) := by rw [hsp]; rfl
                  have s103 : sp.getD 103 none = some (eqS (.agg #[.int .i64 a1, .int .i64 b1])) := by rw [hsp]; rfl
                  have s104 : sp.getD 104 none = some (eqS (.int .i64 (farI a3 b3 a1 b1))) := by rw [hsp]; rfl
                  have s105 : sp.getD 105 none = some (eqS (.int .i64 3)) := by rw [hsp]; rfl
                  have s106 : sp.getD 106 none = some (eqS (.pointer (some ⟨b14, 6, none⟩))) := by rw [hsp]; rfl
                  have s107 : sp.getD 107 none = some (eqS (.agg #[.int .i64 a3p, .int .i64 b3p])) := by rw [hsp]; rfl
                  have s108 : sp.getD 108 none = some (eqS (.int .i64 1)) := by rw [hsp]; rfl
                  have s109 : sp.getD 109 none = some (eqS (.pointer (some ⟨b14, 2, none⟩))) := by rw [hsp]; rfl
                  have s110 : sp.getD 110 none = some (eqS (.agg #[.int .i64 a1p, .int .i64 b1p])) := by rw [hsp]; rfl
                  have s111 : sp.getD 111 none = some (eqS (.int .i64 (farI a3 b3 a1 b1))) := by rw [hsp]; rfl
                  have s112 : sp.getD 112 none = some (eqS (.bool false)) := by rw [hsp]; rfl
                  clear hsp
                  refine (wpIn_wide (n := 0)).1 (region_allR (RtS sp) (rtS_keep sp) rfl rfl rfl (by kernel_rfl) (by kernel_rfl) (by kernel_rfl) ?_ ?_)
                  · intro Q'
                    refine obsR_cons ?_ ?_
                    · intro T wx K hB hF hD hK
                      have g18 : T[18]? = some (.int .i64 3) := hF 18 (freeM_of (by kernel_rfl))
                      refine ob_yes (wanted_none rfl) ?_
                      clear hF hD
                      go_simp
                      exact hK _ _ (Below.refl _ _) (rt_eqS s98)
                    refine obsR_cons ?_ ?_
                    · intro T wx K hB hF hD hK
                      have g13 : T[13]? = some (.pointer (some ⟨b13, 0, none⟩)) := hF 13 (freeM_of (by kernel_rfl))
                      have g98 := get_eqS (hD 0 98 (by simp [Region.binds]) (by kernel_rfl)) s98
                      refine ob_yes (wanted_none rfl) ?_
                      clear hF hD
                      go_simp
                      exact hK _ _ (Below.refl _ _) (rt_eqS s99)
                    refine obsR_cons ?_ ?_
                    · intro T wx K hB hF hD hK
                      have g99 := get_eqS (hD 1 99 (by simp [Region.binds]) (by kernel_rfl)) s99
                      refine ob_yes (wanted_none rfl) ?_
                      clear hF hD
                      have c0 := blk_cell (blk_call H13.out hB) 6 _ rfl
                      have c1 := blk_cell (blk_call H13.out hB) 7 _ rfl
                      go_simp
                      exact hK _ _ (Below.refl _ _) (rt_eqS s100)
                    refine obsR_cons ?_ ?_
                    · intro T wx K hB hF hD hK
                      have g19 : T[19]? = some (.int .i64 1) := hF 19 (freeM_of (by kernel_rfl))
                      refine ob_yes (wanted_none rfl) ?_
                      clear hF hD
                      go_simp
                      exact hK _ _ (Below.refl _ _) (rt_eqS s101)
                    refine obsR_cons ?_ ?_
                    · intro T wx K hB hF hD hK
                      have g13 : T[13]? = some (.pointer (some ⟨b13, 0, none⟩)) := hF 13 (freeM_of (by kernel_rfl))
                      have g101 := get_eqS (hD 3 101 (by simp [Region.binds]) (by kernel_rfl)) s101
                      refine ob_yes (wanted_none rfl) ?_
                      clear hF hD
                      go_simp
                      exact hK _ _ (Below.refl _ _) (rt_eqS s102)
                    refine obsR_cons ?_ ?_
                    · intro T wx K hB hF hD hK
                      have g102 := get_eqS (hD 4 102 (by simp [Region.binds]) (by kernel_rfl)) s102
                      refine ob_yes (wanted_none rfl) ?_
                      clear hF hD
                      have c0 := blk_cell (blk_call H13.out hB) 2 _ rfl
                      have c1 := blk_cell (blk_call H13.out hB) 3 _ rfl
                      go_simp
                      exact hK _ _ (Below.refl _ _) (rt_eqS s103)
                    refine obsR_cons ?_ ?_
                    · intro T wx K hB hF hD hK
                      have g100 := get_eqS (hD 2 100 (by simp [Region.binds]) (by kernel_rfl)) s100
                      have g103 := get_eqS (hD 5 103 (by simp [Region.binds]) (by kernel_rfl)) s103
                      refine ob_yes (wanted_none rfl) ?_
                      clear hF hD
                      go_simp
                      refine (lfar_is a3 b3 a1 b1 (farI a3 b3 a1 b1) _ (Lib.hid rfl) (by have := PB.out.2.2.2; have := WB.out; omega) (by have := PB.out.2.2.2; have := WB.out; omega) (by have := PB.out.2.1; have := WB.out; omega) (by have := PB.out.2.1; have := WB.out; omega)).mono ?_; rintro e w9 ⟨rfl, hb⟩
                      exact hK _ _ hb (rt_eqS s104)
                    refine obsR_cons ?_ ?_
                    · intro T wx K hB hF hD hK
                      have g18 : T[18]? = some (.int .i64 3) := hF 18 (freeM_of (by kernel_rfl))
                      refine ob_yes (wanted_none rfl) ?_
                      clear hF hD
                      go_simp
                      exact hK _ _ (Below.refl _ _) (rt_eqS s105)
                    refine obsR_cons ?_ ?_
                    · intro T wx K hB hF hD hK
                      have g14 : T[14]? = some (.pointer (some ⟨b14, 0, none⟩)) := hF 14 (freeM_of (by kernel_rfl))
                      have g105 := get_eqS (hD 7 105 (by simp [Region.binds]) (by kernel_rfl)) s105
                      refine ob_yes (wanted_none rfl) ?_
                      clear hF hD
                      go_simp
                      exact hK _ _ (Below.refl _ _) (rt_eqS s106)
                    refine obsR_cons ?_ ?_
                    · intro T wx K hB hF hD hK
                      have g106 := get_eqS (hD 8 106 (by simp [Region.binds]) (by kernel_rfl)) s106
                      refine ob_yes (wanted_none rfl) ?_
                      clear hF hD
                      have c0 := blk_cell (blk_call H14.out hB) 6 _ rfl
                      have c1 := blk_cell (blk_call H14.out hB) 7 _ rfl
                      go_simp
                      exact hK _ _ (Below.refl _ _) (rt_eqS s107)
                    refine obsR_cons ?_ ?_
                    · intro T wx K hB hF hD hK
                      have g19 : T[19]? = some (.int .i64 1) := hF 19 (freeM_of (by kernel_rfl))
                      refine ob_yes (wanted_none rfl) ?_
                      clear hF hD
                      go_simp
                      exact hK _ _ (Below.refl _ _) (rt_eqS s108)
                    refine obsR_cons ?_ ?_
                    · intro T wx K hB hF hD hK
                      have g14 : T[14]? = some (.pointer (some ⟨b14, 0, none⟩)) := hF 14 (freeM_of (by kernel_rfl))
                      have g108 := get_eqS (hD 10 108 (by simp [Region.binds]) (by kernel_rfl)) s108
                      refine ob_yes (wanted_none rfl) ?_
                      clear hF hD
                      go_simp
                      exact hK _ _ (Below.refl _ _) (rt_eqS s109)
                    refine obsR_cons ?_ ?_
                    · intro T wx K hB hF hD hK
                      have g109 := get_eqS (hD 11 109 (by simp [Region.binds]) (by kernel_rfl)) s109
                      refine ob_yes (wanted_none rfl) ?_
                      clear hF hD
                      have c0 := blk_cell (blk_call H14.out hB) 2 _ rfl
                      have c1 := blk_cell (blk_call H14.out hB) 3 _ rfl
                      go_simp
                      exact hK _ _ (Below.refl _ _) (rt_eqS s110)
                    refine obsR_cons ?_ ?_
                    · intro T wx K hB hF hD hK
                      have g107 := get_eqS (hD 9 107 (by simp [Region.binds]) (by kernel_rfl)) s107
                      have g110 := get_eqS (hD 12 110 (by simp [Region.binds]) (by kernel_rfl)) s110
                      refine ob_yes (wanted_none rfl) ?_
                      clear hF hD
                      go_simp
                      refine (lfar_is a3p b3p a1p b1p (farI a3 b3 a1 b1) _ (Lib.hid CH.out.2.2.2.2.1) (by have := PBq.out.2.2.2; have := WB.out; omega) (by have := PBq.out.2.2.2; have := WB.out; omega) (by have := PBq.out.2.1; have := WB.out; omega) (by have := PBq.out.2.1; have := WB.out; omega)).mono ?_; rintro e w9 ⟨rfl, hb⟩
                      exact hK _ _ hb (rt_eqS s111)
                    refine obsR_cons ?_ ?_
                    · intro T wx K hB hF hD hK
                      have g104 := get_eqS (hD 6 104 (by simp [Region.binds]) (by kernel_rfl)) s104
                      have g111 := get_eqS (hD 13 111 (by simp [Region.binds]) (by kernel_rfl)) s111
                      refine ob_yes (wanted_none rfl) ?_
                      clear hF hD
                      go_simp
                      exact hK _ _ (Below.refl _ _) (rt_eqS s112)
                    exact obsR_nil
                  · intro S6 U6 hb8 hF hs hD
                    have g98 := get_eqS (hD 0 98 (by decide) (by kernel_rfl)) s98
                    have g99 := get_eqS (hD 1 99 (by decide) (by kernel_rfl)) s99
                    have g100 := get_eqS (hD 2 100 (by decide) (by kernel_rfl)) s100
                    have g101 := get_eqS (hD 3 101 (by decide) (by kernel_rfl)) s101
                    have g102 := get_eqS (hD 4 102 (by decide) (by kernel_rfl)) s102
                    have g103 := get_eqS (hD 5 103 (by decide) (by kernel_rfl)) s103
                    have g104 := get_eqS (hD 6 104 (by decide) (by kernel_rfl)) s104
                    have g105 := get_eqS (hD 7 105 (by decide) (by kernel_rfl)) s105
                    have g106 := get_eqS (hD 8 106 (by decide) (by kernel_rfl)) s106
                    have g107 := get_eqS (hD 9 107 (by decide) (by kernel_rfl)) s107
                    have g108 := get_eqS (hD 10 108 (by decide) (by kernel_rfl)) s108
                    have g109 := get_eqS (hD 11 109 (by decide) (by kernel_rfl)) s109
                    have g110 := get_eqS (hD 12 110 (by decide) (by kernel_rfl)) s110
                    have g111 := get_eqS (hD 13 111 (by decide) (by kernel_rfl)) s111
                    have g112 := get_eqS (hD 14 112 (by decide) (by kernel_rfl)) s112
                    have hT := conc [(98, .int .i64 3), (99, .pointer (some ⟨b13, 6, none⟩)), (100, .agg #[.int .i64 a3, .int .i64 b3]), (101, .int .i64 1), (102, .pointer (some ⟨b13, 2, none⟩)), (103, .agg #[.int .i64 a1, .int .i64 b1]), (104, .int .i64 (farI a3 b3 a1 b1)), (105, .int .i64 3), (106, .pointer (some ⟨b14, 6, none⟩)), (107, .agg #[.int .i64 a3p, .int .i64 b3p]), (108, .int .i64 1), (109, .pointer (some ⟨b14, 2, none⟩)), (110, .agg #[.int .i64 a1p, .int .i64 b1p]), (111, .int .i64 (farI a3 b3 a1 b1)), (112, .bool false)] hs hF (by simp only [List.forall_mem_cons]; exact ⟨g98, g99, g100, g101, g102, g103, g104, g105, g106, g107, g108, g109, g110, g111, g112, fun p hp => absurd hp List.not_mem_nil⟩) (by kernel_rfl)
                    simp only [List.foldl, List.setIfInBounds_toArray, List.set_cons_succ, List.set_cons_zero] at hT
                    subst hT
                    clear hF hD hs g98 g99 g100 g101 g102 g103 g104 g105 g106 g107 g108 g109 g110 g111 g112 s98 s99 s100 s101 s102 s103 s104 s105 s106 s107 s108 s109 s110 s111 s112
                    replace H13 := Lib.hid (blk_call H13.out hb8)
                    replace H14 := Lib.hid (blk_call H14.out hb8)
                    replace H15 := Lib.hid (blk_call H15.out hb8)
                    replace H16 := Lib.hid (blk_call H16.out hb8)
                    replace RG := Lib.hid (prow_below RG.out hb8)
                    replace RM := Lib.hid (prow_below RM.out hb8)
                    replace B := Lib.hid (belT B.out hb8)
                    replace TT := Lib.hid (Tab.below TT.out hb8)
                    clear hb8
                    go_wp2_with fail
                    rw [rounds_succ]
                    go_wp2_with fail
                    obtain ⟨sp, hsp⟩ : ∃ sp : ToldS, sp = [none, none, none, none, none, none, none, none, none, none, none, none, none, none, none, none, none, none, none, none, none, none, none, none, none, none, none, none, none, none, none, none, none, none, none, none, none, none, none, none, none, none, none, none, none, none, none, none, none, none, none, none, none, none, none, none, none, none, none, none, none, none, none, none, none, none, none, none, none, none, none, none, none, none, none, none, none, none, none, none, none, none, none, none, none, none, none, none, none, none, none, none, none, none, none, none, none, none, some (eqS (.int .i64 3)), some (eqS (.pointer (some ⟨b13, 6, none⟩))), some (eqS (.agg #[.int .i64 a3, .int .i64 b3])), some (eqS (.int .i64 2)), some (eqS (.pointer (some ⟨b13, 4, none⟩))), some (eqS (.agg #[.int .i64 a2, .int .i64 b2])), some (eqS (.int .i64 (farI a3 b3 a2 b2))), some (eqS (.int .i64 3)), some (eqS (.pointer (some ⟨b14, 6, none⟩))), some (eqS (.agg #[.int .i64 a3p, .int .i64 b3p])), some (eqS (.int .i64 2)), some (eqS (.pointer (some ⟨b14, 4, none⟩))), some (eqS (.agg #[.int .i64 a2p, .int .i64 b2p])), some (eqS (.int .i64 (farI a3 b3 a2 b2))), some (eqS (.bool false))] := ⟨_, rfl⟩
                    have s98 : sp.getD 98 none = some (eqS (.int .i64 3)) := by rw [hsp]; rfl
                    have s99 : sp.getD 99 none = some (eqS (.pointer (some ⟨b13, 6, none⟩))) := by rw [hsp]; rfl
                    have s100 : sp.getD 100 none = some (eqS (.agg #[.int .i64 a3, .int .i64 b3])) := by rw [hsp]; rfl
                    have s101 : sp.getD 101 none = some (eqS (.int .i64 2)) := by rw [hsp]; rfl
                    have s102 : sp.getD 102 none = some (eqS (.pointer (some ⟨b13, 4, none⟩))) := by rw [hsp]; rfl
                    have s103 : sp.getD 103 none = some (eqS (.agg #[.int .i64 a2, .int .i64 b2])) := by rw [hsp]; rfl
                    have s104 : sp.getD 104 none = some (eqS (.int .i64 (farI a3 b3 a2 b2))) := by rw [hsp]; rfl
                    have s105 : sp.getD 105 none = some (eqS (.int .i64 3)) := by rw [hsp]; rfl
                    have s106 : sp.getD 106 none = some (eqS (.pointer (some ⟨b14, 6, none⟩))) := by rw [hsp]; rfl
                    have s107 : sp.getD 107 none = some (eqS (.agg #[.int .i64 a3p, .int .i64 b3p])) := by rw [hsp]; rfl
                    have s108 : sp.getD 108 none = some (eqS (.int .i64 2)) := by rw [hsp]; rfl
                    have s109 : sp.getD 109 none = some (eqS (.pointer (some ⟨b14, 4, none⟩))) := by rw [hsp]; rfl
                    have s110 : sp.getD 110 none = some (eqS (.agg #[.int .i64 a2p, .int .i64 b2p])) := by rw [hsp]; rfl
                    have s111 : sp.getD 111 none = some (eqS (.int .i64 (farI a3 b3 a2 b2))) := by rw [hsp]; rfl
                    have s112 : sp.getD 112 none = some (eqS (.bool false)) := by rw [hsp]; rfl
                    clear hsp
                    refine (wpIn_wide (n := 0)).1 (region_allR (RtS sp) (rtS_keep sp) rfl rfl rfl (by kernel_rfl) (by kernel_rfl) (by kernel_rfl) ?_ ?_)
                    · intro Q'
                      refine obsR_cons ?_ ?_
                      · intro T wx K hB hF hD hK
                        have g18 : T[18]? = some (.int .i64 3) := hF 18 (freeM_of (by kernel_rfl))
                        refine ob_yes (wanted_none rfl) ?_
                        clear hF hD
                        go_simp
                        exact hK _ _ (Below.refl _ _) (rt_eqS s98)
                      refine obsR_cons ?_ ?_
                      · intro T wx K hB hF hD hK
                        have g13 : T[13]? = some (.pointer (some ⟨b13, 0, none⟩)) := hF 13 (freeM_of (by kernel_rfl))
                        have g98 := get_eqS (hD 0 98 (by simp [Region.binds]) (by kernel_rfl)) s98
                        refine ob_yes (wanted_none rfl) ?_
                        clear hF hD
                        go_simp
                        exact hK _ _ (Below.refl _ _) (rt_eqS s99)
                      refine obsR_cons ?_ ?_
                      · intro T wx K hB hF hD hK
                        have g99 := get_eqS (hD 1 99 (by simp [Region.binds]) (by kernel_rfl)) s99
                        refine ob_yes (wanted_none rfl) ?_
                        clear hF hD
                        have c0 := blk_cell (blk_call H13.out hB) 6 _ rfl
                        have c1 := blk_cell (blk_call H13.out hB) 7 _ rfl
                        go_simp
                        exact hK _ _ (Below.refl _ _) (rt_eqS s100)
                      refine obsR_cons ?_ ?_
                      · intro T wx K hB hF hD hK
                        have g19 : T[19]? = some (.int .i64 2) := hF 19 (freeM_of (by kernel_rfl))
                        refine ob_yes (wanted_none rfl) ?_
                        clear hF hD
                        go_simp
                        exact hK _ _ (Below.refl _ _) (rt_eqS s101)
                      refine obsR_cons ?_ ?_
                      · intro T wx K hB hF hD hK
                        have g13 : T[13]? = some (.pointer (some ⟨b13, 0, none⟩)) := hF 13 (freeM_of (by kernel_rfl))
                        have g101 := get_eqS (hD 3 101 (by simp [Region.binds]) (by kernel_rfl)) s101
                        refine ob_yes (wanted_none rfl) ?_
                        clear hF hD
                        go_simp
                        exact hK _ _ (Below.refl _ _) (rt_eqS s102)
                      refine obsR_cons ?_ ?_
                      · intro T wx K hB hF hD hK
                        have g102 := get_eqS (hD 4 102 (by simp [Region.binds]) (by kernel_rfl)) s102
                        refine ob_yes (wanted_none rfl) ?_
                        clear hF hD
                        have c0 := blk_cell (blk_call H13.out hB) 4 _ rfl
                        have c1 := blk_cell (blk_call H13.out hB) 5 _ rfl
                        go_simp
                        exact hK _ _ (Below.refl _ _) (rt_eqS s103)
                      refine obsR_cons ?_ ?_
                      · intro T wx K hB hF hD hK
                        have g100 := get_eqS (hD 2 100 (by simp [Region.binds]) (by kernel_rfl)) s100
                        have g103 := get_eqS (hD 5 103 (by simp [Region.binds]) (by kernel_rfl)) s103
                        refine ob_yes (wanted_none rfl) ?_
                        clear hF hD
                        go_simp
                        refine (lfar_is a3 b3 a2 b2 (farI a3 b3 a2 b2) _ (Lib.hid rfl) (by have := PB.out.2.2.2; have := WB.out; omega) (by have := PB.out.2.2.2; have := WB.out; omega) (by have := PB.out.2.2.1; have := WB.out; omega) (by have := PB.out.2.2.1; have := WB.out; omega)).mono ?_; rintro e w9 ⟨rfl, hb⟩
                        exact hK _ _ hb (rt_eqS s104)
                      refine obsR_cons ?_ ?_
                      · intro T wx K hB hF hD hK
                        have g18 : T[18]? = some (.int .i64 3) := hF 18 (freeM_of (by kernel_rfl))
                        refine ob_yes (wanted_none rfl) ?_
                        clear hF hD
                        go_simp
                        exact hK _ _ (Below.refl _ _) (rt_eqS s105)
                      refine obsR_cons ?_ ?_
                      · intro T wx K hB hF hD hK
                        have g14 : T[14]? = some (.pointer (some ⟨b14, 0, none⟩)) := hF 14 (freeM_of (by kernel_rfl))
                        have g105 := get_eqS (hD 7 105 (by simp [Region.binds]) (by kernel_rfl)) s105
                        refine ob_yes (wanted_none rfl) ?_
                        clear hF hD
                        go_simp
                        exact hK _ _ (Below.refl _ _) (rt_eqS s106)
                      refine obsR_cons ?_ ?_
                      · intro T wx K hB hF hD hK
                        have g106 := get_eqS (hD 8 106 (by simp [Region.binds]) (by kernel_rfl)) s106
                        refine ob_yes (wanted_none rfl) ?_
                        clear hF hD
                        have c0 := blk_cell (blk_call H14.out hB) 6 _ rfl
                        have c1 := blk_cell (blk_call H14.out hB) 7 _ rfl
                        go_simp
                        exact hK _ _ (Below.refl _ _) (rt_eqS s107)
                      refine obsR_cons ?_ ?_
                      · intro T wx K hB hF hD hK
                        have g19 : T[19]? = some (.int .i64 2) := hF 19 (freeM_of (by kernel_rfl))
                        refine ob_yes (wanted_none rfl) ?_
                        clear hF hD
                        go_simp
                        exact hK _ _ (Below.refl _ _) (rt_eqS s108)
                      refine obsR_cons ?_ ?_
                      · intro T wx K hB hF hD hK
                        have g14 : T[14]? = some (.pointer (some ⟨b14, 0, none⟩)) := hF 14 (freeM_of (by kernel_rfl))
                        have g108 := get_eqS (hD 10 108 (by simp [Region.binds]) (by kernel_rfl)) s108
                        refine ob_yes (wanted_none rfl) ?_
                        clear hF hD
                        go_simp
                        exact hK _ _ (Below.refl _ _) (rt_eqS s109)
                      refine obsR_cons ?_ ?_
                      · intro T wx K hB hF hD hK
                        have g109 := get_eqS (hD 11 109 (by simp [Region.binds]) (by kernel_rfl)) s109
                        refine ob_yes (wanted_none rfl) ?_
                        clear hF hD
                        have c0 := blk_cell (blk_call H14.out hB) 4 _ rfl
                        have c1 := blk_cell (blk_call H14.out hB) 5 _ rfl
                        go_simp
                        exact hK _ _ (Below.refl _ _) (rt_eqS s110)
                      refine obsR_cons ?_ ?_
                      · intro T wx K hB hF hD hK
                        have g107 := get_eqS (hD 9 107 (by simp [Region.binds]) (by kernel_rfl)) s107
                        have g110 := get_eqS (hD 12 110 (by simp [Region.binds]) (by kernel_rfl)) s110
                        refine ob_yes (wanted_none rfl) ?_
                        clear hF hD
                        go_simp
                        refine (lfar_is a3p b3p a2p b2p (farI a3 b3 a2 b2) _ (Lib.hid CH.out.2.2.2.2.2.1) (by have := PBq.out.2.2.2; have := WB.out; omega) (by have := PBq.out.2.2.2; have := WB.out; omega) (by have := PBq.out.2.2.1; have := WB.out; omega) (by have := PBq.out.2.2.1; have := WB.out; omega)).mono ?_; rintro e w9 ⟨rfl, hb⟩
                        exact hK _ _ hb (rt_eqS s111)
                      refine obsR_cons ?_ ?_
                      · intro T wx K hB hF hD hK
                        have g104 := get_eqS (hD 6 104 (by simp [Region.binds]) (by kernel_rfl)) s104
                        have g111 := get_eqS (hD 13 111 (by simp [Region.binds]) (by kernel_rfl)) s111
                        refine ob_yes (wanted_none rfl) ?_
                        clear hF hD
                        go_simp
                        exact hK _ _ (Below.refl _ _) (rt_eqS s112)
                      exact obsR_nil
                    · intro S7 U7 hb8 hF hs hD
                      have g98 := get_eqS (hD 0 98 (by decide) (by kernel_rfl)) s98
                      have g99 := get_eqS (hD 1 99 (by decide) (by kernel_rfl)) s99
                      have g100 := get_eqS (hD 2 100 (by decide) (by kernel_rfl)) s100
                      have g101 := get_eqS (hD 3 101 (by decide) (by kernel_rfl)) s101
                      have g102 := get_eqS (hD 4 102 (by decide) (by kernel_rfl)) s102
                      have g103 := get_eqS (hD 5 103 (by decide) (by kernel_rfl)) s103
                      have g104 := get_eqS (hD 6 104 (by decide) (by kernel_rfl)) s104
                      have g105 := get_eqS (hD 7 105 (by decide) (by kernel_rfl)) s105
                      have g106 := get_eqS (hD 8 106 (by decide) (by kernel_rfl)) s106
                      have g107 := get_eqS (hD 9 107 (by decide) (by kernel_rfl)) s107
                      have g108 := get_eqS (hD 10 108 (by decide) (by kernel_rfl)) s108
                      have g109 := get_eqS (hD 11 109 (by decide) (by kernel_rfl)) s109
                      have g110 := get_eqS (hD 12 110 (by decide) (by kernel_rfl)) s110
                      have g111 := get_eqS (hD 13 111 (by decide) (by kernel_rfl)) s111
                      have g112 := get_eqS (hD 14 112 (by decide) (by kernel_rfl)) s112
                      have hT := conc [(98, .int .i64 3), (99, .pointer (some ⟨b13, 6, none⟩)), (100, .agg #[.int .i64 a3, .int .i64 b3]), (101, .int .i64 2), (102, .pointer (some ⟨b13, 4, none⟩)), (103, .agg #[.int .i64 a2, .int .i64 b2]), (104, .int .i64 (farI a3 b3 a2 b2)), (105, .int .i64 3), (106, .pointer (some ⟨b14, 6, none⟩)), (107, .agg #[.int .i64 a3p, .int .i64 b3p]), (108, .int .i64 2), (109, .pointer (some ⟨b14, 4, none⟩)), (110, .agg #[.int .i64 a2p, .int .i64 b2p]), (111, .int .i64 (farI a3 b3 a2 b2)), (112, .bool false)] hs hF (by simp only [List.forall_mem_cons]; exact ⟨g98, g99, g100, g101, g102, g103, g104, g105, g106, g107, g108, g109, g110, g111, g112, fun p hp => absurd hp List.not_mem_nil⟩) (by kernel_rfl)
                      simp only [List.foldl, List.setIfInBounds_toArray, List.set_cons_succ, List.set_cons_zero] at hT
                      subst hT
                      clear hF hD hs g98 g99 g100 g101 g102 g103 g104 g105 g106 g107 g108 g109 g110 g111 g112 s98 s99 s100 s101 s102 s103 s104 s105 s106 s107 s108 s109 s110 s111 s112
                      replace H13 := Lib.hid (blk_call H13.out hb8)
                      replace H14 := Lib.hid (blk_call H14.out hb8)
                      replace H15 := Lib.hid (blk_call H15.out hb8)
                      replace H16 := Lib.hid (blk_call H16.out hb8)
                      replace RG := Lib.hid (prow_below RG.out hb8)
                      replace RM := Lib.hid (prow_below RM.out hb8)
                      replace B := Lib.hid (belT B.out hb8)
                      replace TT := Lib.hid (Tab.below TT.out hb8)
                      clear hb8
                      go_wp2_with fail
                      rw [rounds_succ]
                      go_wp2_with fail
                      rw [rounds_succ]
                      go_wp2_with fail
                      refine wp_loop_rounds 5 ?_
                      rw [rounds_succ]
                      go_wp2_with fail
                      obtain ⟨sp, hsp⟩ : ∃ sp : ToldS, sp = [none, none, none, none, none, none, none, none, none, none, none, none, none, none, none, none, none, none, none, none, none, none, none, none, none, none, none, none, none, none, none, none, none, none, none, none, none, none, none, none, none, none, none, none, none, none, none, none, none, none, none, none, none, none, none, none, none, none, none, none, none, none, none, none, none, none, none, none, none, none, none, none, none, none, none, none, none, none, none, none, none, none, none, none, none, none, none, none, none, none, none, none, none, none, none, none, none, none, none, none, none, none, none, none, none, none, none, none, none, none, none, none, none, none, none, none, none, some (eqS (.pointer (some ⟨b15, 2, none⟩))), some (eqS (.slice (some ⟨g2, 0, none⟩) 4 4)), some (eqS (.int .i64 0)), some (eqS (.pointer (some ⟨g2, 0, none⟩))), some (eqS (.agg #[.int .i64 z0, .int .i64 z1])), some (eqS (.int .i64 0)), some (eqS (.pointer (some ⟨b13, 0, none⟩))), some (eqS (.agg #[.int .i64 X, .int .i64 Y])), some (eqS (.int .i64 (farI z0 z1 X Y))), some (eqS (.pointer (some ⟨b16, 2, none⟩))), some (eqS (.slice (some ⟨m2, 0, none⟩) 4 4)), some (eqS (.int .i64 0)), some (eqS (.pointer (some ⟨m2, 0, none⟩))), some (eqS (.agg #[.int .i64 o0, .int .i64 o1])), some (eqS (.int .i64 0)), some (eqS (.pointer (some ⟨b14, 0, none⟩))), some (eqS (.agg #[.int .i64 X, .int .i64 Y])), some (eqS (.int .i64 (farI z0 z1 X Y))), some (eqS (.bool false))] := ⟨_, rfl⟩
                      have s117 : sp.getD 117 none = some (eqS (.pointer (some ⟨b15, 2, none⟩))) := by rw [hsp]; rfl
                      have s118 : sp.getD 118 none = some (eqS (.slice (some ⟨g2, 0, none⟩) 4 4)) := by rw [hsp]; rfl
                      have s119 : sp.getD 119 none = some (eqS (.int .i64 0)) := by rw [hsp]; rfl
                      have s120 : sp.getD 120 none = some (eqS (.pointer (some ⟨g2, 0, none⟩))) := by rw [hsp]; rfl
                      have s121 : sp.getD 121 none = some (eqS (.agg #[.int .i64 z0, .int .i64 z1])) := by rw [hsp]; rfl
                      have s122 : sp.getD 122 none = some (eqS (.int .i64 0)) := by rw [hsp]; rfl
                      have s123 : sp.getD 123 none = some (eqS (.pointer (some ⟨b13, 0, none⟩))) := by rw [hsp]; rfl
                      have s124 : sp.getD 124 none = some (eqS (.agg #[.int .i64 X, .int .i64 Y])) := by rw [hsp]; rfl
                      have s125 : sp.getD 125 none = some (eqS (.int .i64 (farI z0 z1 X Y))) := by rw [hsp]; rfl
                      have s126 : sp.getD 126 none = some (eqS (.pointer (some ⟨b16, 2, none⟩))) := by rw [hsp]; rfl
                      have s127 : sp.getD 127 none = some (eqS (.slice (some ⟨m2, 0, none⟩) 4 4)) := by rw [hsp]; rfl
                      have s128 : sp.getD 128 none = some (eqS (.int .i64 0)) := by rw [hsp]; rfl
                      have s129 : sp.getD 129 none = some (eqS (.pointer (some ⟨m2, 0, none⟩))) := by rw [hsp]; rfl
                      have s130 : sp.getD 130 none = some (eqS (.agg #[.int .i64 o0, .int .i64 o1])) := by rw [hsp]; rfl
                      have s131 : sp.getD 131 none = some (eqS (.int .i64 0)) := by rw [hsp]; rfl
                      have s132 : sp.getD 132 none = some (eqS (.pointer (some ⟨b14, 0, none⟩))) := by rw [hsp]; rfl
                      have s133 : sp.getD 133 none = some (eqS (.agg #[.int .i64 X, .int .i64 Y])) := by rw [hsp]; rfl
                      have s134 : sp.getD 134 none = some (eqS (.int .i64 (farI z0 z1 X Y))) := by rw [hsp]; rfl
                      have s135 : sp.getD 135 none = some (eqS (.bool false)) := by rw [hsp]; rfl
                      clear hsp
                      refine (wpIn_wide (n := 0)).1 (region_allR (RtS sp) (rtS_keep sp) rfl rfl rfl (by kernel_rfl) (by kernel_rfl) (by kernel_rfl) ?_ ?_)
                      · intro Q'
                        refine obsR_cons ?_ ?_
                        · intro T wx K hB hF hD hK
                          have g15 : T[15]? = some (.pointer (some ⟨b15, 0, none⟩)) := hF 15 (freeM_of (by kernel_rfl))
                          refine ob_yes (wanted_none rfl) ?_
                          clear hF hD
                          go_simp
                          exact hK _ _ (Below.refl _ _) (rt_eqS s117)
                        refine obsR_cons ?_ ?_
                        · intro T wx K hB hF hD hK
                          have g117 := get_eqS (hD 0 117 (by simp [Region.binds]) (by kernel_rfl)) s117
                          refine ob_yes (wanted_none rfl) ?_
                          clear hF hD
                          have c0 := blk_cell (blk_call H15.out hB) 2 _ rfl
                          go_simp
                          exact hK _ _ (Below.refl _ _) (rt_eqS s118)
                        refine obsR_cons ?_ ?_
                        · intro T wx K hB hF hD hK
                          have g20 : T[20]? = some (.int .i64 0) := hF 20 (freeM_of (by kernel_rfl))
                          refine ob_yes (wanted_none rfl) ?_
                          clear hF hD
                          go_simp
                          exact hK _ _ (Below.refl _ _) (rt_eqS s119)
                        refine obsR_cons ?_ ?_
                        · intro T wx K hB hF hD hK
                          have g118 := get_eqS (hD 1 118 (by simp [Region.binds]) (by kernel_rfl)) s118
                          have g119 := get_eqS (hD 2 119 (by simp [Region.binds]) (by kernel_rfl)) s119
                          refine ob_yes (wanted_none rfl) ?_
                          clear hF hD
                          go_simp
                          exact hK _ _ (Below.refl _ _) (rt_eqS s120)
                        refine obsR_cons ?_ ?_
                        · intro T wx K hB hF hD hK
                          have g120 := get_eqS (hD 3 120 (by simp [Region.binds]) (by kernel_rfl)) s120
                          refine ob_yes (wanted_none rfl) ?_
                          clear hF hD
                          obtain ⟨c0, c1⟩ := prow_c (prow_below RG.out hB) 0 (by simp) 0 1 rfl rfl
                          simp only [List.getD_cons_zero, List.getD_cons_succ] at c0 c1
                          go_simp
                          exact hK _ _ (Below.refl _ _) (rt_eqS s121)
                        refine obsR_cons ?_ ?_
                        · intro T wx K hB hF hD hK
                          have g11 : T[11]? = some (.int .i64 0) := hF 11 (freeM_of (by kernel_rfl))
                          refine ob_yes (wanted_none rfl) ?_
                          clear hF hD
                          go_simp
                          exact hK _ _ (Below.refl _ _) (rt_eqS s122)
                        refine obsR_cons ?_ ?_
                        · intro T wx K hB hF hD hK
                          have g13 : T[13]? = some (.pointer (some ⟨b13, 0, none⟩)) := hF 13 (freeM_of (by kernel_rfl))
                          have g122 := get_eqS (hD 5 122 (by simp [Region.binds]) (by kernel_rfl)) s122
                          refine ob_yes (wanted_none rfl) ?_
                          clear hF hD
                          go_simp
                          exact hK _ _ (Below.refl _ _) (rt_eqS s123)
                        refine obsR_cons ?_ ?_
                        · intro T wx K hB hF hD hK
                          have g123 := get_eqS (hD 6 123 (by simp [Region.binds]) (by kernel_rfl)) s123
                          refine ob_yes (wanted_none rfl) ?_
                          clear hF hD
                          have c0 := blk_cell (blk_call H13.out hB) 0 _ rfl
                          have c1 := blk_cell (blk_call H13.out hB) 1 _ rfl
                          go_simp
                          exact hK _ _ (Below.refl _ _) (rt_eqS s124)
                        refine obsR_cons ?_ ?_
                        · intro T wx K hB hF hD hK
                          have g121 := get_eqS (hD 4 121 (by simp [Region.binds]) (by kernel_rfl)) s121
                          have g124 := get_eqS (hD 7 124 (by simp [Region.binds]) (by kernel_rfl)) s124
                          refine ob_yes (wanted_none rfl) ?_
                          clear hF hD
                          go_simp
                          refine (lfar_is z0 z1 X Y (farI z0 z1 X Y) _ (Lib.hid rfl) (inv_bdA (PCz.out (z0, z1) (by simp)).1) (inv_bdA (PCz.out (z0, z1) (by simp)).2) (by have := PB.out.1; have := WB.out; omega) (by have := PB.out.1; have := WB.out; omega)).mono ?_; rintro e w9 ⟨rfl, hb⟩
                          exact hK _ _ hb (rt_eqS s125)
                        refine obsR_cons ?_ ?_
                        · intro T wx K hB hF hD hK
                          have g16 : T[16]? = some (.pointer (some ⟨b16, 0, none⟩)) := hF 16 (freeM_of (by kernel_rfl))
                          refine ob_yes (wanted_none rfl) ?_
                          clear hF hD
                          go_simp
                          exact hK _ _ (Below.refl _ _) (rt_eqS s126)
                        refine obsR_cons ?_ ?_
                        · intro T wx K hB hF hD hK
                          have g126 := get_eqS (hD 9 126 (by simp [Region.binds]) (by kernel_rfl)) s126
                          refine ob_yes (wanted_none rfl) ?_
                          clear hF hD
                          have c0 := blk_cell (blk_call H16.out hB) 2 _ rfl
                          go_simp
                          exact hK _ _ (Below.refl _ _) (rt_eqS s127)
                        refine obsR_cons ?_ ?_
                        · intro T wx K hB hF hD hK
                          have g20 : T[20]? = some (.int .i64 0) := hF 20 (freeM_of (by kernel_rfl))
                          refine ob_yes (wanted_none rfl) ?_
                          clear hF hD
                          go_simp
                          exact hK _ _ (Below.refl _ _) (rt_eqS s128)
                        refine obsR_cons ?_ ?_
                        · intro T wx K hB hF hD hK
                          have g127 := get_eqS (hD 10 127 (by simp [Region.binds]) (by kernel_rfl)) s127
                          have g128 := get_eqS (hD 11 128 (by simp [Region.binds]) (by kernel_rfl)) s128
                          refine ob_yes (wanted_none rfl) ?_
                          clear hF hD
                          go_simp
                          exact hK _ _ (Below.refl _ _) (rt_eqS s129)
                        refine obsR_cons ?_ ?_
                        · intro T wx K hB hF hD hK
                          have g129 := get_eqS (hD 12 129 (by simp [Region.binds]) (by kernel_rfl)) s129
                          refine ob_yes (wanted_none rfl) ?_
                          clear hF hD
                          obtain ⟨c0, c1⟩ := prow_c (prow_below RM.out hB) 0 (by simp) 0 1 rfl rfl
                          simp only [List.getD_cons_zero, List.getD_cons_succ] at c0 c1
                          go_simp
                          exact hK _ _ (Below.refl _ _) (rt_eqS s130)
                        refine obsR_cons ?_ ?_
                        · intro T wx K hB hF hD hK
                          have g11 : T[11]? = some (.int .i64 0) := hF 11 (freeM_of (by kernel_rfl))
                          refine ob_yes (wanted_none rfl) ?_
                          clear hF hD
                          go_simp
                          exact hK _ _ (Below.refl _ _) (rt_eqS s131)
                        refine obsR_cons ?_ ?_
                        · intro T wx K hB hF hD hK
                          have g14 : T[14]? = some (.pointer (some ⟨b14, 0, none⟩)) := hF 14 (freeM_of (by kernel_rfl))
                          have g131 := get_eqS (hD 14 131 (by simp [Region.binds]) (by kernel_rfl)) s131
                          refine ob_yes (wanted_none rfl) ?_
                          clear hF hD
                          go_simp
                          exact hK _ _ (Below.refl _ _) (rt_eqS s132)
                        refine obsR_cons ?_ ?_
                        · intro T wx K hB hF hD hK
                          have g132 := get_eqS (hD 15 132 (by simp [Region.binds]) (by kernel_rfl)) s132
                          refine ob_yes (wanted_none rfl) ?_
                          clear hF hD
                          have c0 := blk_cell (blk_call H14.out hB) 0 _ rfl
                          have c1 := blk_cell (blk_call H14.out hB) 1 _ rfl
                          go_simp
                          exact hK _ _ (Below.refl _ _) (rt_eqS s133)
                        refine obsR_cons ?_ ?_
                        · intro T wx K hB hF hD hK
                          have g130 := get_eqS (hD 13 130 (by simp [Region.binds]) (by kernel_rfl)) s130
                          have g133 := get_eqS (hD 16 133 (by simp [Region.binds]) (by kernel_rfl)) s133
                          refine ob_yes (wanted_none rfl) ?_
                          clear hF hD
                          go_simp
                          refine (lfar_is o0 o1 X Y (farI z0 z1 X Y) _ (Lib.hid CH.out.2.2.2.2.2.2.1) (inv_bdA (PCo.out (o0, o1) (by simp)).1) (inv_bdA (PCo.out (o0, o1) (by simp)).2) (by have := PBq.out.1; have := WB.out; omega) (by have := PBq.out.1; have := WB.out; omega)).mono ?_; rintro e w9 ⟨rfl, hb⟩
                          exact hK _ _ hb (rt_eqS s134)
                        refine obsR_cons ?_ ?_
                        · intro T wx K hB hF hD hK
                          have g125 := get_eqS (hD 8 125 (by simp [Region.binds]) (by kernel_rfl)) s125
                          have g134 := get_eqS (hD 17 134 (by simp [Region.binds]) (by kernel_rfl)) s134
                          refine ob_yes (wanted_none rfl) ?_
                          clear hF hD
                          go_simp
                          exact hK _ _ (Below.refl _ _) (rt_eqS s135)
                        exact obsR_nil
                      · intro S8 U8 hb8 hF hs hD
                        have g117 := get_eqS (hD 0 117 (by decide) (by kernel_rfl)) s117
                        have g118 := get_eqS (hD 1 118 (by decide) (by kernel_rfl)) s118
                        have g119 := get_eqS (hD 2 119 (by decide) (by kernel_rfl)) s119
                        have g120 := get_eqS (hD 3 120 (by decide) (by kernel_rfl)) s120
                        have g121 := get_eqS (hD 4 121 (by decide) (by kernel_rfl)) s121
                        have g122 := get_eqS (hD 5 122 (by decide) (by kernel_rfl)) s122
                        have g123 := get_eqS (hD 6 123 (by decide) (by kernel_rfl)) s123
                        have g124 := get_eqS (hD 7 124 (by decide) (by kernel_rfl)) s124
                        have g125 := get_eqS (hD 8 125 (by decide) (by kernel_rfl)) s125
                        have g126 := get_eqS (hD 9 126 (by decide) (by kernel_rfl)) s126
                        have g127 := get_eqS (hD 10 127 (by decide) (by kernel_rfl)) s127
                        have g128 := get_eqS (hD 11 128 (by decide) (by kernel_rfl)) s128
                        have g129 := get_eqS (hD 12 129 (by decide) (by kernel_rfl)) s129
                        have g130 := get_eqS (hD 13 130 (by decide) (by kernel_rfl)) s130
                        have g131 := get_eqS (hD 14 131 (by decide) (by kernel_rfl)) s131
                        have g132 := get_eqS (hD 15 132 (by decide) (by kernel_rfl)) s132
                        have g133 := get_eqS (hD 16 133 (by decide) (by kernel_rfl)) s133
                        have g134 := get_eqS (hD 17 134 (by decide) (by kernel_rfl)) s134
                        have g135 := get_eqS (hD 18 135 (by decide) (by kernel_rfl)) s135
                        have hT := conc [(117, .pointer (some ⟨b15, 2, none⟩)), (118, .slice (some ⟨g2, 0, none⟩) 4 4), (119, .int .i64 0), (120, .pointer (some ⟨g2, 0, none⟩)), (121, .agg #[.int .i64 z0, .int .i64 z1]), (122, .int .i64 0), (123, .pointer (some ⟨b13, 0, none⟩)), (124, .agg #[.int .i64 X, .int .i64 Y]), (125, .int .i64 (farI z0 z1 X Y)), (126, .pointer (some ⟨b16, 2, none⟩)), (127, .slice (some ⟨m2, 0, none⟩) 4 4), (128, .int .i64 0), (129, .pointer (some ⟨m2, 0, none⟩)), (130, .agg #[.int .i64 o0, .int .i64 o1]), (131, .int .i64 0), (132, .pointer (some ⟨b14, 0, none⟩)), (133, .agg #[.int .i64 X, .int .i64 Y]), (134, .int .i64 (farI z0 z1 X Y)), (135, .bool false)] hs hF (by simp only [List.forall_mem_cons]; exact ⟨g117, g118, g119, g120, g121, g122, g123, g124, g125, g126, g127, g128, g129, g130, g131, g132, g133, g134, g135, fun p hp => absurd hp List.not_mem_nil⟩) (by kernel_rfl)
                        simp only [List.foldl, List.setIfInBounds_toArray, List.set_cons_succ, List.set_cons_zero] at hT
                        subst hT
                        clear hF hD hs g117 g118 g119 g120 g121 g122 g123 g124 g125 g126 g127 g128 g129 g130 g131 g132 g133 g134 g135 s117 s118 s119 s120 s121 s122 s123 s124 s125 s126 s127 s128 s129 s130 s131 s132 s133 s134 s135
                        replace H13 := Lib.hid (blk_call H13.out hb8)
                        replace H14 := Lib.hid (blk_call H14.out hb8)
                        replace H15 := Lib.hid (blk_call H15.out hb8)
                        replace H16 := Lib.hid (blk_call H16.out hb8)
                        replace RG := Lib.hid (prow_below RG.out hb8)
                        replace RM := Lib.hid (prow_below RM.out hb8)
                        replace B := Lib.hid (belT B.out hb8)
                        replace TT := Lib.hid (Tab.below TT.out hb8)
                        clear hb8
                        go_wp2_with fail
                        rw [rounds_succ]
                        go_wp2_with fail
                        obtain ⟨sp, hsp⟩ : ∃ sp : ToldS, sp = [none, none, none, none, none, none, none, none, none, none, none, none, none, none, none, none, none, none, none, none, none, none, none, none, none, none, none, none, none, none, none, none, none, none, none, none, none, none, none, none, none, none, none, none, none, none, none, none, none, none, none, none, none, none, none, none, none, none, none, none, none, none, none, none, none, none, none, none, none, none, none, none, none, none, none, none, none, none, none, none, none, none, none, none, none, none, none, none, none, none, none, none, none, none, none, none, none, none, none, none, none, none, none, none, none, none, none, none, none, none, none, none, none, none, none, none, none, some (eqS (.pointer (some ⟨b15, 2, none⟩))), some (eqS (.slice (some ⟨g2, 0, none⟩) 4 4)), some (eqS (.int .i64 1)), some (eqS (.pointer (some ⟨g2, 2, none⟩))), some (eqS (.agg #[.int .i64 z2, .int .i64 z3])), some (eqS (.int .i64 0)), some (eqS (.pointer (some ⟨b13, 0, none⟩))), some (eqS (.agg #[.int .i64 X, .int .i64 Y])), some (eqS (.int .i64 (farI z2 z3 X Y))), some (eqS (.pointer (some ⟨b16, 2, none⟩))), some (eqS (.slice (some ⟨m2, 0, none⟩) 4 4)), some (eqS (.int .i64 1)), some (eqS (.pointer (some ⟨m2, 2, none⟩))), some (eqS (.agg #[.int .i64 o2, .int .i64 o3])), some (eqS (.int .i64 0)), some (eqS (.pointer (some ⟨b14, 0, none⟩))), some (eqS (.agg #[.int .i64 X, .int .i64 Y])), some (eqS (.int .i64 (farI z2 z3 X Y))), some (eqS (.bool false))] := ⟨_, rfl⟩
                        have s117 : sp.getD 117 none = some (eqS (.pointer (some ⟨b15, 2, none⟩))) := by rw [hsp]; rfl
                        have s118 : sp.getD 118 none = some (eqS (.slice (some ⟨g2, 0, none⟩) 4 4)) := by rw [hsp]; rfl
                        have s119 : sp.getD 119 none = some (eqS (.int .i64 1)) := by rw [hsp]; rfl
                        have s120 : sp.getD 120 none = some (eqS (.pointer (some ⟨g2, 2, none⟩))) := by rw [hsp]; rfl
                        have s121 : sp.getD 121 none = some (eqS (.agg #[.int .i64 z2, .int .i64 z3])) := by rw [hsp]; rfl
                        have s122 : sp.getD 122 none = some (eqS (.int .i64 0)) := by rw [hsp]; rfl
                        have s123 : sp.getD 123 none = some (eqS (.pointer (some ⟨b13, 0, none⟩))) := by rw [hsp]; rfl
                        have s124 : sp.getD 124 none = some (eqS (.agg #[.int .i64 X, .int .i64 Y])) := by rw [hsp]; rfl
                        have s125 : sp.getD 125 none = some (eqS (.int .i64 (farI z2 z3 X Y))) := by rw [hsp]; rfl
                        have s126 : sp.getD 126 none = some (eqS (.pointer (some ⟨b16, 2, none⟩))) := by rw [hsp]; rfl
                        have s127 : sp.getD 127 none = some (eqS (.slice (some ⟨m2, 0, none⟩) 4 4)) := by rw [hsp]; rfl
                        have s128 : sp.getD 128 none = some (eqS (.int .i64 1)) := by rw [hsp]; rfl
                        have s129 : sp.getD 129 none = some (eqS (.pointer (some ⟨m2, 2, none⟩))) := by rw [hsp]; rfl
                        have s130 : sp.getD 130 none = some (eqS (.agg #[.int .i64 o2, .int .i64 o3])) := by rw [hsp]; rfl
                        have s131 : sp.getD 131 none = some (eqS (.int .i64 0)) := by rw [hsp]; rfl
                        have s132 : sp.getD 132 none = some (eqS (.pointer (some ⟨b14, 0, none⟩))) := by rw [hsp]; rfl
                        have s133 : sp.getD 133 none = some (eqS (.agg #[.int .i64 X, .int .i64 Y])) := by rw [hsp]; rfl
                        have s134 : sp.getD 134 none = some (eqS (.int .i64 (farI z2 z3 X Y))) := by rw [hsp]; rfl
                        have s135 : sp.getD 135 none = some (eqS (.bool false)) := by rw [hsp]; rfl
                        clear hsp
                        refine (wpIn_wide (n := 0)).1 (region_allR (RtS sp) (rtS_keep sp) rfl rfl rfl (by kernel_rfl) (by kernel_rfl) (by kernel_rfl) ?_ ?_)
                        · intro Q'
                          refine obsR_cons ?_ ?_
                          · intro T wx K hB hF hD hK
                            have g15 : T[15]? = some (.pointer (some ⟨b15, 0, none⟩)) := hF 15 (freeM_of (by kernel_rfl))
                            refine ob_yes (wanted_none rfl) ?_
                            clear hF hD
                            go_simp
                            exact hK _ _ (Below.refl _ _) (rt_eqS s117)
                          refine obsR_cons ?_ ?_
                          · intro T wx K hB hF hD hK
                            have g117 := get_eqS (hD 0 117 (by simp [Region.binds]) (by kernel_rfl)) s117
                            refine ob_yes (wanted_none rfl) ?_
                            clear hF hD
                            have c0 := blk_cell (blk_call H15.out hB) 2 _ rfl
                            go_simp
                            exact hK _ _ (Below.refl _ _) (rt_eqS s118)
                          refine obsR_cons ?_ ?_
                          · intro T wx K hB hF hD hK
                            have g20 : T[20]? = some (.int .i64 1) := hF 20 (freeM_of (by kernel_rfl))
                            refine ob_yes (wanted_none rfl) ?_
                            clear hF hD
                            go_simp
                            exact hK _ _ (Below.refl _ _) (rt_eqS s119)
                          refine obsR_cons ?_ ?_
                          · intro T wx K hB hF hD hK
                            have g118 := get_eqS (hD 1 118 (by simp [Region.binds]) (by kernel_rfl)) s118
                            have g119 := get_eqS (hD 2 119 (by simp [Region.binds]) (by kernel_rfl)) s119
                            refine ob_yes (wanted_none rfl) ?_
                            clear hF hD
                            go_simp
                            exact hK _ _ (Below.refl _ _) (rt_eqS s120)
                          refine obsR_cons ?_ ?_
                          · intro T wx K hB hF hD hK
                            have g120 := get_eqS (hD 3 120 (by simp [Region.binds]) (by kernel_rfl)) s120
                            refine ob_yes (wanted_none rfl) ?_
                            clear hF hD
                            obtain ⟨c0, c1⟩ := prow_c (prow_below RG.out hB) 1 (by simp) 2 3 rfl rfl
                            simp only [List.getD_cons_zero, List.getD_cons_succ] at c0 c1
                            go_simp
                            exact hK _ _ (Below.refl _ _) (rt_eqS s121)
                          refine obsR_cons ?_ ?_
                          · intro T wx K hB hF hD hK
                            have g11 : T[11]? = some (.int .i64 0) := hF 11 (freeM_of (by kernel_rfl))
                            refine ob_yes (wanted_none rfl) ?_
                            clear hF hD
                            go_simp
                            exact hK _ _ (Below.refl _ _) (rt_eqS s122)
                          refine obsR_cons ?_ ?_
                          · intro T wx K hB hF hD hK
                            have g13 : T[13]? = some (.pointer (some ⟨b13, 0, none⟩)) := hF 13 (freeM_of (by kernel_rfl))
                            have g122 := get_eqS (hD 5 122 (by simp [Region.binds]) (by kernel_rfl)) s122
                            refine ob_yes (wanted_none rfl) ?_
                            clear hF hD
                            go_simp
                            exact hK _ _ (Below.refl _ _) (rt_eqS s123)
                          refine obsR_cons ?_ ?_
                          · intro T wx K hB hF hD hK
                            have g123 := get_eqS (hD 6 123 (by simp [Region.binds]) (by kernel_rfl)) s123
                            refine ob_yes (wanted_none rfl) ?_
                            clear hF hD
                            have c0 := blk_cell (blk_call H13.out hB) 0 _ rfl
                            have c1 := blk_cell (blk_call H13.out hB) 1 _ rfl
                            go_simp
                            exact hK _ _ (Below.refl _ _) (rt_eqS s124)
                          refine obsR_cons ?_ ?_
                          · intro T wx K hB hF hD hK
                            have g121 := get_eqS (hD 4 121 (by simp [Region.binds]) (by kernel_rfl)) s121
                            have g124 := get_eqS (hD 7 124 (by simp [Region.binds]) (by kernel_rfl)) s124
                            refine ob_yes (wanted_none rfl) ?_
                            clear hF hD
                            go_simp
                            refine (lfar_is z2 z3 X Y (farI z2 z3 X Y) _ (Lib.hid rfl) (inv_bdA (PCz.out (z2, z3) (by simp)).1) (inv_bdA (PCz.out (z2, z3) (by simp)).2) (by have := PB.out.1; have := WB.out; omega) (by have := PB.out.1; have := WB.out; omega)).mono ?_; rintro e w9 ⟨rfl, hb⟩
                            exact hK _ _ hb (rt_eqS s125)
                          refine obsR_cons ?_ ?_
                          · intro T wx K hB hF hD hK
                            have g16 : T[16]? = some (.pointer (some ⟨b16, 0, none⟩)) := hF 16 (freeM_of (by kernel_rfl))
                            refine ob_yes (wanted_none rfl) ?_
                            clear hF hD
                            go_simp
                            exact hK _ _ (Below.refl _ _) (rt_eqS s126)
                          refine obsR_cons ?_ ?_
                          · intro T wx K hB hF hD hK
                            have g126 := get_eqS (hD 9 126 (by simp [Region.binds]) (by kernel_rfl)) s126
                            refine ob_yes (wanted_none rfl) ?_
                            clear hF hD
                            have c0 := blk_cell (blk_call H16.out hB) 2 _ rfl
                            go_simp
                            exact hK _ _ (Below.refl _ _) (rt_eqS s127)
                          refine obsR_cons ?_ ?_
                          · intro T wx K hB hF hD hK
                            have g20 : T[20]? = some (.int .i64 1) := hF 20 (freeM_of (by kernel_rfl))
                            refine ob_yes (wanted_none rfl) ?_
                            clear hF hD
                            go_simp
                            exact hK _ _ (Below.refl _ _) (rt_eqS s128)
                          refine obsR_cons ?_ ?_
                          · intro T wx K hB hF hD hK
                            have g127 := get_eqS (hD 10 127 (by simp [Region.binds]) (by kernel_rfl)) s127
                            have g128 := get_eqS (hD 11 128 (by simp [Region.binds]) (by kernel_rfl)) s128
                            refine ob_yes (wanted_none rfl) ?_
                            clear hF hD
                            go_simp
                            exact hK _ _ (Below.refl _ _) (rt_eqS s129)
                          refine obsR_cons ?_ ?_
                          · intro T wx K hB hF hD hK
                            have g129 := get_eqS (hD 12 129 (by simp [Region.binds]) (by kernel_rfl)) s129
                            refine ob_yes (wanted_none rfl) ?_
                            clear hF hD
                            obtain ⟨c0, c1⟩ := prow_c (prow_below RM.out hB) 1 (by simp) 2 3 rfl rfl
                            simp only [List.getD_cons_zero, List.getD_cons_succ] at c0 c1
                            go_simp
                            exact hK _ _ (Below.refl _ _) (rt_eqS s130)
                          refine obsR_cons ?_ ?_
                          · intro T wx K hB hF hD hK
                            have g11 : T[11]? = some (.int .i64 0) := hF 11 (freeM_of (by kernel_rfl))
                            refine ob_yes (wanted_none rfl) ?_
                            clear hF hD
                            go_simp
                            exact hK _ _ (Below.refl _ _) (rt_eqS s131)
                          refine obsR_cons ?_ ?_
                          · intro T wx K hB hF hD hK
                            have g14 : T[14]? = some (.pointer (some ⟨b14, 0, none⟩)) := hF 14 (freeM_of (by kernel_rfl))
                            have g131 := get_eqS (hD 14 131 (by simp [Region.binds]) (by kernel_rfl)) s131
                            refine ob_yes (wanted_none rfl) ?_
                            clear hF hD
                            go_simp
                            exact hK _ _ (Below.refl _ _) (rt_eqS s132)
                          refine obsR_cons ?_ ?_
                          · intro T wx K hB hF hD hK
                            have g132 := get_eqS (hD 15 132 (by simp [Region.binds]) (by kernel_rfl)) s132
                            refine ob_yes (wanted_none rfl) ?_
                            clear hF hD
                            have c0 := blk_cell (blk_call H14.out hB) 0 _ rfl
                            have c1 := blk_cell (blk_call H14.out hB) 1 _ rfl
                            go_simp
                            exact hK _ _ (Below.refl _ _) (rt_eqS s133)
                          refine obsR_cons ?_ ?_
                          · intro T wx K hB hF hD hK
                            have g130 := get_eqS (hD 13 130 (by simp [Region.binds]) (by kernel_rfl)) s130
                            have g133 := get_eqS (hD 16 133 (by simp [Region.binds]) (by kernel_rfl)) s133
                            refine ob_yes (wanted_none rfl) ?_
                            clear hF hD
                            go_simp
                            refine (lfar_is o2 o3 X Y (farI z2 z3 X Y) _ (Lib.hid CH.out.2.2.2.2.2.2.2.1) (inv_bdA (PCo.out (o2, o3) (by simp)).1) (inv_bdA (PCo.out (o2, o3) (by simp)).2) (by have := PBq.out.1; have := WB.out; omega) (by have := PBq.out.1; have := WB.out; omega)).mono ?_; rintro e w9 ⟨rfl, hb⟩
                            exact hK _ _ hb (rt_eqS s134)
                          refine obsR_cons ?_ ?_
                          · intro T wx K hB hF hD hK
                            have g125 := get_eqS (hD 8 125 (by simp [Region.binds]) (by kernel_rfl)) s125
                            have g134 := get_eqS (hD 17 134 (by simp [Region.binds]) (by kernel_rfl)) s134
                            refine ob_yes (wanted_none rfl) ?_
                            clear hF hD
                            go_simp
                            exact hK _ _ (Below.refl _ _) (rt_eqS s135)
                          exact obsR_nil
                        · intro S9 U9 hb8 hF hs hD
                          have g117 := get_eqS (hD 0 117 (by decide) (by kernel_rfl)) s117
                          have g118 := get_eqS (hD 1 118 (by decide) (by kernel_rfl)) s118
                          have g119 := get_eqS (hD 2 119 (by decide) (by kernel_rfl)) s119
                          have g120 := get_eqS (hD 3 120 (by decide) (by kernel_rfl)) s120
                          have g121 := get_eqS (hD 4 121 (by decide) (by kernel_rfl)) s121
                          have g122 := get_eqS (hD 5 122 (by decide) (by kernel_rfl)) s122
                          have g123 := get_eqS (hD 6 123 (by decide) (by kernel_rfl)) s123
                          have g124 := get_eqS (hD 7 124 (by decide) (by kernel_rfl)) s124
                          have g125 := get_eqS (hD 8 125 (by decide) (by kernel_rfl)) s125
                          have g126 := get_eqS (hD 9 126 (by decide) (by kernel_rfl)) s126
                          have g127 := get_eqS (hD 10 127 (by decide) (by kernel_rfl)) s127
                          have g128 := get_eqS (hD 11 128 (by decide) (by kernel_rfl)) s128
                          have g129 := get_eqS (hD 12 129 (by decide) (by kernel_rfl)) s129
                          have g130 := get_eqS (hD 13 130 (by decide) (by kernel_rfl)) s130
                          have g131 := get_eqS (hD 14 131 (by decide) (by kernel_rfl)) s131
                          have g132 := get_eqS (hD 15 132 (by decide) (by kernel_rfl)) s132
                          have g133 := get_eqS (hD 16 133 (by decide) (by kernel_rfl)) s133
                          have g134 := get_eqS (hD 17 134 (by decide) (by kernel_rfl)) s134
                          have g135 := get_eqS (hD 18 135 (by decide) (by kernel_rfl)) s135
                          have hT := conc [(117, .pointer (some ⟨b15, 2, none⟩)), (118, .slice (some ⟨g2, 0, none⟩) 4 4), (119, .int .i64 1), (120, .pointer (some ⟨g2, 2, none⟩)), (121, .agg #[.int .i64 z2, .int .i64 z3]), (122, .int .i64 0), (123, .pointer (some ⟨b13, 0, none⟩)), (124, .agg #[.int .i64 X, .int .i64 Y]), (125, .int .i64 (farI z2 z3 X Y)), (126, .pointer (some ⟨b16, 2, none⟩)), (127, .slice (some ⟨m2, 0, none⟩) 4 4), (128, .int .i64 1), (129, .pointer (some ⟨m2, 2, none⟩)), (130, .agg #[.int .i64 o2, .int .i64 o3]), (131, .int .i64 0), (132, .pointer (some ⟨b14, 0, none⟩)), (133, .agg #[.int .i64 X, .int .i64 Y]), (134, .int .i64 (farI z2 z3 X Y)), (135, .bool false)] hs hF (by simp only [List.forall_mem_cons]; exact ⟨g117, g118, g119, g120, g121, g122, g123, g124, g125, g126, g127, g128, g129, g130, g131, g132, g133, g134, g135, fun p hp => absurd hp List.not_mem_nil⟩) (by kernel_rfl)
                          simp only [List.foldl, List.setIfInBounds_toArray, List.set_cons_succ, List.set_cons_zero] at hT
                          subst hT
                          clear hF hD hs g117 g118 g119 g120 g121 g122 g123 g124 g125 g126 g127 g128 g129 g130 g131 g132 g133 g134 g135 s117 s118 s119 s120 s121 s122 s123 s124 s125 s126 s127 s128 s129 s130 s131 s132 s133 s134 s135
                          replace H13 := Lib.hid (blk_call H13.out hb8)
                          replace H14 := Lib.hid (blk_call H14.out hb8)
                          replace H15 := Lib.hid (blk_call H15.out hb8)
                          replace H16 := Lib.hid (blk_call H16.out hb8)
                          replace RG := Lib.hid (prow_below RG.out hb8)
                          replace RM := Lib.hid (prow_below RM.out hb8)
                          replace B := Lib.hid (belT B.out hb8)
                          replace TT := Lib.hid (Tab.below TT.out hb8)
                          clear hb8
                          go_wp2_with fail
                          rw [rounds_succ]
                          go_wp2_with fail
                          obtain ⟨sp, hsp⟩ : ∃ sp : ToldS, sp = [none, none, none, none, none, none, none, none, none, none, none, none, none, none, none, none, none, none, none, none, none, none, none, none, none, none, none, none, none, none, none, none, none, none, none, none, none, none, none, none, none, none, none, none, none, none, none, none, none, none, none, none, none, none, none, none, none, none, none, none, none, none, none, none, none, none, none, none, none, none, none, none, none, none, none, none, none, none, none, none, none, none, none, none, none, none, none, none, none, none, none, none, none, none, none, none, none, none, none, none, none, none, none, none, none, none, none, none, none, none, none, none, none, none, none, none, none, some (eqS (.pointer (some ⟨b15, 2, none⟩))), some (eqS (.slice (some ⟨g2, 0, none⟩) 4 4)), some (eqS (.int .i64 2)), some (eqS (.pointer (some ⟨g2, 4, none⟩))), some (eqS (.agg #[.int .i64 z4, .int .i64 z5])), some (eqS (.int .i64 0)), some (eqS (.pointer (some ⟨b13, 0, none⟩))), some (eqS (.agg #[.int .i64 X, .int .i64 Y])), some (eqS (.int .i64 (farI z4 z5 X Y))), some (eqS (.pointer (some ⟨b16, 2, none⟩))), some (eqS (.slice (some ⟨m2, 0, none⟩) 4 4)), some (eqS (.int .i64 2)), some (eqS (.pointer (some ⟨m2, 4, none⟩))), some (eqS (.agg #[.int .i64 o4, .int .i64 o5])), some (eqS (.int .i64 0)), some (eqS (.pointer (some ⟨b14, 0, none⟩))), some (eqS (.agg #[.int .i64 X, .int .i64 Y])), some (eqS (.int .i64 (farI z4 z5 X Y))), some (eqS (.bool false))] := ⟨_, rfl⟩
                          have s117 : sp.getD 117 none = some (eqS (.pointer (some ⟨b15, 2, none⟩))) := by rw [hsp]; rfl
                          have s118 : sp.getD 118 none = some (eqS (.slice (some ⟨g2, 0, none⟩) 4 4)) := by rw [hsp]; rfl
                          have s119 : sp.getD 119 none = some (eqS (.int .i64 2)) := by rw [hsp]; rfl
                          have s120 : sp.getD 120 none = some (eqS (.pointer (some ⟨g2, 4, none⟩))) := by rw [hsp]; rfl
                          have s121 : sp.getD 121 none = some (eqS (.agg #[.int .i64 z4, .int .i64 z5])) := by rw [hsp]; rfl
                          have s122 : sp.getD 122 none = some (eqS (.int .i64 0)) := by rw [hsp]; rfl
                          have s123 : sp.getD 123 none = some (eqS (.pointer (some ⟨b13, 0, none⟩))) := by rw [hsp]; rfl
                          have s124 : sp.getD 124 none = some (eqS (.agg #[.int .i64 X, .int .i64 Y])) := by rw [hsp]; rfl
                          have s125 : sp.getD 125 none = some (eqS (.int .i64 (farI z4 z5 X Y))) := by rw [hsp]; rfl
                          have s126 : sp.getD 126 none = some (eqS (.pointer (some ⟨b16, 2, none⟩))) := by rw [hsp]; rfl
                          have s127 : sp.getD 127 none = some (eqS (.slice (some ⟨m2, 0, none⟩) 4 4)) := by rw [hsp]; rfl
                          have s128 : sp.getD 128 none = some (eqS (.int .i64 2)) := by rw [hsp]; rfl
                          have s129 : sp.getD 129 none = some (eqS (.pointer (some ⟨m2, 4, none⟩))) := by rw [hsp]; rfl
                          have s130 : sp.getD 130 none = some (eqS (.agg #[.int .i64 o4, .int .i64 o5])) := by rw [hsp]; rfl
                          have s131 : sp.getD 131 none = some (eqS (.int .i64 0)) := by rw [hsp]; rfl
                          have s132 : sp.getD 132 none = some (eqS (.pointer (some ⟨b14, 0, none⟩))) := by rw [hsp]; rfl
                          have s133 : sp.getD 133 none = some (eqS (.agg #[.int .i64 X, .int .i64 Y])) := by rw [hsp]; rfl
                          have s134 : sp.getD 134 none = some (eqS (.int .i64 (farI z4 z5 X Y))) := by rw [hsp]; rfl
                          have s135 : sp.getD 135 none = some (eqS (.bool false)) := by rw [hsp]; rfl
                          clear hsp
                          refine (wpIn_wide (n := 0)).1 (region_allR (RtS sp) (rtS_keep sp) rfl rfl rfl (by kernel_rfl) (by kernel_rfl) (by kernel_rfl) ?_ ?_)
                          · intro Q'
                            refine obsR_cons ?_ ?_
                            · intro T wx K hB hF hD hK
                              have g15 : T[15]? = some (.pointer (some ⟨b15, 0, none⟩)) := hF 15 (freeM_of (by kernel_rfl))
                              refine ob_yes (wanted_none rfl) ?_
                              clear hF hD
                              go_simp
                              exact hK _ _ (Below.refl _ _) (rt_eqS s117)
                            refine obsR_cons ?_ ?_
                            · intro T wx K hB hF hD hK
                              have g117 := get_eqS (hD 0 117 (by simp [Region.binds]) (by kernel_rfl)) s117
                              refine ob_yes (wanted_none rfl) ?_
                              clear hF hD
                              have c0 := blk_cell (blk_call H15.out hB) 2 _ rfl
                              go_simp
                              exact hK _ _ (Below.refl _ _) (rt_eqS s118)
                            refine obsR_cons ?_ ?_
                            · intro T wx K hB hF hD hK
                              have g20 : T[20]? = some (.int .i64 2) := hF 20 (freeM_of (by kernel_rfl))
                              refine ob_yes (wanted_none rfl) ?_
                              clear hF hD
                              go_simp
                              exact hK _ _ (Below.refl _ _) (rt_eqS s119)
                            refine obsR_cons ?_ ?_
                            · intro T wx K hB hF hD hK
                              have g118 := get_eqS (hD 1 118 (by simp [Region.binds]) (by kernel_rfl)) s118
                              have g119 := get_eqS (hD 2 119 (by simp [Region.binds]) (by kernel_rfl)) s119
                              refine ob_yes (wanted_none rfl) ?_
                              clear hF hD
                              go_simp
                              exact hK _ _ (Below.refl _ _) (rt_eqS s120)
                            refine obsR_cons ?_ ?_
                            · intro T wx K hB hF hD hK
                              have g120 := get_eqS (hD 3 120 (by simp [Region.binds]) (by kernel_rfl)) s120
                              refine ob_yes (wanted_none rfl) ?_
                              clear hF hD
                              obtain ⟨c0, c1⟩ := prow_c (prow_below RG.out hB) 2 (by simp) 4 5 rfl rfl
                              simp only [List.getD_cons_zero, List.getD_cons_succ] at c0 c1
                              go_simp
                              exact hK _ _ (Below.refl _ _) (rt_eqS s121)
                            refine obsR_cons ?_ ?_
                            · intro T wx K hB hF hD hK
                              have g11 : T[11]? = some (.int .i64 0) := hF 11 (freeM_of (by kernel_rfl))
                              refine ob_yes (wanted_none rfl) ?_
                              clear hF hD
                              go_simp
                              exact hK _ _ (Below.refl _ _) (rt_eqS s122)
                            refine obsR_cons ?_ ?_
                            · intro T wx K hB hF hD hK
                              have g13 : T[13]? = some (.pointer (some ⟨b13, 0, none⟩)) := hF 13 (freeM_of (by kernel_rfl))
                              have g122 := get_eqS (hD 5 122 (by simp [Region.binds]) (by kernel_rfl)) s122
                              refine ob_yes (wanted_none rfl) ?_
                              clear hF hD
                              go_simp
                              exact hK _ _ (Below.refl _ _) (rt_eqS s123)
                            refine obsR_cons ?_ ?_
                            · intro T wx K hB hF hD hK
                              have g123 := get_eqS (hD 6 123 (by simp [Region.binds]) (by kernel_rfl)) s123
                              refine ob_yes (wanted_none rfl) ?_
                              clear hF hD
                              have c0 := blk_cell (blk_call H13.out hB) 0 _ rfl
                              have c1 := blk_cell (blk_call H13.out hB) 1 _ rfl
                              go_simp
                              exact hK _ _ (Below.refl _ _) (rt_eqS s124)
                            refine obsR_cons ?_ ?_
                            · intro T wx K hB hF hD hK
                              have g121 := get_eqS (hD 4 121 (by simp [Region.binds]) (by kernel_rfl)) s121
                              have g124 := get_eqS (hD 7 124 (by simp [Region.binds]) (by kernel_rfl)) s124
                              refine ob_yes (wanted_none rfl) ?_
                              clear hF hD
                              go_simp
                              refine (lfar_is z4 z5 X Y (farI z4 z5 X Y) _ (Lib.hid rfl) (inv_bdA (PCz.out (z4, z5) (by simp)).1) (inv_bdA (PCz.out (z4, z5) (by simp)).2) (by have := PB.out.1; have := WB.out; omega) (by have := PB.out.1; have := WB.out; omega)).mono ?_; rintro e w9 ⟨rfl, hb⟩
                              exact hK _ _ hb (rt_eqS s125)
                            refine obsR_cons ?_ ?_
                            · intro T wx K hB hF hD hK
                              have g16 : T[16]? = some (.pointer (some ⟨b16, 0, none⟩)) := hF 16 (freeM_of (by kernel_rfl))
                              refine ob_yes (wanted_none rfl) ?_
                              clear hF hD
                              go_simp
                              exact hK _ _ (Below.refl _ _) (rt_eqS s126)
                            refine obsR_cons ?_ ?_
                            · intro T wx K hB hF hD hK
                              have g126 := get_eqS (hD 9 126 (by simp [Region.binds]) (by kernel_rfl)) s126
                              refine ob_yes (wanted_none rfl) ?_
                              clear hF hD
                              have c0 := blk_cell (blk_call H16.out hB) 2 _ rfl
                              go_simp
                              exact hK _ _ (Below.refl _ _) (rt_eqS s127)
                            refine obsR_cons ?_ ?_
                            · intro T wx K hB hF hD hK
                              have g20 : T[20]? = some (.int .i64 2) := hF 20 (freeM_of (by kernel_rfl))
                              refine ob_yes (wanted_none rfl) ?_
                              clear hF hD
                              go_simp
                              exact hK _ _ (Below.refl _ _) (rt_eqS s128)
                            refine obsR_cons ?_ ?_
                            · intro T wx K hB hF hD hK
                              have g127 := get_eqS (hD 10 127 (by simp [Region.binds]) (by kernel_rfl)) s127
                              have g128 := get_eqS (hD 11 128 (by simp [Region.binds]) (by kernel_rfl)) s128
                              refine ob_yes (wanted_none rfl) ?_
                              clear hF hD
                              go_simp
                              exact hK _ _ (Below.refl _ _) (rt_eqS s129)
                            refine obsR_cons ?_ ?_
                            · intro T wx K hB hF hD hK
                              have g129 := get_eqS (hD 12 129 (by simp [Region.binds]) (by kernel_rfl)) s129
                              refine ob_yes (wanted_none rfl) ?_
                              clear hF hD
                              obtain ⟨c0, c1⟩ := prow_c (prow_below RM.out hB) 2 (by simp) 4 5 rfl rfl
                              simp only [List.getD_cons_zero, List.getD_cons_succ] at c0 c1
                              go_simp
                              exact hK _ _ (Below.refl _ _) (rt_eqS s130)
                            refine obsR_cons ?_ ?_
                            · intro T wx K hB hF hD hK
                              have g11 : T[11]? = some (.int .i64 0) := hF 11 (freeM_of (by kernel_rfl))
                              refine ob_yes (wanted_none rfl) ?_
                              clear hF hD
                              go_simp
                              exact hK _ _ (Below.refl _ _) (rt_eqS s131)
                            refine obsR_cons ?_ ?_
                            · intro T wx K hB hF hD hK
                              have g14 : T[14]? = some (.pointer (some ⟨b14, 0, none⟩)) := hF 14 (freeM_of (by kernel_rfl))
                              have g131 := get_eqS (hD 14 131 (by simp [Region.binds]) (by kernel_rfl)) s131
                              refine ob_yes (wanted_none rfl) ?_
                              clear hF hD
                              go_simp
                              exact hK _ _ (Below.refl _ _) (rt_eqS s132)
                            refine obsR_cons ?_ ?_
                            · intro T wx K hB hF hD hK
                              have g132 := get_eqS (hD 15 132 (by simp [Region.binds]) (by kernel_rfl)) s132
                              refine ob_yes (wanted_none rfl) ?_
                              clear hF hD
                              have c0 := blk_cell (blk_call H14.out hB) 0 _ rfl
                              have c1 := blk_cell (blk_call H14.out hB) 1 _ rfl
                              go_simp
                              exact hK _ _ (Below.refl _ _) (rt_eqS s133)
                            refine obsR_cons ?_ ?_
                            · intro T wx K hB hF hD hK
                              have g130 := get_eqS (hD 13 130 (by simp [Region.binds]) (by kernel_rfl)) s130
                              have g133 := get_eqS (hD 16 133 (by simp [Region.binds]) (by kernel_rfl)) s133
                              refine ob_yes (wanted_none rfl) ?_
                              clear hF hD
                              go_simp
                              refine (lfar_is o4 o5 X Y (farI z4 z5 X Y) _ (Lib.hid CH.out.2.2.2.2.2.2.2.2.1) (inv_bdA (PCo.out (o4, o5) (by simp)).1) (inv_bdA (PCo.out (o4, o5) (by simp)).2) (by have := PBq.out.1; have := WB.out; omega) (by have := PBq.out.1; have := WB.out; omega)).mono ?_; rintro e w9 ⟨rfl, hb⟩
                              exact hK _ _ hb (rt_eqS s134)
                            refine obsR_cons ?_ ?_
                            · intro T wx K hB hF hD hK
                              have g125 := get_eqS (hD 8 125 (by simp [Region.binds]) (by kernel_rfl)) s125
                              have g134 := get_eqS (hD 17 134 (by simp [Region.binds]) (by kernel_rfl)) s134
                              refine ob_yes (wanted_none rfl) ?_
                              clear hF hD
                              go_simp
                              exact hK _ _ (Below.refl _ _) (rt_eqS s135)
                            exact obsR_nil
                          · intro S10 U10 hb8 hF hs hD
                            have g117 := get_eqS (hD 0 117 (by decide) (by kernel_rfl)) s117
                            have g118 := get_eqS (hD 1 118 (by decide) (by kernel_rfl)) s118
                            have g119 := get_eqS (hD 2 119 (by decide) (by kernel_rfl)) s119
                            have g120 := get_eqS (hD 3 120 (by decide) (by kernel_rfl)) s120
                            have g121 := get_eqS (hD 4 121 (by decide) (by kernel_rfl)) s121
                            have g122 := get_eqS (hD 5 122 (by decide) (by kernel_rfl)) s122
                            have g123 := get_eqS (hD 6 123 (by decide) (by kernel_rfl)) s123
                            have g124 := get_eqS (hD 7 124 (by decide) (by kernel_rfl)) s124
                            have g125 := get_eqS (hD 8 125 (by decide) (by kernel_rfl)) s125
                            have g126 := get_eqS (hD 9 126 (by decide) (by kernel_rfl)) s126
                            have g127 := get_eqS (hD 10 127 (by decide) (by kernel_rfl)) s127
                            have g128 := get_eqS (hD 11 128 (by decide) (by kernel_rfl)) s128
                            have g129 := get_eqS (hD 12 129 (by decide) (by kernel_rfl)) s129
                            have g130 := get_eqS (hD 13 130 (by decide) (by kernel_rfl)) s130
                            have g131 := get_eqS (hD 14 131 (by decide) (by kernel_rfl)) s131
                            have g132 := get_eqS (hD 15 132 (by decide) (by kernel_rfl)) s132
                            have g133 := get_eqS (hD 16 133 (by decide) (by kernel_rfl)) s133
                            have g134 := get_eqS (hD 17 134 (by decide) (by kernel_rfl)) s134
                            have g135 := get_eqS (hD 18 135 (by decide) (by kernel_rfl)) s135
                            have hT := conc [(117, .pointer (some ⟨b15, 2, none⟩)), (118, .slice (some ⟨g2, 0, none⟩) 4 4), (119, .int .i64 2), (120, .pointer (some ⟨g2, 4, none⟩)), (121, .agg #[.int .i64 z4, .int .i64 z5]), (122, .int .i64 0), (123, .pointer (some ⟨b13, 0, none⟩)), (124, .agg #[.int .i64 X, .int .i64 Y]), (125, .int .i64 (farI z4 z5 X Y)), (126, .pointer (some ⟨b16, 2, none⟩)), (127, .slice (some ⟨m2, 0, none⟩) 4 4), (128, .int .i64 2), (129, .pointer (some ⟨m2, 4, none⟩)), (130, .agg #[.int .i64 o4, .int .i64 o5]), (131, .int .i64 0), (132, .pointer (some ⟨b14, 0, none⟩)), (133, .agg #[.int .i64 X, .int .i64 Y]), (134, .int .i64 (farI z4 z5 X Y)), (135, .bool false)] hs hF (by simp only [List.forall_mem_cons]; exact ⟨g117, g118, g119, g120, g121, g122, g123, g124, g125, g126, g127, g128, g129, g130, g131, g132, g133, g134, g135, fun p hp => absurd hp List.not_mem_nil⟩) (by kernel_rfl)
                            simp only [List.foldl, List.setIfInBounds_toArray, List.set_cons_succ, List.set_cons_zero] at hT
                            subst hT
                            clear hF hD hs g117 g118 g119 g120 g121 g122 g123 g124 g125 g126 g127 g128 g129 g130 g131 g132 g133 g134 g135 s117 s118 s119 s120 s121 s122 s123 s124 s125 s126 s127 s128 s129 s130 s131 s132 s133 s134 s135
                            replace H13 := Lib.hid (blk_call H13.out hb8)
                            replace H14 := Lib.hid (blk_call H14.out hb8)
                            replace H15 := Lib.hid (blk_call H15.out hb8)
                            replace H16 := Lib.hid (blk_call H16.out hb8)
                            replace RG := Lib.hid (prow_below RG.out hb8)
                            replace RM := Lib.hid (prow_below RM.out hb8)
                            replace B := Lib.hid (belT B.out hb8)
                            replace TT := Lib.hid (Tab.below TT.out hb8)
                            clear hb8
                            go_wp2_with fail
                            rw [rounds_succ]
                            go_wp2_with fail
                            obtain ⟨sp, hsp⟩ : ∃ sp : ToldS, sp = [none, none, none, none, none, none, none, none, none, none, none, none, none, none, none, none, none, none, none, none, none, none, none, none, none, none, none, none, none, none, none, none, none, none, none, none, none, none, none, none, none, none, none, none, none, none, none, none, none, none, none, none, none, none, none, none, none, none, none, none, none, none, none, none, none, none, none, none, none, none, none, none, none, none, none, none, none, none, none, none, none, none, none, none, none, none, none, none, none, none, none, none, none, none, none, none, none, none, none, none, none, none, none, none, none, none, none, none, none, none, none, none, none, none, none, none, none, some (eqS (.pointer (some ⟨b15, 2, none⟩))), some (eqS (.slice (some ⟨g2, 0, none⟩) 4 4)), some (eqS (.int .i64 3)), some (eqS (.pointer (some ⟨g2, 6, none⟩))), some (eqS (.agg #[.int .i64 z6, .int .i64 z7])), some (eqS (.int .i64 0)), some (eqS (.pointer (some ⟨b13, 0, none⟩))), some (eqS (.agg #[.int .i64 X, .int .i64 Y])), some (eqS (.int .i64 (farI z6 z7 X Y))), some (eqS (.pointer (some ⟨b16, 2, none⟩))), some (eqS (.slice (some ⟨m2, 0, none⟩) 4 4)), some (eqS (.int .i64 3)), some (eqS (.pointer (some ⟨m2, 6, none⟩))), some (eqS (.agg #[.int .i64 o6, .int .i64 o7])), some (eqS (.int .i64 0)), some (eqS (.pointer (some ⟨b14, 0, none⟩))), some (eqS (.agg #[.int .i64 X, .int .i64 Y])), some (eqS (.int .i64 (farI z6 z7 X Y))), some (eqS (.bool false))] := ⟨_, rfl⟩
                            have s117 : sp.getD 117 none = some (eqS (.pointer (some ⟨b15, 2, none⟩))) := by rw [hsp]; rfl
                            have s118 : sp.getD 118 none = some (eqS (.slice (some ⟨g2, 0, none⟩) 4 4)) := by rw [hsp]; rfl
                            have s119 : sp.getD 119 none = some (eqS (.int .i64 3)) := by rw [hsp]; rfl
                            have s120 : sp.getD 120 none = some (eqS (.pointer (some ⟨g2, 6, none⟩))) := by rw [hsp]; rfl
                            have s121 : sp.getD 121 none = some (eqS (.agg #[.int .i64 z6, .int .i64 z7])) := by rw [hsp]; rfl
                            have s122 : sp.getD 122 none = some (eqS (.int .i64 0)) := by rw [hsp]; rfl
                            have s123 : sp.getD 123 none = some (eqS (.pointer (some ⟨b13, 0, none⟩))) := by rw [hsp]; rfl
                            have s124 : sp.getD 124 none = some (eqS (.agg #[.int .i64 X, .int .i64 Y])) := by rw [hsp]; rfl
                            have s125 : sp.getD 125 none = some (eqS (.int .i64 (farI z6 z7 X Y))) := by rw [hsp]; rfl
                            have s126 : sp.getD 126 none = some (eqS (.pointer (some ⟨b16, 2, none⟩))) := by rw [hsp]; rfl
                            have s127 : sp.getD 127 none = some (eqS (.slice (some ⟨m2, 0, none⟩) 4 4)) := by rw [hsp]; rfl
                            have s128 : sp.getD 128 none = some (eqS (.int .i64 3)) := by rw [hsp]; rfl
                            have s129 : sp.getD 129 none = some (eqS (.pointer (some ⟨m2, 6, none⟩))) := by rw [hsp]; rfl
                            have s130 : sp.getD 130 none = some (eqS (.agg #[.int .i64 o6, .int .i64 o7])) := by rw [hsp]; rfl
                            have s131 : sp.getD 131 none = some (eqS (.int .i64 0)) := by rw [hsp]; rfl
                            have s132 : sp.getD 132 none = some (eqS (.pointer (some ⟨b14, 0, none⟩))) := by rw [hsp]; rfl
                            have s133 : sp.getD 133 none = some (eqS (.agg #[.int .i64 X, .int .i64 Y])) := by rw [hsp]; rfl
                            have s134 : sp.getD 134 none = some (eqS (.int .i64 (farI z6 z7 X Y))) := by rw [hsp]; rfl
                            have s135 : sp.getD 135 none = some (eqS (.bool false)) := by rw [hsp]; rfl
                            clear hsp
                            refine (wpIn_wide (n := 0)).1 (region_allR (RtS sp) (rtS_keep sp) rfl rfl rfl (by kernel_rfl) (by kernel_rfl) (by kernel_rfl) ?_ ?_)
                            · intro Q'
                              refine obsR_cons ?_ ?_
                              · intro T wx K hB hF hD hK
                                have g15 : T[15]? = some (.pointer (some ⟨b15, 0, none⟩)) := hF 15 (freeM_of (by kernel_rfl))
                                refine ob_yes (wanted_none rfl) ?_
                                clear hF hD
                                go_simp
                                exact hK _ _ (Below.refl _ _) (rt_eqS s117)
                              refine obsR_cons ?_ ?_
                              · intro T wx K hB hF hD hK
                                have g117 := get_eqS (hD 0 117 (by simp [Region.binds]) (by kernel_rfl)) s117
                                refine ob_yes (wanted_none rfl) ?_
                                clear hF hD
                                have c0 := blk_cell (blk_call H15.out hB) 2 _ rfl
                                go_simp
                                exact hK _ _ (Below.refl _ _) (rt_eqS s118)
                              refine obsR_cons ?_ ?_
                              · intro T wx K hB hF hD hK
                                have g20 : T[20]? = some (.int .i64 3) := hF 20 (freeM_of (by kernel_rfl))
                                refine ob_yes (wanted_none rfl) ?_
                                clear hF hD
                                go_simp
                                exact hK _ _ (Below.refl _ _) (rt_eqS s119)
                              refine obsR_cons ?_ ?_
                              · intro T wx K hB hF hD hK
                                have g118 := get_eqS (hD 1 118 (by simp [Region.binds]) (by kernel_rfl)) s118
                                have g119 := get_eqS (hD 2 119 (by simp [Region.binds]) (by kernel_rfl)) s119
                                refine ob_yes (wanted_none rfl) ?_
                                clear hF hD
                                go_simp
                                exact hK _ _ (Below.refl _ _) (rt_eqS s120)
                              refine obsR_cons ?_ ?_
                              · intro T wx K hB hF hD hK
                                have g120 := get_eqS (hD 3 120 (by simp [Region.binds]) (by kernel_rfl)) s120
                                refine ob_yes (wanted_none rfl) ?_
                                clear hF hD
                                obtain ⟨c0, c1⟩ := prow_c (prow_below RG.out hB) 3 (by simp) 6 7 rfl rfl
                                simp only [List.getD_cons_zero, List.getD_cons_succ] at c0 c1
                                go_simp
                                exact hK _ _ (Below.refl _ _) (rt_eqS s121)
                              refine obsR_cons ?_ ?_
                              · intro T wx K hB hF hD hK
                                have g11 : T[11]? = some (.int .i64 0) := hF 11 (freeM_of (by kernel_rfl))
                                refine ob_yes (wanted_none rfl) ?_
                                clear hF hD
                                go_simp
                                exact hK _ _ (Below.refl _ _) (rt_eqS s122)
                              refine obsR_cons ?_ ?_
                              · intro T wx K hB hF hD hK
                                have g13 : T[13]? = some (.pointer (some ⟨b13, 0, none⟩)) := hF 13 (freeM_of (by kernel_rfl))
                                have g122 := get_eqS (hD 5 122 (by simp [Region.binds]) (by kernel_rfl)) s122
                                refine ob_yes (wanted_none rfl) ?_
                                clear hF hD
                                go_simp
                                exact hK _ _ (Below.refl _ _) (rt_eqS s123)
                              refine obsR_cons ?_ ?_
                              · intro T wx K hB hF hD hK
                                have g123 := get_eqS (hD 6 123 (by simp [Region.binds]) (by kernel_rfl)) s123
                                refine ob_yes (wanted_none rfl) ?_
                                clear hF hD
                                have c0 := blk_cell (blk_call H13.out hB) 0 _ rfl
                                have c1 := blk_cell (blk_call H13.out hB) 1 _ rfl
                                go_simp
                                exact hK _ _ (Below.refl _ _) (rt_eqS s124)
                              refine obsR_cons ?_ ?_
                              · intro T wx K hB hF hD hK
                                have g121 := get_eqS (hD 4 121 (by simp [Region.binds]) (by kernel_rfl)) s121
                                have g124 := get_eqS (hD 7 124 (by simp [Region.binds]) (by kernel_rfl)) s124
                                refine ob_yes (wanted_none rfl) ?_
                                clear hF hD
                                go_simp
                                refine (lfar_is z6 z7 X Y (farI z6 z7 X Y) _ (Lib.hid rfl) (inv_bdA (PCz.out (z6, z7) (by simp)).1) (inv_bdA (PCz.out (z6, z7) (by simp)).2) (by have := PB.out.1; have := WB.out; omega) (by have := PB.out.1; have := WB.out; omega)).mono ?_; rintro e w9 ⟨rfl, hb⟩
                                exact hK _ _ hb (rt_eqS s125)
                              refine obsR_cons ?_ ?_
                              · intro T wx K hB hF hD hK
                                have g16 : T[16]? = some (.pointer (some ⟨b16, 0, none⟩)) := hF 16 (freeM_of (by kernel_rfl))
                                refine ob_yes (wanted_none rfl) ?_
                                clear hF hD
                                go_simp
                                exact hK _ _ (Below.refl _ _) (rt_eqS s126)
                              refine obsR_cons ?_ ?_
                              · intro T wx K hB hF hD hK
                                have g126 := get_eqS (hD 9 126 (by simp [Region.binds]) (by kernel_rfl)) s126
                                refine ob_yes (wanted_none rfl) ?_
                                clear hF hD
                                have c0 := blk_cell (blk_call H16.out hB) 2 _ rfl
                                go_simp
                                exact hK _ _ (Below.refl _ _) (rt_eqS s127)
                              refine obsR_cons ?_ ?_
                              · intro T wx K hB hF hD hK
                                have g20 : T[20]? = some (.int .i64 3) := hF 20 (freeM_of (by kernel_rfl))
                                refine ob_yes (wanted_none rfl) ?_
                                clear hF hD
                                go_simp
                                exact hK _ _ (Below.refl _ _) (rt_eqS s128)
                              refine obsR_cons ?_ ?_
                              · intro T wx K hB hF hD hK
                                have g127 := get_eqS (hD 10 127 (by simp [Region.binds]) (by kernel_rfl)) s127
                                have g128 := get_eqS (hD 11 128 (by simp [Region.binds]) (by kernel_rfl)) s128
                                refine ob_yes (wanted_none rfl) ?_
                                clear hF hD
                                go_simp
                                exact hK _ _ (Below.refl _ _) (rt_eqS s129)
                              refine obsR_cons ?_ ?_
                              · intro T wx K hB hF hD hK
                                have g129 := get_eqS (hD 12 129 (by simp [Region.binds]) (by kernel_rfl)) s129
                                refine ob_yes (wanted_none rfl) ?_
                                clear hF hD
                                obtain ⟨c0, c1⟩ := prow_c (prow_below RM.out hB) 3 (by simp) 6 7 rfl rfl
                                simp only [List.getD_cons_zero, List.getD_cons_succ] at c0 c1
                                go_simp
                                exact hK _ _ (Below.refl _ _) (rt_eqS s130)
                              refine obsR_cons ?_ ?_
                              · intro T wx K hB hF hD hK
                                have g11 : T[11]? = some (.int .i64 0) := hF 11 (freeM_of (by kernel_rfl))
                                refine ob_yes (wanted_none rfl) ?_
                                clear hF hD
                                go_simp
                                exact hK _ _ (Below.refl _ _) (rt_eqS s131)
                              refine obsR_cons ?_ ?_
                              · intro T wx K hB hF hD hK
                                have g14 : T[14]? = some (.pointer (some ⟨b14, 0, none⟩)) := hF 14 (freeM_of (by kernel_rfl))
                                have g131 := get_eqS (hD 14 131 (by simp [Region.binds]) (by kernel_rfl)) s131
                                refine ob_yes (wanted_none rfl) ?_
                                clear hF hD
                                go_simp
                                exact hK _ _ (Below.refl _ _) (rt_eqS s132)
                              refine obsR_cons ?_ ?_
                              · intro T wx K hB hF hD hK
                                have g132 := get_eqS (hD 15 132 (by simp [Region.binds]) (by kernel_rfl)) s132
                                refine ob_yes (wanted_none rfl) ?_
                                clear hF hD
                                have c0 := blk_cell (blk_call H14.out hB) 0 _ rfl
                                have c1 := blk_cell (blk_call H14.out hB) 1 _ rfl
                                go_simp
                                exact hK _ _ (Below.refl _ _) (rt_eqS s133)
                              refine obsR_cons ?_ ?_
                              · intro T wx K hB hF hD hK
                                have g130 := get_eqS (hD 13 130 (by simp [Region.binds]) (by kernel_rfl)) s130
                                have g133 := get_eqS (hD 16 133 (by simp [Region.binds]) (by kernel_rfl)) s133
                                refine ob_yes (wanted_none rfl) ?_
                                clear hF hD
                                go_simp
                                refine (lfar_is o6 o7 X Y (farI z6 z7 X Y) _ (Lib.hid CH.out.2.2.2.2.2.2.2.2.2) (inv_bdA (PCo.out (o6, o7) (by simp)).1) (inv_bdA (PCo.out (o6, o7) (by simp)).2) (by have := PBq.out.1; have := WB.out; omega) (by have := PBq.out.1; have := WB.out; omega)).mono ?_; rintro e w9 ⟨rfl, hb⟩
                                exact hK _ _ hb (rt_eqS s134)
                              refine obsR_cons ?_ ?_
                              · intro T wx K hB hF hD hK
                                have g125 := get_eqS (hD 8 125 (by simp [Region.binds]) (by kernel_rfl)) s125
                                have g134 := get_eqS (hD 17 134 (by simp [Region.binds]) (by kernel_rfl)) s134
                                refine ob_yes (wanted_none rfl) ?_
                                clear hF hD
                                go_simp
                                exact hK _ _ (Below.refl _ _) (rt_eqS s135)
                              exact obsR_nil
                            · intro S11 U11 hb8 hF hs hD
                              have g117 := get_eqS (hD 0 117 (by decide) (by kernel_rfl)) s117
                              have g118 := get_eqS (hD 1 118 (by decide) (by kernel_rfl)) s118
                              have g119 := get_eqS (hD 2 119 (by decide) (by kernel_rfl)) s119
                              have g120 := get_eqS (hD 3 120 (by decide) (by kernel_rfl)) s120
                              have g121 := get_eqS (hD 4 121 (by decide) (by kernel_rfl)) s121
                              have g122 := get_eqS (hD 5 122 (by decide) (by kernel_rfl)) s122
                              have g123 := get_eqS (hD 6 123 (by decide) (by kernel_rfl)) s123
                              have g124 := get_eqS (hD 7 124 (by decide) (by kernel_rfl)) s124
                              have g125 := get_eqS (hD 8 125 (by decide) (by kernel_rfl)) s125
                              have g126 := get_eqS (hD 9 126 (by decide) (by kernel_rfl)) s126
                              have g127 := get_eqS (hD 10 127 (by decide) (by kernel_rfl)) s127
                              have g128 := get_eqS (hD 11 128 (by decide) (by kernel_rfl)) s128
                              have g129 := get_eqS (hD 12 129 (by decide) (by kernel_rfl)) s129
                              have g130 := get_eqS (hD 13 130 (by decide) (by kernel_rfl)) s130
                              have g131 := get_eqS (hD 14 131 (by decide) (by kernel_rfl)) s131
                              have g132 := get_eqS (hD 15 132 (by decide) (by kernel_rfl)) s132
                              have g133 := get_eqS (hD 16 133 (by decide) (by kernel_rfl)) s133
                              have g134 := get_eqS (hD 17 134 (by decide) (by kernel_rfl)) s134
                              have g135 := get_eqS (hD 18 135 (by decide) (by kernel_rfl)) s135
                              have hT := conc [(117, .pointer (some ⟨b15, 2, none⟩)), (118, .slice (some ⟨g2, 0, none⟩) 4 4), (119, .int .i64 3), (120, .pointer (some ⟨g2, 6, none⟩)), (121, .agg #[.int .i64 z6, .int .i64 z7]), (122, .int .i64 0), (123, .pointer (some ⟨b13, 0, none⟩)), (124, .agg #[.int .i64 X, .int .i64 Y]), (125, .int .i64 (farI z6 z7 X Y)), (126, .pointer (some ⟨b16, 2, none⟩)), (127, .slice (some ⟨m2, 0, none⟩) 4 4), (128, .int .i64 3), (129, .pointer (some ⟨m2, 6, none⟩)), (130, .agg #[.int .i64 o6, .int .i64 o7]), (131, .int .i64 0), (132, .pointer (some ⟨b14, 0, none⟩)), (133, .agg #[.int .i64 X, .int .i64 Y]), (134, .int .i64 (farI z6 z7 X Y)), (135, .bool false)] hs hF (by simp only [List.forall_mem_cons]; exact ⟨g117, g118, g119, g120, g121, g122, g123, g124, g125, g126, g127, g128, g129, g130, g131, g132, g133, g134, g135, fun p hp => absurd hp List.not_mem_nil⟩) (by kernel_rfl)
                              simp only [List.foldl, List.setIfInBounds_toArray, List.set_cons_succ, List.set_cons_zero] at hT
                              subst hT
                              clear hF hD hs g117 g118 g119 g120 g121 g122 g123 g124 g125 g126 g127 g128 g129 g130 g131 g132 g133 g134 g135 s117 s118 s119 s120 s121 s122 s123 s124 s125 s126 s127 s128 s129 s130 s131 s132 s133 s134 s135
                              replace H13 := Lib.hid (blk_call H13.out hb8)
                              replace H14 := Lib.hid (blk_call H14.out hb8)
                              replace H15 := Lib.hid (blk_call H15.out hb8)
                              replace H16 := Lib.hid (blk_call H16.out hb8)
                              replace RG := Lib.hid (prow_below RG.out hb8)
                              replace RM := Lib.hid (prow_below RM.out hb8)
                              replace B := Lib.hid (belT B.out hb8)
                              replace TT := Lib.hid (Tab.below TT.out hb8)
                              clear hb8
                              go_wp2_with fail
                              rw [rounds_succ]
                              go_wp2_with fail
                              go_ret
                              exact ⟨rfl, B.out⟩
end Go.Proofs.YtalhkcmlacppjaaDoor.armMovesAsChain

