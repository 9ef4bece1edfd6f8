/- Helpers: what the law reaches. -/
import Derived.Test.YtalhkcmlacppjaaGreatDoorZlDirs
import Derived.Test.YtalhkcmlacppjaaGreatDoorZlHb
namespace Go.Proofs.YtalhkcmlacppjaaGreatDoor
open Go.ChangeShapes Go.WideShapes Go.ChangeAt Go.RowKit
set_option linter.unusedVariables false
set_option linter.unusedSimpArgs false
set_option maxRecDepth 100000
theorem ixI (a b c : Int) (w : World) : (Instr.index 24 (.agg #[.int .i64 a, .int .i64 b, .int .i64 c]) (.int .i64 0)).run Tryz.prog w = .ok (.int .i64 a) w ∧ (Instr.index 24 (.agg #[.int .i64 a, .int .i64 b, .int .i64 c]) (.int .i64 1)).run Tryz.prog w = .ok (.int .i64 b) w ∧ (Instr.index 24 (.agg #[.int .i64 a, .int .i64 b, .int .i64 c]) (.int .i64 2)).run Tryz.prog w = .ok (.int .i64 c) w := by
  refine ⟨?_, ?_, ?_⟩ <;> simp [Instr.index, run_underlying Tryz.underlying24, asInt, asIntOf, part, Tryz.sizeOf3, Tryz.isAgg3]
theorem ixJ (a b c : Int) (w : World) : (Instr.index 25 (.agg #[.int .i64 a, .int .i64 b, .int .i64 c]) (.int .i64 0)).run Tryz.prog w = .ok (.int .i64 a) w ∧ (Instr.index 25 (.agg #[.int .i64 a, .int .i64 b, .int .i64 c]) (.int .i64 1)).run Tryz.prog w = .ok (.int .i64 b) w ∧ (Instr.index 25 (.agg #[.int .i64 a, .int .i64 b, .int .i64 c]) (.int .i64 2)).run Tryz.prog w = .ok (.int .i64 c) w := by
  refine ⟨?_, ?_, ?_⟩ <;> simp [Instr.index, run_underlying Tryz.underlying25, asInt, asIntOf, part, Tryz.sizeOf3, Tryz.isAgg3]
theorem btw_any (x a b : Int) (w : World) :
    Calls Tryz.prog 55 #[.int .i64 x, .int .i64 a, .int .i64 b] w fun e w' => e = .returned (.bool (decide (a ≤ x ∧ x ≤ b))) ∧ w = w' := by
  by_cases h1 : a ≤ x
  all_goals
    go_enter Tryz.func55, Tryz.ntmps55
    go_wp2
    go_ret
    exact ⟨ret_bool (by simp [h1] <;> omega), rfl⟩
theorem btw_is (x a b : Int) (t : Bool) (w : World) (h : Hid (decide (a ≤ x ∧ x ≤ b) = t)) :
    Calls Tryz.prog 55 #[.int .i64 x, .int .i64 a, .int .i64 b] w fun e w' => e = .returned (.bool t) ∧ w = w' := by
  rw [← h.out]
  exact btw_any x a b w
def coordB (x room : Int) : Bool := decide (x % 16 = 0 ∧ -room ≤ x ∧ x ≤ room)
theorem coord_any (x r : Int) (t : Bool) (w : World) (hr : -100000000000 ≤ r ∧ r ≤ 100000000000) (ht : Hid (coordB x r = t)) :
    Calls Tryz.prog 91 #[.int .i64 x, .int .i64 r] w fun e w' => e = .returned (.bool t) ∧ w = w' := by
  by_cases h1 : x % 16 = 0
  · have k1 : x.tmod 16 = 0 := by rw [Int.tmod_eq_emod]; split <;> omega
    go_enter Tryz.func91, Tryz.ntmps91
    go_wp2_with (go_at_call 55; refine (btw_any _ _ _ _).mono ?_; rintro e w' ⟨rfl, rfl⟩)
    go_ret
    exact ⟨ret_bool (by rw [← ht.out]; unfold coordB; simp [h1]), rfl⟩
  · have k1 : ¬ x.tmod 16 = 0 := by rw [Int.tmod_eq_emod]; split <;> omega
    go_enter Tryz.func91, Tryz.ntmps91
    go_wp2
    go_ret
    exact ⟨ret_bool (by rw [← ht.out]; unfold coordB; simp [h1]), rfl⟩
def sizesB (n0 n1 n2 W : Int) : Bool := decide ((1 ≤ n0 ∧ n0 ≤ 40) ∧ (1 ≤ n1 ∧ n1 ≤ 40) ∧ (1 ≤ n2 ∧ n2 ≤ 40) ∧ 1 ≤ W ∧ W ≤ 4)
theorem sizes_any (X Y n0 n1 n2 W l0 l1 l2 h0 h1 h2 : Int) (w : World) :
    Calls Tryz.prog 60 #[.agg #[.int .i64 X, .int .i64 Y, .int .i64 n0, .int .i64 n1, .int .i64 n2, .int .i64 W, .int .i64 l0, .int .i64 l1, .int .i64 l2, .int .i64 h0, .int .i64 h1, .int .i64 h2]] w fun e w' => e = .returned (.bool (sizesB n0 n1 n2 W)) ∧ Below w.heap.size w w' := by
  have I0 := fun w => (ixI n0 n1 n2 w).1
  have I1 := fun w => (ixI n0 n1 n2 w).2.1
  have I2 := fun w => (ixI n0 n1 n2 w).2.2
  go_enter Tryz.func60, Tryz.ntmps60
  go_wp2_with fail
  refine wp_loop_rounds 4 ?_
  by_cases k0 : 1 ≤ n0 ∧ n0 ≤ 40
  · by_cases k1 : 1 ≤ n1 ∧ n1 ≤ 40
    · by_cases k2 : 1 ≤ n2 ∧ n2 ≤ 40
      · repeat (rw [rounds_succ]; go_wp2_with (go_at_call 55; refine (btw_any _ _ _ _).mono ?_; rintro e w' ⟨rfl, rfl⟩))
        go_ret
        exact ⟨ret_bool (by unfold sizesB; simp [k0, k1, k2]), by go_grown⟩
      · repeat (rw [rounds_succ]; go_wp2_with (go_at_call 55; refine (btw_any _ _ _ _).mono ?_; rintro e w' ⟨rfl, rfl⟩))
        go_ret
        exact ⟨ret_bool (by unfold sizesB; simp [k2]), by go_grown⟩
    · repeat (rw [rounds_succ]; go_wp2_with (go_at_call 55; refine (btw_any _ _ _ _).mono ?_; rintro e w' ⟨rfl, rfl⟩))
      go_ret
      exact ⟨ret_bool (by unfold sizesB; simp [k1]), by go_grown⟩
  · repeat (rw [rounds_succ]; go_wp2_with (go_at_call 55; refine (btw_any _ _ _ _).mono ?_; rintro e w' ⟨rfl, rfl⟩))
    go_ret
    exact ⟨ret_bool (by unfold sizesB; simp [k0]), by go_grown⟩
def limitsB (l0 l1 l2 h0 h1 h2 : Int) : Bool := decide ((-17 ≤ l0 ∧ l0 ≤ h0 ∧ h0 ≤ 18) ∧ (-17 ≤ l1 ∧ l1 ≤ h1 ∧ h1 ≤ 18) ∧ (-17 ≤ l2 ∧ l2 ≤ h2 ∧ h2 ≤ 18))
set_option maxHeartbeats 1000000 in
theorem limits_any (X Y n0 n1 n2 W l0 l1 l2 h0 h1 h2 : Int) (w : World) :
    Calls Tryz.prog 61 #[.agg #[.int .i64 X, .int .i64 Y, .int .i64 n0, .int .i64 n1, .int .i64 n2, .int .i64 W, .int .i64 l0, .int .i64 l1, .int .i64 l2, .int .i64 h0, .int .i64 h1, .int .i64 h2]] w fun e w' => e = .returned (.bool (limitsB l0 l1 l2 h0 h1 h2)) ∧ Below w.heap.size w w' := by
  have I0 := fun w => (ixJ l0 l1 l2 w).1
  have I1 := fun w => (ixJ l0 l1 l2 w).2.1
  have I2 := fun w => (ixJ l0 l1 l2 w).2.2
  go_enter Tryz.func61, Tryz.ntmps61
  go_wp2_with fail
  refine wp_loop_rounds 4 ?_
  by_cases a0 : l0 < -17
  · repeat (rw [rounds_succ]; go_wp2_with fail)
    go_ret
    exact ⟨ret_bool (by unfold limitsB; simp; omega), by go_grown⟩
  by_cases b0 : h0 < l0
  · repeat (rw [rounds_succ]; go_wp2_with fail)
    go_ret
    exact ⟨ret_bool (by unfold limitsB; simp; omega), by go_grown⟩
  by_cases c0 : 18 < h0
  · repeat (rw [rounds_succ]; go_wp2_with fail)
    go_ret
    exact ⟨ret_bool (by unfold limitsB; simp; omega), by go_grown⟩
  by_cases a1 : l1 < -17
  · repeat (rw [rounds_succ]; go_wp2_with fail)
    go_ret
    exact ⟨ret_bool (by unfold limitsB; simp; omega), by go_grown⟩
  by_cases b1 : h1 < l1
  · repeat (rw [rounds_succ]; go_wp2_with fail)
    go_ret
    exact ⟨ret_bool (by unfold limitsB; simp; omega), by go_grown⟩
  by_cases c1 : 18 < h1
  · repeat (rw [rounds_succ]; go_wp2_with fail)
    go_ret
    exact ⟨ret_bool (by unfold limitsB; simp; omega), by go_grown⟩
  by_cases a2 : l2 < -17
  · repeat (rw [rounds_succ]; go_wp2_with fail)
    go_ret
    exact ⟨ret_bool (by unfold limitsB; simp; omega), by go_grown⟩
  by_cases b2 : h2 < l2
  · repeat (rw [rounds_succ]; go_wp2_with fail)
    go_ret
    exact ⟨ret_bool (by unfold limitsB; simp; omega), by go_grown⟩
  by_cases c2 : 18 < h2
  · repeat (rw [rounds_succ]; go_wp2_with fail)
    go_ret
    exact ⟨ret_bool (by unfold limitsB; simp; omega), by go_grown⟩
  repeat (rw [rounds_succ]; go_wp2_with fail)
  go_ret
  exact ⟨ret_bool (by unfold limitsB; simp; omega), by go_grown⟩
end Go.Proofs.YtalhkcmlacppjaaGreatDoor

namespace Go.Proofs.YtalhkcmlacppjaaGreatDoor
open Go.ChangeShapes Go.WideShapes Go.ChangeAt Go.RowKit
set_option linter.unusedVariables false
set_option linter.unusedSimpArgs false
set_option maxRecDepth 100000

def baseB (X Y n0 n1 n2 W : Int) : Bool := coordB X ((100 - (W + n0 + n1 + n2)) * 4394000) && coordB Y ((100 - (W + n0 + n1 + n2)) * 4394000)
set_option maxHeartbeats 1000000 in
theorem base_any (X Y n0 n1 n2 W l0 l1 l2 h0 h1 h2 : Int) (w : World) (hs : sizesB n0 n1 n2 W = true) :
    Calls Tryz.prog 62 #[.agg #[.int .i64 X, .int .i64 Y, .int .i64 n0, .int .i64 n1, .int .i64 n2, .int .i64 W, .int .i64 l0, .int .i64 l1, .int .i64 l2, .int .i64 h0, .int .i64 h1, .int .i64 h2]] w fun e w' => e = .returned (.bool (baseB X Y n0 n1 n2 W)) ∧ Below w.heap.size w w' := by
  have hs' := of_decide_eq_true hs
  have I0 := fun w => (ixI n0 n1 n2 w).1
  have I1 := fun w => (ixI n0 n1 n2 w).2.1
  have I2 := fun w => (ixI n0 n1 n2 w).2.2
  unfold baseB
  obtain ⟨tx, hx⟩ : ∃ t, coordB X ((100 - (W + n0 + n1 + n2)) * 4394000) = t := ⟨_, rfl⟩
  obtain ⟨ty, hy⟩ : ∃ t, coordB Y ((100 - (W + n0 + n1 + n2)) * 4394000) = t := ⟨_, rfl⟩
  have HX := Lib.hid hx
  have HY := Lib.hid hy
  rw [hx, hy]
  clear hx hy
  have CX := fun w => coord_any X ((100 - (W + n0 + n1 + n2)) * 4394000) tx w (by omega) HX
  have CY := fun w => coord_any Y ((100 - (W + n0 + n1 + n2)) * 4394000) ty w (by omega) HY
  clear HX HY hs
  have CX := Lib.hid CX
  have CY := Lib.hid CY
  cases tx
  all_goals
    go_enter Tryz.func62, Tryz.ntmps62
    go_wp2_with fail
    refine wp_loop_rounds 4 ?_
    repeat (rw [rounds_succ]; go_wp2_with (go_at_call 91; (first | with_reducible refine (CX.out _).mono ?_ | with_reducible refine (CY.out _).mono ?_); rintro e w' ⟨rfl, rfl⟩))
    go_ret
    exact ⟨ret_bool rfl, by go_grown⟩
def armB (X Y n0 n1 n2 W l0 l1 l2 h0 h1 h2 : Int) : Bool := sizesB n0 n1 n2 W && (limitsB l0 l1 l2 h0 h1 h2 && baseB X Y n0 n1 n2 W)
theorem armB_iff (X Y n0 n1 n2 W l0 l1 l2 h0 h1 h2 : Int) : armB X Y n0 n1 n2 W l0 l1 l2 h0 h1 h2 = true ↔ ((1 ≤ n0 ∧ n0 ≤ 40) ∧ (1 ≤ n1 ∧ n1 ≤ 40) ∧ (1 ≤ n2 ∧ n2 ≤ 40) ∧ 1 ≤ W ∧ W ≤ 4) ∧ ((-17 ≤ l0 ∧ l0 ≤ h0 ∧ h0 ≤ 18) ∧ (-17 ≤ l1 ∧ l1 ≤ h1 ∧ h1 ≤ 18) ∧ (-17 ≤ l2 ∧ l2 ≤ h2 ∧ h2 ≤ 18)) ∧ (X % 16 = 0 ∧ -((100 - (W + n0 + n1 + n2)) * 4394000) ≤ X ∧ X ≤ ((100 - (W + n0 + n1 + n2)) * 4394000)) ∧ Y % 16 = 0 ∧ -((100 - (W + n0 + n1 + n2)) * 4394000) ≤ Y ∧ Y ≤ ((100 - (W + n0 + n1 + n2)) * 4394000) := by
  unfold armB baseB sizesB limitsB coordB
  simp only [Bool.and_eq_true, decide_eq_true_eq]
set_option maxHeartbeats 2000000 in
theorem armv_any (X Y n0 n1 n2 W l0 l1 l2 h0 h1 h2 : Int) (w : World) :
    Calls Tryz.prog 23 #[.agg #[.int .i64 X, .int .i64 Y, .int .i64 n0, .int .i64 n1, .int .i64 n2, .int .i64 W, .int .i64 l0, .int .i64 l1, .int .i64 l2, .int .i64 h0, .int .i64 h1, .int .i64 h2]] w fun e w' => e = .returned (.bool (armB X Y n0 n1 n2 W l0 l1 l2 h0 h1 h2)) ∧ Below w.heap.size w w' := by
  by_cases s1 : sizesB n0 n1 n2 W = true
  · by_cases s2 : limitsB l0 l1 l2 h0 h1 h2 = true
    · obtain ⟨t, ht⟩ : ∃ t, baseB X Y n0 n1 n2 W = t := ⟨_, rfl⟩
      have hT : Hid (armB X Y n0 n1 n2 W l0 l1 l2 h0 h1 h2 = t) := Lib.hid (by unfold armB; rw [s1, s2, ht]; rfl)
      have b3 := base_any X Y n0 n1 n2 W l0 l1 l2 h0 h1 h2
      rw [ht] at b3
      have b1 := sizes_any X Y n0 n1 n2 W l0 l1 l2 h0 h1 h2
      rw [s1] at b1
      have b2 := limits_any X Y n0 n1 n2 W l0 l1 l2 h0 h1 h2
      rw [s2] at b2
      have H1 := Lib.hid b1
      have H2 := Lib.hid b2
      have H3 := Lib.hid b3
      have S1 := Lib.hid s1
      clear b1 b2 b3 s1 s2 ht
      go_enter Tryz.func23, Tryz.ntmps23
      go_wp2_with fail
      refine (H1.out _).mono ?_
      rintro e w1 ⟨rfl, hb1⟩
      obtain ⟨hc1, hf1⟩ := bcellR hb1
      have B1 := Lib.hid (belT (belA (Below.refl _ w) _) hb1)
      have k1 : w.heap.size < w1.heap.size := by have := hb1.size; simp at this; omega
      clear hb1
      go_wp2_with fail
      refine (H2.out _).mono ?_
      rintro e w2 ⟨rfl, hb2⟩
      obtain ⟨hc2, hf2⟩ := bcellR hb2
      have B2 := Lib.hid (belT B1.out hb2)
      have k2 : w.heap.size < w2.heap.size := by have := hb2.size; omega
      clear hb2
      go_wp2_with fail
      refine (H3.out _ S1.out).mono ?_
      rintro e w3 ⟨rfl, hb3⟩
      have B3 := Lib.hid (belT B2.out hb3)
      clear hb3
      go_wp2_with fail
      go_ret
      exact ⟨ret_bool hT.out.symm, B3.out⟩
    · have s2' : limitsB l0 l1 l2 h0 h1 h2 = false := by simpa using s2
      have hT : Hid (armB X Y n0 n1 n2 W l0 l1 l2 h0 h1 h2 = false) := Lib.hid (by unfold armB; rw [s1, s2']; rfl)
      have b1 := sizes_any X Y n0 n1 n2 W l0 l1 l2 h0 h1 h2
      rw [s1] at b1
      have b2 := limits_any X Y n0 n1 n2 W l0 l1 l2 h0 h1 h2
      rw [s2'] at b2
      have H1 := Lib.hid b1
      have H2 := Lib.hid b2
      clear b1 b2 s1 s2 s2'
      go_enter Tryz.func23, Tryz.ntmps23
      go_wp2_with fail
      refine (H1.out _).mono ?_
      rintro e w1 ⟨rfl, hb1⟩
      obtain ⟨hc1, hf1⟩ := bcellR hb1
      have B1 := Lib.hid (belT (belA (Below.refl _ w) _) hb1)
      have k1 : w.heap.size < w1.heap.size := by have := hb1.size; simp at this; omega
      clear hb1
      go_wp2_with fail
      refine (H2.out _).mono ?_
      rintro e w2 ⟨rfl, hb2⟩
      have B2 := Lib.hid (belT B1.out hb2)
      clear hb2
      go_wp2_with fail
      go_ret
      exact ⟨ret_bool hT.out.symm, B2.out⟩
  · have s1' : sizesB n0 n1 n2 W = false := by simpa using s1
    have hT : Hid (armB X Y n0 n1 n2 W l0 l1 l2 h0 h1 h2 = false) := Lib.hid (by unfold armB; rw [s1']; rfl)
    have b1 := sizes_any X Y n0 n1 n2 W l0 l1 l2 h0 h1 h2
    rw [s1'] at b1
    have H1 := Lib.hid b1
    clear b1 s1 s1'
    go_enter Tryz.func23, Tryz.ntmps23
    go_wp2_with fail
    refine (H1.out _).mono ?_
    rintro e w1 ⟨rfl, hb1⟩
    have B1 := Lib.hid (belT (belA (Below.refl _ w) _) hb1)
    clear hb1
    go_wp2_with fail
    go_ret
    exact ⟨ret_bool hT.out.symm, B1.out⟩
theorem armv_is (X Y n0 n1 n2 W l0 l1 l2 h0 h1 h2 : Int) (t : Bool) (w : World) (h : Hid (armB X Y n0 n1 n2 W l0 l1 l2 h0 h1 h2 = t)) :
    Calls Tryz.prog 23 #[.agg #[.int .i64 X, .int .i64 Y, .int .i64 n0, .int .i64 n1, .int .i64 n2, .int .i64 W, .int .i64 l0, .int .i64 l1, .int .i64 l2, .int .i64 h0, .int .i64 h1, .int .i64 h2]] w fun e w' => e = .returned (.bool t) ∧ Below w.heap.size w w' := by
  rw [← h.out]
  exact armv_any X Y n0 n1 n2 W l0 l1 l2 h0 h1 h2 w
end Go.Proofs.YtalhkcmlacppjaaGreatDoor

