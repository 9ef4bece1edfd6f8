/- Contracts of package arm: validity, limits. No condition on memory. -/
import Derived.Test.YtalhkcmlacppjaaDoorRefB
import Derived.Test.YtalhkcmlacppjaaDoorHb
namespace Go.Proofs.YtalhkcmlacppjaaDoor
open Go.ChangeShapes Go.WideShapes Go.ChangeAt Go.RowKit
set_option linter.unusedVariables false
set_option linter.unusedSimpArgs false
set_option maxRecDepth 100000
theorem ixI (a b c : Int) (w : World) : (Instr.index 24 (.agg #[.int .i64 a, .int .i64 b, .int .i64 c]) (.int .i64 0)).run Tryd.prog w = .ok (.int .i64 a) w ∧ (Instr.index 24 (.agg #[.int .i64 a, .int .i64 b, .int .i64 c]) (.int .i64 1)).run Tryd.prog w = .ok (.int .i64 b) w ∧ (Instr.index 24 (.agg #[.int .i64 a, .int .i64 b, .int .i64 c]) (.int .i64 2)).run Tryd.prog w = .ok (.int .i64 c) w := by
  refine ⟨?_, ?_, ?_⟩ <;> simp [Instr.index, run_underlying Tryd.underlying24, asInt, asIntOf, part, Tryd.sizeOf3, Tryd.isAgg3]
theorem ixJ (a b c : Int) (w : World) : (Instr.index 25 (.agg #[.int .i64 a, .int .i64 b, .int .i64 c]) (.int .i64 0)).run Tryd.prog w = .ok (.int .i64 a) w ∧ (Instr.index 25 (.agg #[.int .i64 a, .int .i64 b, .int .i64 c]) (.int .i64 1)).run Tryd.prog w = .ok (.int .i64 b) w ∧ (Instr.index 25 (.agg #[.int .i64 a, .int .i64 b, .int .i64 c]) (.int .i64 2)).run Tryd.prog w = .ok (.int .i64 c) w := by
  refine ⟨?_, ?_, ?_⟩ <;> simp [Instr.index, run_underlying Tryd.underlying25, asInt, asIntOf, part, Tryd.sizeOf3, Tryd.isAgg3]
theorem ixR (a b c : Int) (w : World) : (Instr.index 28 (.agg #[.int .u8 a, .int .u8 b, .int .u8 c]) (.int .i64 0)).run Tryd.prog w = .ok (.int .u8 a) w ∧ (Instr.index 28 (.agg #[.int .u8 a, .int .u8 b, .int .u8 c]) (.int .i64 1)).run Tryd.prog w = .ok (.int .u8 b) w ∧ (Instr.index 28 (.agg #[.int .u8 a, .int .u8 b, .int .u8 c]) (.int .i64 2)).run Tryd.prog w = .ok (.int .u8 c) w := by
  refine ⟨?_, ?_, ?_⟩ <;> simp [Instr.index, run_underlying Tryd.underlying28, asInt, asIntOf, part, Tryd.sizeOf5, Tryd.isAgg5]

theorem btw_any (x a b : Int) (w : World) :
    Calls Tryd.prog 40 #[.int .i64 x, .int .i64 a, .int .i64 b] w fun e w' => e = .returned (.bool (decide (a ≤ x ∧ x ≤ b))) ∧ w = w' := by
  by_cases h1 : a ≤ x
  all_goals
    go_enter Tryd.func40, Tryd.ntmps40
    go_wp2
    go_ret
    exact ⟨ret_bool (by simp [h1] <;> omega), rfl⟩
theorem btw_is (x a b : Int) (t : Bool) (w : World) (h : Hid (decide (a ≤ x ∧ x ≤ b) = t)) :
    Calls Tryd.prog 40 #[.int .i64 x, .int .i64 a, .int .i64 b] w fun e w' => e = .returned (.bool t) ∧ w = w' := by
  rw [← h.out]
  exact btw_any x a b w
def coordB (x room : Int) : Bool := decide (x % 16 = 0 ∧ -room ≤ x ∧ x ≤ room)
theorem coord_any (x r : Int) (t : Bool) (w : World) (hr : -100000000000 ≤ r ∧ r ≤ 100000000000) (ht : Hid (coordB x r = t)) :
    Calls Tryd.prog 60 #[.int .i64 x, .int .i64 r] w fun e w' => e = .returned (.bool t) ∧ w = w' := by
  by_cases h1 : x % 16 = 0
  · have k1 : x.tmod 16 = 0 := by rw [Int.tmod_eq_emod]; split <;> omega
    go_enter Tryd.func60, Tryd.ntmps60
    go_wp2_with (go_at_call 40; refine (btw_any _ _ _ _).mono ?_; rintro e w' ⟨rfl, rfl⟩)
    go_ret
    exact ⟨ret_bool (by rw [← ht.out]; unfold coordB; simp [h1]), rfl⟩
  · have k1 : ¬ x.tmod 16 = 0 := by rw [Int.tmod_eq_emod]; split <;> omega
    go_enter Tryd.func60, Tryd.ntmps60
    go_wp2
    go_ret
    exact ⟨ret_bool (by rw [← ht.out]; unfold coordB; simp [h1]), rfl⟩
def sizesB (n0 n1 n2 W : Int) : Bool := decide ((1 ≤ n0 ∧ n0 ≤ 40) ∧ (1 ≤ n1 ∧ n1 ≤ 40) ∧ (1 ≤ n2 ∧ n2 ≤ 40) ∧ 1 ≤ W ∧ W ≤ 4)
theorem sizes_any (X Y n0 n1 n2 W l0 l1 l2 h0 h1 h2 : Int) (w : World) :
    Calls Tryd.prog 35 #[.agg #[.int .i64 X, .int .i64 Y, .int .i64 n0, .int .i64 n1, .int .i64 n2, .int .i64 W, .int .i64 l0, .int .i64 l1, .int .i64 l2, .int .i64 h0, .int .i64 h1, .int .i64 h2]] w fun e w' => e = .returned (.bool (sizesB n0 n1 n2 W)) ∧ Below w.heap.size w w' := by
  have I0 := fun w => (ixI n0 n1 n2 w).1
  have I1 := fun w => (ixI n0 n1 n2 w).2.1
  have I2 := fun w => (ixI n0 n1 n2 w).2.2
  go_enter Tryd.func35, Tryd.ntmps35
  go_wp2_with fail
  refine wp_loop_rounds 4 ?_
  by_cases k0 : 1 ≤ n0 ∧ n0 ≤ 40
  · by_cases k1 : 1 ≤ n1 ∧ n1 ≤ 40
    · by_cases k2 : 1 ≤ n2 ∧ n2 ≤ 40
      · repeat (rw [rounds_succ]; go_wp2_with (go_at_call 40; refine (btw_any _ _ _ _).mono ?_; rintro e w' ⟨rfl, rfl⟩))
        go_ret
        exact ⟨ret_bool (by unfold sizesB; simp [k0, k1, k2]), by go_grown⟩
      · repeat (rw [rounds_succ]; go_wp2_with (go_at_call 40; refine (btw_any _ _ _ _).mono ?_; rintro e w' ⟨rfl, rfl⟩))
        go_ret
        exact ⟨ret_bool (by unfold sizesB; simp [k2]), by go_grown⟩
    · repeat (rw [rounds_succ]; go_wp2_with (go_at_call 40; refine (btw_any _ _ _ _).mono ?_; rintro e w' ⟨rfl, rfl⟩))
      go_ret
      exact ⟨ret_bool (by unfold sizesB; simp [k1]), by go_grown⟩
  · repeat (rw [rounds_succ]; go_wp2_with (go_at_call 40; refine (btw_any _ _ _ _).mono ?_; rintro e w' ⟨rfl, rfl⟩))
    go_ret
    exact ⟨ret_bool (by unfold sizesB; simp [k0]), by go_grown⟩
def limitsB (l0 l1 l2 h0 h1 h2 : Int) : Bool := decide ((-17 ≤ l0 ∧ l0 ≤ h0 ∧ h0 ≤ 18) ∧ (-17 ≤ l1 ∧ l1 ≤ h1 ∧ h1 ≤ 18) ∧ (-17 ≤ l2 ∧ l2 ≤ h2 ∧ h2 ≤ 18))
set_option maxHeartbeats 1000000 in
theorem limits_any (X Y n0 n1 n2 W l0 l1 l2 h0 h1 h2 : Int) (w : World) :
    Calls Tryd.prog 36 #[.agg #[.int .i64 X, .int .i64 Y, .int .i64 n0, .int .i64 n1, .int .i64 n2, .int .i64 W, .int .i64 l0, .int .i64 l1, .int .i64 l2, .int .i64 h0, .int .i64 h1, .int .i64 h2]] w fun e w' => e = .returned (.bool (limitsB l0 l1 l2 h0 h1 h2)) ∧ Below w.heap.size w w' := by
  have I0 := fun w => (ixJ l0 l1 l2 w).1
  have I1 := fun w => (ixJ l0 l1 l2 w).2.1
  have I2 := fun w => (ixJ l0 l1 l2 w).2.2
  go_enter Tryd.func36, Tryd.ntmps36
  go_wp2_with fail
  refine wp_loop_rounds 4 ?_
  by_cases a0 : l0 < -17
  · repeat (rw [rounds_succ]; go_wp2_with fail)
    go_ret
    exact ⟨ret_bool (by unfold limitsB; simp; omega), by go_grown⟩
  by_cases b0 : h0 < l0
  · repeat (rw [rounds_succ]; go_wp2_with fail)
    go_ret
    exact ⟨ret_bool (by unfold limitsB; simp; omega), by go_grown⟩
  by_cases c0 : 18 < h0
  · repeat (rw [rounds_succ]; go_wp2_with fail)
    go_ret
    exact ⟨ret_bool (by unfold limitsB; simp; omega), by go_grown⟩
  by_cases a1 : l1 < -17
  · repeat (rw [rounds_succ]; go_wp2_with fail)
    go_ret
    exact ⟨ret_bool (by unfold limitsB; simp; omega), by go_grown⟩
  by_cases b1 : h1 < l1
  · repeat (rw [rounds_succ]; go_wp2_with fail)
    go_ret
    exact ⟨ret_bool (by unfold limitsB; simp; omega), by go_grown⟩
  by_cases c1 : 18 < h1
  · repeat (rw [rounds_succ]; go_wp2_with fail)
    go_ret
    exact ⟨ret_bool (by unfold limitsB; simp; omega), by go_grown⟩
  by_cases a2 : l2 < -17
  · repeat (rw [rounds_succ]; go_wp2_with fail)
    go_ret
    exact ⟨ret_bool (by unfold limitsB; simp; omega), by go_grown⟩
  by_cases b2 : h2 < l2
  · repeat (rw [rounds_succ]; go_wp2_with fail)
    go_ret
    exact ⟨ret_bool (by unfold limitsB; simp; omega), by go_grown⟩
  by_cases c2 : 18 < h2
  · repeat (rw [rounds_succ]; go_wp2_with fail)
    go_ret
    exact ⟨ret_bool (by unfold limitsB; simp; omega), by go_grown⟩
  repeat (rw [rounds_succ]; go_wp2_with fail)
  go_ret
  exact ⟨ret_bool (by unfold limitsB; simp; omega), by go_grown⟩
end Go.Proofs.YtalhkcmlacppjaaDoor
