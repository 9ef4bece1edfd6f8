/- Contracts of package arm: validity, limits. No condition on memory. -/
import Derived.Test.YtceejjamngplkaaDoorRefB
import Derived.Test.YtceejjamngplkaaDoorHb
namespace Go.Proofs.YtceejjamngplkaaDoor
open Go.ChangeShapes Go.WideShapes Go.ChangeAt Go.RowKit
set_option linter.unusedVariables false
set_option linter.unusedSimpArgs false
set_option maxRecDepth 100000
theorem ixI (a b c : Int) (w : World) : (Instr.index 24 (.agg #[.int .i64 a, .int .i64 b, .int .i64 c]) (.int .i64 0)).run Tryd.prog w = .ok (.int .i64 a) w ∧ (Instr.index 24 (.agg #[.int .i64 a, .int .i64 b, .int .i64 c]) (.int .i64 1)).run Tryd.prog w = .ok (.int .i64 b) w ∧ (Instr.index 24 (.agg #[.int .i64 a, .int .i64 b, .int .i64 c]) (.int .i64 2)).run Tryd.prog w = .ok (.int .i64 c) w := by
  refine ⟨?_, ?_, ?_⟩ <;> simp [Instr.index, run_underlying Tryd.underlying24, asInt, asIntOf, part, Tryd.sizeOf3, Tryd.isAgg3]
theorem ixJ (a b c : Int) (w : World) : (Instr.index 25 (.agg #[.int .i64 a, .int .i64 b, .int .i64 c]) (.int .i64 0)).run Tryd.prog w = .ok (.int .i64 a) w ∧ (Instr.index 25 (.agg #[.int .i64 a, .int .i64 b, .int .i64 c]) (.int .i64 1)).run Tryd.prog w = .ok (.int .i64 b) w ∧ (Instr.index 25 (.agg #[.int .i64 a, .int .i64 b, .int .i64 c]) (.int .i64 2)).run Tryd.prog w = .ok (.int .i64 c) w := by
  refine ⟨?_, ?_, ?_⟩ <;> simp [Instr.index, run_underlying Tryd.underlying25, asInt, asIntOf, part, Tryd.sizeOf3, Tryd.isAgg3]
theorem ixR (a b c : Int) (w : World) : (Instr.index 30 (.agg #[.int .u8 a, .int .u8 b, .int .u8 c]) (.int .i64 0)).run Tryd.prog w = .ok (.int .u8 a) w ∧ (Instr.index 30 (.agg #[.int .u8 a, .int .u8 b, .int .u8 c]) (.int .i64 1)).run Tryd.prog w = .ok (.int .u8 b) w ∧ (Instr.index 30 (.agg #[.int .u8 a, .int .u8 b, .int .u8 c]) (.int .i64 2)).run Tryd.prog w = .ok (.int .u8 c) w := by
  refine ⟨?_, ?_, ?_⟩ <;> simp [Instr.index, run_underlying Tryd.underlying30, asInt, asIntOf, part, Tryd.sizeOf5, Tryd.isAgg5]

theorem btw_any (x a b : Int) (w : World) :
    Calls Tryd.prog 45 #[.int .i64 x, .int .i64 a, .int .i64 b] w fun e w' => e = .returned (.bool (decide (a ≤ x ∧ x ≤ b))) ∧ w = w' := by
  by_cases h1 : a ≤ x
  all_goals
    go_enter Tryd.func45, Tryd.ntmps45
    go_wp2
    go_ret
    exact ⟨ret_bool (by simp [h1] <;> omega), rfl⟩
theorem btw_is (x a b : Int) (t : Bool) (w : World) (h : Hid (decide (a ≤ x ∧ x ≤ b) = t)) :
    Calls Tryd.prog 45 #[.int .i64 x, .int .i64 a, .int .i64 b] w fun e w' => e = .returned (.bool t) ∧ w = w' := by
  rw [← h.out]
  exact btw_any x a b w
def coordB (x room : Int) : Bool := decide (x % 16 = 0 ∧ -room ≤ x ∧ x ≤ room)
def sizesB (n0 n1 n2 W : Int) : Bool := decide ((1 ≤ n0 ∧ n0 ≤ 40) ∧ (1 ≤ n1 ∧ n1 ≤ 40) ∧ (1 ≤ n2 ∧ n2 ≤ 40) ∧ 1 ≤ W ∧ W ≤ 4)
def limitsB (l0 l1 l2 h0 h1 h2 : Int) : Bool := decide ((-17 ≤ l0 ∧ l0 ≤ h0 ∧ h0 ≤ 18) ∧ (-17 ≤ l1 ∧ l1 ≤ h1 ∧ h1 ≤ 18) ∧ (-17 ≤ l2 ∧ l2 ≤ h2 ∧ h2 ≤ 18))
end Go.Proofs.YtceejjamngplkaaDoor
