/- Contracts of package arm: Valid, InLimits. No condition on memory. -/
import Derived.Test.YtceejjamngplkaaDoorAmC
namespace Go.Proofs.YtceejjamngplkaaDoor
open Go.ChangeShapes Go.WideShapes Go.ChangeAt Go.RowKit
set_option linter.unusedVariables false
set_option linter.unusedSimpArgs false
set_option maxRecDepth 100000

def baseB (X Y n0 n1 n2 W : Int) : Bool := coordB X ((100 - (W + n0 + n1 + n2)) * 4394000) && coordB Y ((100 - (W + n0 + n1 + n2)) * 4394000)
def armB (X Y n0 n1 n2 W l0 l1 l2 h0 h1 h2 : Int) : Bool := sizesB n0 n1 n2 W && (limitsB l0 l1 l2 h0 h1 h2 && baseB X Y n0 n1 n2 W)
theorem armB_iff (X Y n0 n1 n2 W l0 l1 l2 h0 h1 h2 : Int) : armB X Y n0 n1 n2 W l0 l1 l2 h0 h1 h2 = true ↔ ((1 ≤ n0 ∧ n0 ≤ 40) ∧ (1 ≤ n1 ∧ n1 ≤ 40) ∧ (1 ≤ n2 ∧ n2 ≤ 40) ∧ 1 ≤ W ∧ W ≤ 4) ∧ ((-17 ≤ l0 ∧ l0 ≤ h0 ∧ h0 ≤ 18) ∧ (-17 ≤ l1 ∧ l1 ≤ h1 ∧ h1 ≤ 18) ∧ (-17 ≤ l2 ∧ l2 ≤ h2 ∧ h2 ≤ 18)) ∧ (X % 16 = 0 ∧ -((100 - (W + n0 + n1 + n2)) * 4394000) ≤ X ∧ X ≤ ((100 - (W + n0 + n1 + n2)) * 4394000)) ∧ Y % 16 = 0 ∧ -((100 - (W + n0 + n1 + n2)) * 4394000) ≤ Y ∧ Y ≤ ((100 - (W + n0 + n1 + n2)) * 4394000) := by
  unfold armB baseB sizesB limitsB coordB
  simp only [Bool.and_eq_true, decide_eq_true_eq]
end Go.Proofs.YtceejjamngplkaaDoor
