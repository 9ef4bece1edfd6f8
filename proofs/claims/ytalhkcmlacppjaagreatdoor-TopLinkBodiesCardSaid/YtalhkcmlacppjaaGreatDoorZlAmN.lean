/- Helpers: what the law reaches. -/
import Derived.Test.YtalhkcmlacppjaaGreatDoorZlDirs
import Derived.Test.YtalhkcmlacppjaaGreatDoorZlHb
namespace Go.Proofs.YtalhkcmlacppjaaGreatDoor
open Go.ChangeShapes Go.WideShapes Go.ChangeAt Go.RowKit
set_option linter.unusedVariables false
set_option linter.unusedSimpArgs false
set_option maxRecDepth 100000
/-- Vectors multiply as complex numbers do. -/
def gm (a b : Int × Int) : Int × Int := (a.1 * b.1 - a.2 * b.2, a.1 * b.2 + a.2 * b.1)
def gn (a : Int × Int) : Int := a.1 * a.1 + a.2 * a.2
theorem gn_mul (a b : Int × Int) : gn (gm a b) = gn a * gn b := by unfold gn gm; simp only; grind
/-- Rotation q, as a vector of length 65. -/
def rE (q : Int) : Int × Int := csF (q % 36).toNat
theorem rE_len (q : Int) : gn (rE q) = 4225 := len65 _ (by omega)
end Go.Proofs.YtalhkcmlacppjaaGreatDoor

