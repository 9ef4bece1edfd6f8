/- Mathematics for layer 7: vectors as Gaussian integers, directions of an arm's links. -/
import Derived.Test.YtceejjamngplkaaDoorRefB
import Derived.Test.YtceejjamngplkaaDoorHb
namespace Go.Proofs.YtceejjamngplkaaDoor
open Go.ChangeShapes Go.WideShapes Go.ChangeAt Go.RowKit
set_option linter.unusedVariables false
set_option linter.unusedSimpArgs false
set_option maxRecDepth 100000
/-- Vectors multiply as complex numbers do. -/
def gm (a b : Int × Int) : Int × Int := (a.1 * b.1 - a.2 * b.2, a.1 * b.2 + a.2 * b.1)
def gn (a : Int × Int) : Int := a.1 * a.1 + a.2 * a.2
def ga (a b : Int × Int) : Int × Int := (a.1 + b.1, a.2 + b.2)
theorem gn_mul (a b : Int × Int) : gn (gm a b) = gn a * gn b := by unfold gn gm; simp only; grind
theorem gm_comm (a b : Int × Int) : gm a b = gm b a := by unfold gm; exact Prod.ext (by simp only; grind) (by simp only; grind)
theorem gm_assoc (a b c : Int × Int) : gm (gm a b) c = gm a (gm b c) := by unfold gm; exact Prod.ext (by simp only; grind) (by simp only; grind)
theorem gm_add (a b c : Int × Int) : gm (ga a b) c = ga (gm a c) (gm b c) := by unfold gm ga; exact Prod.ext (by simp only; grind) (by simp only; grind)
theorem gm_scale (n : Int) (a c : Int × Int) : gm (n * a.1, n * a.2) c = (n * (gm a c).1, n * (gm a c).2) := by unfold gm; exact Prod.ext (by simp only; grind) (by simp only; grind)
/-- What two rotations take to the same vector has one length. -/
theorem gn_same {a a' c c' : Int × Int} (h : gm a' c = gm a c') (hc : gn c = 4225) (hc' : gn c' = 4225) : gn a' = gn a := by
  have e := congrArg gn h
  rw [gn_mul, gn_mul, hc, hc'] at e
  omega
theorem gn_quarter (a : Int × Int) : gn (-a.2, a.1) = gn a := by unfold gn; simp only; grind


/-- Rotation q, as a vector of length 65. -/
def rE (q : Int) : Int × Int := csF (q % 36).toNat
theorem rE_len (q : Int) : gn (rE q) = 4225 := len65 _ (by omega)
end Go.Proofs.YtceejjamngplkaaDoor
