/- Contracts of package rotation over directions and points: ValidDirection, Compose, Offset, RotateQuarter, RotatePoint. Condition where they come to CosSin: the table lies as the program's text lays it. -/
import Derived.Test.YthmcejeeohlafaaDoorRotA
namespace Go.Proofs.YthmcejeeohlafaaDoor.Rot
open Go.ChangeShapes Go.WideShapes Go.ChangeAt Go.RowKit

def vdB (X Y N : Int) : Bool := decide (0 ≤ N) && (decide (N ≤ 3) && (withinB X (p65 N) && (withinB Y (p65 N) && (X * X + Y * Y == p65 (2 * N)))))

theorem p65_bd (n : Int) (h0 : 0 ≤ n) (h : n ≤ 3) : 1 ≤ p65 n ∧ p65 n ≤ 274625 := by
  have : n = 0 ∨ n = 1 ∨ n = 2 ∨ n = 3 := by omega
  rcases this with rfl | rfl | rfl | rfl <;> decide
theorem sq_bd {x B : Int} (hx : -B ≤ x ∧ x ≤ B) : 0 ≤ x * x ∧ x * x ≤ B * B := by
  obtain ⟨x1, x2⟩ := hx
  have a1 : 0 ≤ (B - x) * (B + x) := Int.mul_nonneg (by omega) (by omega)
  simp only [Int.mul_add, Int.sub_mul] at a1
  have e1 := Int.mul_comm B x
  refine ⟨?_, by omega⟩
  by_cases h : 0 ≤ x
  · exact Int.mul_nonneg h h
  · have := Int.mul_nonneg (show 0 ≤ -x by omega) (show 0 ≤ -x by omega)
    rwa [Int.neg_mul_neg] at this
theorem within_yes {x m : Int} (h : withinB x m = true) : -m ≤ x ∧ x ≤ m := by simpa [withinB] using h

theorem same_back {P : Program} {f : FuncId} {args : Array Value} {w : World} {v : Value} (h : Calls P f args w fun e w' => e = .returned v ∧ w = w') : Calls P f args w fun e w' => e = .returned v ∧ w' = w :=
  h.mono fun _ _ ⟨a, b⟩ => ⟨a, b.symm⟩

end Go.Proofs.YthmcejeeohlafaaDoor.Rot
