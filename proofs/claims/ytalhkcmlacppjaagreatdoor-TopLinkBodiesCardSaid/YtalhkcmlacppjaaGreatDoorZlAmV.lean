/- Helpers: what the law reaches. -/
import Derived.Test.YtalhkcmlacppjaaGreatDoorZlAmL
import Derived.Test.YtalhkcmlacppjaaGreatDoorZlAmO
import Derived.Test.YtalhkcmlacppjaaGreatDoorZlAmA
namespace Go.Proofs.YtalhkcmlacppjaaGreatDoor
open Go.ChangeShapes Go.WideShapes Go.ChangeAt Go.RowKit
set_option linter.unusedVariables false
set_option linter.unusedSimpArgs false
set_option maxRecDepth 100000

theorem bod_rect (c d n u v W : Int) : bodL c d (c + n * u) (d + n * v) (W * u) (W * v) = rectL (c, d) (u, v) n W := rfl
theorem allv_mem {L : List (Int × Int)} (h : ∀ p ∈ L, InV p.1 ∧ InV p.2) : AllV L := fun i hi => by
  unfold cx cy
  rw [List.getD_eq_getElem?_getD, List.getElem?_eq_getElem hi]
  exact h _ (List.getElem_mem hi)
section
variable {X Y n0 n1 n2 W l0 l1 l2 h0 h1 h2 q0 q1 q2 x1 x2 x3 y1 y2 y3 u1 u2 u3 v1 v2 v3 a1 a2 a3 b1 b2 b3 : Int}
end
end Go.Proofs.YtalhkcmlacppjaaGreatDoor

