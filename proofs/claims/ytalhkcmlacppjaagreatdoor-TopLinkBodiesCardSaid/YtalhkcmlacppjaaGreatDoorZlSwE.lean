/- Helpers: what the law reaches. -/
import Derived.Laws.AppendOwn
import Derived.Laws.MakeOwn
import Derived.StillTailTactics
import Derived.Test.YtalhkcmlacppjaaGreatDoorZlHlB
import Derived.Test.YtalhkcmlacppjaaGreatDoorZlHlE
import Derived.Test.YtalhkcmlacppjaaGreatDoorZlRgn
import Derived.Test.YtalhkcmlacppjaaGreatDoorZlHlH
namespace Go.Proofs.YtalhkcmlacppjaaGreatDoor
open Go.ChangeShapes Go.WideShapes Go.ChangeAt Go.RowKit
set_option linter.unusedVariables false
set_option linter.unusedSimpArgs false

theorem allV_app {a b : List (Int × Int)} (ha : AllV a) (hb : AllV b) : AllV (a ++ b) := (allV_iff _).2 fun q hq => by
  rcases List.mem_append.1 hq with h | h
  · exact (allV_iff a).1 ha q h
  · exact (allV_iff b).1 hb q h

end Go.Proofs.YtalhkcmlacppjaaGreatDoor

