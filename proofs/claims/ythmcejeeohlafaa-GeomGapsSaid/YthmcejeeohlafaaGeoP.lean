/- Contract of pick: four points reduced to points in range or to points near the origin. No condition. -/
import Derived.Test.YthmcejeeohlafaaGeoB
import Derived.Test.YthmcejeeohlafaaGeoBlk
import Derived.LoopN
namespace Go.Proofs.Ythmcejeeohlafaa
open Go.ChangeShapes Go.WideShapes Go.ChangeAt Go.RowKit

end Go.Proofs.Ythmcejeeohlafaa
