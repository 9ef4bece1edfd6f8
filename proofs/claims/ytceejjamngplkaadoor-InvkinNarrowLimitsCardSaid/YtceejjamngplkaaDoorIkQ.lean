/- The solutions of the fixed examples. -/
import Derived.Test.YtceejjamngplkaaDoorIkA
namespace Go.Proofs.YtceejjamngplkaaDoor
set_option maxRecDepth 100000
theorem ex1 : solL 0 0 2 1 1 (-17) (-17) (-17) 18 18 18 0 0 (-274625) 0 = [(0, 18, 0)] := by decide +kernel
theorem ex2 : solL 0 0 2 1 1 (-17) (-17) (-17) 18 18 18 17576000 0 274625 0 = [(0, 0, 0)] := by decide +kernel
theorem ex3 : solL 0 0 2 1 1 (-17) (-17) (-17) 18 18 18 21970000 0 274625 0 = [] := by decide +kernel
end Go.Proofs.YtceejjamngplkaaDoor
