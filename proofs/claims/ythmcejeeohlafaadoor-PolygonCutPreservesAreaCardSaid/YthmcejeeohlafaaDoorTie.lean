/-
  DERIVED. GIVEN WITH THE SEED: THE PROGRAM's TIES (one call each: nine closed facts by the kernel) AND EACH ROW's TIE, after the 31st guide's Derived/Test/Toyas{Tie, Card}.lean. No idea stands in it: it is a product of the set-up. Laid BY PROGRAM, IN A SANDBOX (cutbox-door.mjs). By AI agents, Wed Nov 11 2026. No macro, syntax, notation, axiom, sorry.
-/
import Derived.Test.YthmcejeeohlafaaDoorRows
import Derived.LaidByTextLater
import Derived.SevenTiedAt
import Derived.LaidSub
import Derived.LaidOnce
namespace Go.Proofs.YthmcejeeohlafaaDoor
open Go
set_option maxRecDepth 100000
theorem seatTie1 : Tryd.prog.laidByTextLater [("ambidexter/rotation.quadrant", Rows.laid_ambidexter_rotation_quadrant)] [.data] true :=
  Program.laidByTextLater_by_one 23 8 19 (by kernel_rfl) (by kernel_rfl) (by kernel_rfl) (by kernel_rfl) (by kernel_rfl) (by kernel_rfl) (fun _ _ => by kernel_rfl)
theorem noOwnUnsafe : Tryd.pinned.checked.prog.headLifts.contains "ownunsafe" = false := by kernel_rfl
theorem tie : Tryd.prog.laidByTextLater [("ambidexter/rotation.quadrant", Rows.laid_ambidexter_rotation_quadrant)] [.data] true :=
  Program.laidByTextLater.sub seatTie1 ["ambidexter/rotation.quadrant"] (by kernel_rfl) (by kernel_rfl)
theorem polygonInvariantUnderCyclicShift_row_tie : Rows.polygonInvariantUnderCyclicShiftRow.laidByTextAt .later Tryd.pinned [.data] true :=
  OpenClaim.laidByTextAt_later rfl rfl tie noOwnUnsafe
theorem polygonAreaFromTriangles_row_tie : Rows.polygonAreaFromTrianglesRow.laidByTextAt .later Tryd.pinned [.data] true :=
  OpenClaim.laidByTextAt_later rfl rfl tie noOwnUnsafe
theorem polygonCutPreservesArea_row_tie : Rows.polygonCutPreservesAreaRow.laidByTextAt .later Tryd.pinned [.data] true :=
  OpenClaim.laidByTextAt_later rfl rfl tie noOwnUnsafe
theorem polygonTranslationPreservesGeometry_row_tie : Rows.polygonTranslationPreservesGeometryRow.laidByTextAt .later Tryd.pinned [.data] true :=
  OpenClaim.laidByTextAt_later rfl rfl tie noOwnUnsafe
theorem polygonRotationPreservesGeometry_row_tie : Rows.polygonRotationPreservesGeometryRow.laidByTextAt .later Tryd.pinned [.data] true :=
  OpenClaim.laidByTextAt_later rfl rfl tie noOwnUnsafe
theorem polygonLocationIsConsistent_row_tie : Rows.polygonLocationIsConsistentRow.laidByTextAt .later Tryd.pinned [.data] true :=
  OpenClaim.laidByTextAt_later rfl rfl tie noOwnUnsafe
theorem polygonInvariantUnderCyclicShiftUpto_row_tie : Rows.polygonInvariantUnderCyclicShiftUptoRow.laidByTextAt .later Tryd.pinned [.data] true :=
  OpenClaim.laidByTextAt_later rfl rfl tie noOwnUnsafe
theorem polygonAreaFromTrianglesUpto_row_tie : Rows.polygonAreaFromTrianglesUptoRow.laidByTextAt .later Tryd.pinned [.data] true :=
  OpenClaim.laidByTextAt_later rfl rfl tie noOwnUnsafe
theorem polygonCutPreservesAreaUpto_row_tie : Rows.polygonCutPreservesAreaUptoRow.laidByTextAt .later Tryd.pinned [.data] true :=
  OpenClaim.laidByTextAt_later rfl rfl tie noOwnUnsafe
theorem polygonTranslationPreservesGeometryUpto_row_tie : Rows.polygonTranslationPreservesGeometryUptoRow.laidByTextAt .later Tryd.pinned [.data] true :=
  OpenClaim.laidByTextAt_later rfl rfl tie noOwnUnsafe
theorem polygonRotationPreservesGeometryUpto_row_tie : Rows.polygonRotationPreservesGeometryUptoRow.laidByTextAt .later Tryd.pinned [.data] true :=
  OpenClaim.laidByTextAt_later rfl rfl tie noOwnUnsafe
theorem polygonLocationIsConsistentUpto_row_tie : Rows.polygonLocationIsConsistentUptoRow.laidByTextAt .later Tryd.pinned [.data] true :=
  OpenClaim.laidByTextAt_later rfl rfl tie noOwnUnsafe
end Go.Proofs.YthmcejeeohlafaaDoor
