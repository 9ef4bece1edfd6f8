/-
  NARROWER THAN 'FOR EVERY INPUT', by the rows' own cells (each row's printed sentence says how): PolygonInvariantUnderCyclicShift: laid · PolygonAreaFromTriangles: laid · PolygonCutPreservesArea: laid · PolygonTranslationPreservesGeometry: laid · PolygonRotationPreservesGeometry: laid · PolygonLocationIsConsistent: laid.
  DERIVED. THE GIVEN ROWS OF THIS SEAT. 6 by the template 'for every input the law returns true; each argument reads behind the call as it read before'; 0 by the template 'total and deterministic' (their statements: YthmcejeeohlafaaDoorTotals.lean).
  GIVEN WITH THE SEED: the statements are not yours to turn. If you find one false, say at which input.
  Laid BY PROGRAM, IN A SANDBOX (cutbox-rows.mjs): the forced cells as the released guide's own fill.sh prints them over the translation 37cf0a18a0437d22… (all of the seat's roots in one cut). By AI agents, Wed Nov 11 2026. No macro, syntax, notation, axiom, sorry.
-/
import Derived.Test.YthmcejeeohlafaaDoorChecked
import GoSem.Claim
import GoSem.ClaimJoined
import GoSem.ClaimMapViews
import Derived.JoinedTies
import Derived.KernelRfl
namespace Go.Proofs.YthmcejeeohlafaaDoor
/- THE CELL 'sum', in the pinned program and in every row, IS THE sha256 OF THE DUMP (.gsa) THAT YthmcejeeohlafaaDoorProg.lean LOADS. Nothing in Lean hashes anything: it is a label: what it is worth is what the hold of that sum in a sandbox is worth. -/
noncomputable def Tryd.pinned : Pinned := { name := "ythmcejeeohlafaadoor", sum := "37cf0a18a0437d221c4da665a5fc535ed22a77ed16c08a910b171fda7696a6f4", checked := Tryd.checked }
namespace Rows
def none {H : Type} : Left H := { results := [], args := [] }

/- WHAT THE LISTED PACKAGE-LEVEL VARIABLES READ AS WHEN THE CALL BEGINS. Each datum BY PROGRAM (the guide's laid-datum.mjs) off the statement by which the dump's own 'gosem.cut.vars' lays the variable. In a bare row this is a premise. The card (YthmcejeeohlafaaDoorCards.lean) ties it to the program's text. -/
def laid_ambidexter_rotation_quadrant {H : Type} : DataW H := .agg [.agg [.lit (.int .i64 65), .lit (.int .i64 0)], .agg [.lit (.int .i64 63), .lit (.int .i64 16)], .agg [.lit (.int .i64 60), .lit (.int .i64 25)], .agg [.lit (.int .i64 56), .lit (.int .i64 33)], .agg [.lit (.int .i64 52), .lit (.int .i64 39)], .agg [.lit (.int .i64 39), .lit (.int .i64 52)], .agg [.lit (.int .i64 33), .lit (.int .i64 56)], .agg [.lit (.int .i64 25), .lit (.int .i64 60)], .agg [.lit (.int .i64 16), .lit (.int .i64 63)]]

/-- 'ambidexterlaw03.PolygonInvariantUnderCyclicShift': WHATEVER THE INPUT: true; the input reads as it did. -/
def polygonInvariantUnderCyclicShiftSpec : ChangeSpec := { name := "polygonInvariantUnderCyclicShift", fn := fun _ => fun
  | [d1, d2, d3] => { results := [.lit (.bool true)], args := [d1, d2, d3] }
  | _ => none }
def polygonInvariantUnderCyclicShiftRow : OpenClaim := { program := "ythmcejeeohlafaadoor", sum := "37cf0a18a0437d221c4da665a5fc535ed22a77ed16c08a910b171fda7696a6f4", func := "ambidexter/ambidexterlaw03.PolygonInvariantUnderCyclicShift", spec := "polygonInvariantUnderCyclicShift", unfollowed := true, recurses := true, named := ["ambidexter/rotation.quadrant"], apart := false, laid := [("ambidexter/rotation.quadrant", laid_ambidexter_rotation_quadrant)] }
def PolygonInvariantUnderCyclicShiftSaid : Prop := polygonInvariantUnderCyclicShiftRow.holds Tryd.pinned (OpenSpec.ofChange polygonInvariantUnderCyclicShiftSpec)

/-- ITS FALSE NEIGHBOUR: 'it returns false'. Refute it at one input. -/
def polygonInvariantUnderCyclicShiftWrong : ChangeSpec := { name := "polygonInvariantUnderCyclicShift", fn := fun _ => fun
  | [d1, d2, d3] => { results := [.lit (.bool false)], args := [d1, d2, d3] }
  | _ => none }
def PolygonInvariantUnderCyclicShiftWrongFalsely : Prop := polygonInvariantUnderCyclicShiftRow.holds Tryd.pinned (OpenSpec.ofChange polygonInvariantUnderCyclicShiftWrong)

/-- 'ambidexterlaw03.PolygonAreaFromTriangles': WHATEVER THE INPUT: true; the input reads as it did. -/
def polygonAreaFromTrianglesSpec : ChangeSpec := { name := "polygonAreaFromTriangles", fn := fun _ => fun
  | [d1, d2] => { results := [.lit (.bool true)], args := [d1, d2] }
  | _ => none }
def polygonAreaFromTrianglesRow : OpenClaim := { program := "ythmcejeeohlafaadoor", sum := "37cf0a18a0437d221c4da665a5fc535ed22a77ed16c08a910b171fda7696a6f4", func := "ambidexter/ambidexterlaw03.PolygonAreaFromTriangles", spec := "polygonAreaFromTriangles", unfollowed := true, recurses := true, named := ["ambidexter/rotation.quadrant"], apart := false, laid := [("ambidexter/rotation.quadrant", laid_ambidexter_rotation_quadrant)] }
def PolygonAreaFromTrianglesSaid : Prop := polygonAreaFromTrianglesRow.holds Tryd.pinned (OpenSpec.ofChange polygonAreaFromTrianglesSpec)

/-- ITS FALSE NEIGHBOUR: 'it returns false'. Refute it at one input. -/
def polygonAreaFromTrianglesWrong : ChangeSpec := { name := "polygonAreaFromTriangles", fn := fun _ => fun
  | [d1, d2] => { results := [.lit (.bool false)], args := [d1, d2] }
  | _ => none }
def PolygonAreaFromTrianglesWrongFalsely : Prop := polygonAreaFromTrianglesRow.holds Tryd.pinned (OpenSpec.ofChange polygonAreaFromTrianglesWrong)

/-- 'ambidexterlaw03.PolygonCutPreservesArea': WHATEVER THE INPUT: true; the input reads as it did. -/
def polygonCutPreservesAreaSpec : ChangeSpec := { name := "polygonCutPreservesArea", fn := fun _ => fun
  | [d1, d2, d3, d4] => { results := [.lit (.bool true)], args := [d1, d2, d3, d4] }
  | _ => none }
def polygonCutPreservesAreaRow : OpenClaim := { program := "ythmcejeeohlafaadoor", sum := "37cf0a18a0437d221c4da665a5fc535ed22a77ed16c08a910b171fda7696a6f4", func := "ambidexter/ambidexterlaw03.PolygonCutPreservesArea", spec := "polygonCutPreservesArea", unfollowed := true, recurses := true, named := ["ambidexter/rotation.quadrant"], apart := false, laid := [("ambidexter/rotation.quadrant", laid_ambidexter_rotation_quadrant)] }
def PolygonCutPreservesAreaSaid : Prop := polygonCutPreservesAreaRow.holds Tryd.pinned (OpenSpec.ofChange polygonCutPreservesAreaSpec)

/-- ITS FALSE NEIGHBOUR: 'it returns false'. Refute it at one input. -/
def polygonCutPreservesAreaWrong : ChangeSpec := { name := "polygonCutPreservesArea", fn := fun _ => fun
  | [d1, d2, d3, d4] => { results := [.lit (.bool false)], args := [d1, d2, d3, d4] }
  | _ => none }
def PolygonCutPreservesAreaWrongFalsely : Prop := polygonCutPreservesAreaRow.holds Tryd.pinned (OpenSpec.ofChange polygonCutPreservesAreaWrong)

/-- 'ambidexterlaw03.PolygonTranslationPreservesGeometry': WHATEVER THE INPUT: true; the input reads as it did. -/
def polygonTranslationPreservesGeometrySpec : ChangeSpec := { name := "polygonTranslationPreservesGeometry", fn := fun _ => fun
  | [d1, d2, d3] => { results := [.lit (.bool true)], args := [d1, d2, d3] }
  | _ => none }
def polygonTranslationPreservesGeometryRow : OpenClaim := { program := "ythmcejeeohlafaadoor", sum := "37cf0a18a0437d221c4da665a5fc535ed22a77ed16c08a910b171fda7696a6f4", func := "ambidexter/ambidexterlaw03.PolygonTranslationPreservesGeometry", spec := "polygonTranslationPreservesGeometry", unfollowed := true, recurses := true, named := ["ambidexter/rotation.quadrant"], apart := false, laid := [("ambidexter/rotation.quadrant", laid_ambidexter_rotation_quadrant)] }
def PolygonTranslationPreservesGeometrySaid : Prop := polygonTranslationPreservesGeometryRow.holds Tryd.pinned (OpenSpec.ofChange polygonTranslationPreservesGeometrySpec)

/-- ITS FALSE NEIGHBOUR: 'it returns false'. Refute it at one input. -/
def polygonTranslationPreservesGeometryWrong : ChangeSpec := { name := "polygonTranslationPreservesGeometry", fn := fun _ => fun
  | [d1, d2, d3] => { results := [.lit (.bool false)], args := [d1, d2, d3] }
  | _ => none }
def PolygonTranslationPreservesGeometryWrongFalsely : Prop := polygonTranslationPreservesGeometryRow.holds Tryd.pinned (OpenSpec.ofChange polygonTranslationPreservesGeometryWrong)

/-- 'ambidexterlaw03.PolygonRotationPreservesGeometry': WHATEVER THE INPUT: true; the input reads as it did. -/
def polygonRotationPreservesGeometrySpec : ChangeSpec := { name := "polygonRotationPreservesGeometry", fn := fun _ => fun
  | [d1, d2, d3] => { results := [.lit (.bool true)], args := [d1, d2, d3] }
  | _ => none }
def polygonRotationPreservesGeometryRow : OpenClaim := { program := "ythmcejeeohlafaadoor", sum := "37cf0a18a0437d221c4da665a5fc535ed22a77ed16c08a910b171fda7696a6f4", func := "ambidexter/ambidexterlaw03.PolygonRotationPreservesGeometry", spec := "polygonRotationPreservesGeometry", unfollowed := true, recurses := true, named := ["ambidexter/rotation.quadrant"], apart := false, laid := [("ambidexter/rotation.quadrant", laid_ambidexter_rotation_quadrant)] }
def PolygonRotationPreservesGeometrySaid : Prop := polygonRotationPreservesGeometryRow.holds Tryd.pinned (OpenSpec.ofChange polygonRotationPreservesGeometrySpec)

/-- ITS FALSE NEIGHBOUR: 'it returns false'. Refute it at one input. -/
def polygonRotationPreservesGeometryWrong : ChangeSpec := { name := "polygonRotationPreservesGeometry", fn := fun _ => fun
  | [d1, d2, d3] => { results := [.lit (.bool false)], args := [d1, d2, d3] }
  | _ => none }
def PolygonRotationPreservesGeometryWrongFalsely : Prop := polygonRotationPreservesGeometryRow.holds Tryd.pinned (OpenSpec.ofChange polygonRotationPreservesGeometryWrong)

/-- 'ambidexterlaw03.PolygonLocationIsConsistent': WHATEVER THE INPUT: true; the input reads as it did. -/
def polygonLocationIsConsistentSpec : ChangeSpec := { name := "polygonLocationIsConsistent", fn := fun _ => fun
  | [d1, d2, d3] => { results := [.lit (.bool true)], args := [d1, d2, d3] }
  | _ => none }
def polygonLocationIsConsistentRow : OpenClaim := { program := "ythmcejeeohlafaadoor", sum := "37cf0a18a0437d221c4da665a5fc535ed22a77ed16c08a910b171fda7696a6f4", func := "ambidexter/ambidexterlaw03.PolygonLocationIsConsistent", spec := "polygonLocationIsConsistent", unfollowed := true, recurses := true, named := ["ambidexter/rotation.quadrant"], apart := false, laid := [("ambidexter/rotation.quadrant", laid_ambidexter_rotation_quadrant)] }
def PolygonLocationIsConsistentSaid : Prop := polygonLocationIsConsistentRow.holds Tryd.pinned (OpenSpec.ofChange polygonLocationIsConsistentSpec)

/-- ITS FALSE NEIGHBOUR: 'it returns false'. Refute it at one input. -/
def polygonLocationIsConsistentWrong : ChangeSpec := { name := "polygonLocationIsConsistent", fn := fun _ => fun
  | [d1, d2, d3] => { results := [.lit (.bool false)], args := [d1, d2, d3] }
  | _ => none }
def PolygonLocationIsConsistentWrongFalsely : Prop := polygonLocationIsConsistentRow.holds Tryd.pinned (OpenSpec.ofChange polygonLocationIsConsistentWrong)

/- THE SECOND FORM. 'bulk': how many values and letters a reading holds, each counted each time it is reached (what is shared counts as often as it is met; a slice's spare places count too). A statement '..UptoSaid' is the law's where the arguments, and the package variables that the reading takes, are together of bulk at most 1048576: NARROWER than '..Said'. Prove '..Said' where nothing that the law and all that it calls make is longer than what came in: it says more and counts as full. Else prove '..UptoSaid'. A law counts once. -/
mutual
def uptoBulk {H : Type} : DataW H → Nat
  | .lit (.string bytes) => bytes.length + 1
  | .lit _ => 1
  | .nil => 1
  | .ptr d => uptoBulk d + 1
  | .slice elems spare => uptoBulkAll elems + uptoBulkAll spare + 1
  | .agg parts => uptoBulkAll parts + 1
  | .iface _ d => uptoBulk d + 1
  | .map entries => uptoBulkEntries entries + 1
  | .held _ => 1
def uptoBulkAll {H : Type} : List (DataW H) → Nat
  | [] => 0
  | d :: r => uptoBulk d + uptoBulkAll r
def uptoBulkEntries {H : Type} : List (Lit × DataW H) → Nat
  | [] => 0
  | x :: r => uptoBulkEntry x + uptoBulkEntries r
def uptoBulkEntry {H : Type} : Lit × DataW H → Nat
  | (.string bytes, d) => bytes.length + uptoBulk d + 1
  | (_, d) => uptoBulk d + 1
 end
def uptoSmall : (H : Type) → List (DataW H) → Bool := fun _ ds => decide (uptoBulkAll ds ≤ 1048576)
def OpenSpec.upto (s : _root_.Go.ChangeSpec) : _root_.Go.OpenSpec := { _root_.Go.OpenSpec.ofChange s with cond := some uptoSmall }

/-- 'ambidexterlaw03.PolygonInvariantUnderCyclicShift', WHERE WHAT IT READS IS OF BULK AT MOST 1048576: true; the input reads as it did. -/
def polygonInvariantUnderCyclicShiftUptoRow : OpenClaim := { program := "ythmcejeeohlafaadoor", sum := "37cf0a18a0437d221c4da665a5fc535ed22a77ed16c08a910b171fda7696a6f4", func := "ambidexter/ambidexterlaw03.PolygonInvariantUnderCyclicShift", spec := "polygonInvariantUnderCyclicShift", unfollowed := true, recurses := true, named := ["ambidexter/rotation.quadrant"], apart := false, laid := [("ambidexter/rotation.quadrant", laid_ambidexter_rotation_quadrant)], narrowed := true }
def PolygonInvariantUnderCyclicShiftUptoSaid : Prop := polygonInvariantUnderCyclicShiftUptoRow.holds Tryd.pinned (OpenSpec.upto polygonInvariantUnderCyclicShiftSpec)

/-- 'ambidexterlaw03.PolygonAreaFromTriangles', WHERE WHAT IT READS IS OF BULK AT MOST 1048576: true; the input reads as it did. -/
def polygonAreaFromTrianglesUptoRow : OpenClaim := { program := "ythmcejeeohlafaadoor", sum := "37cf0a18a0437d221c4da665a5fc535ed22a77ed16c08a910b171fda7696a6f4", func := "ambidexter/ambidexterlaw03.PolygonAreaFromTriangles", spec := "polygonAreaFromTriangles", unfollowed := true, recurses := true, named := ["ambidexter/rotation.quadrant"], apart := false, laid := [("ambidexter/rotation.quadrant", laid_ambidexter_rotation_quadrant)], narrowed := true }
def PolygonAreaFromTrianglesUptoSaid : Prop := polygonAreaFromTrianglesUptoRow.holds Tryd.pinned (OpenSpec.upto polygonAreaFromTrianglesSpec)

/-- 'ambidexterlaw03.PolygonCutPreservesArea', WHERE WHAT IT READS IS OF BULK AT MOST 1048576: true; the input reads as it did. -/
def polygonCutPreservesAreaUptoRow : OpenClaim := { program := "ythmcejeeohlafaadoor", sum := "37cf0a18a0437d221c4da665a5fc535ed22a77ed16c08a910b171fda7696a6f4", func := "ambidexter/ambidexterlaw03.PolygonCutPreservesArea", spec := "polygonCutPreservesArea", unfollowed := true, recurses := true, named := ["ambidexter/rotation.quadrant"], apart := false, laid := [("ambidexter/rotation.quadrant", laid_ambidexter_rotation_quadrant)], narrowed := true }
def PolygonCutPreservesAreaUptoSaid : Prop := polygonCutPreservesAreaUptoRow.holds Tryd.pinned (OpenSpec.upto polygonCutPreservesAreaSpec)

/-- 'ambidexterlaw03.PolygonTranslationPreservesGeometry', WHERE WHAT IT READS IS OF BULK AT MOST 1048576: true; the input reads as it did. -/
def polygonTranslationPreservesGeometryUptoRow : OpenClaim := { program := "ythmcejeeohlafaadoor", sum := "37cf0a18a0437d221c4da665a5fc535ed22a77ed16c08a910b171fda7696a6f4", func := "ambidexter/ambidexterlaw03.PolygonTranslationPreservesGeometry", spec := "polygonTranslationPreservesGeometry", unfollowed := true, recurses := true, named := ["ambidexter/rotation.quadrant"], apart := false, laid := [("ambidexter/rotation.quadrant", laid_ambidexter_rotation_quadrant)], narrowed := true }
def PolygonTranslationPreservesGeometryUptoSaid : Prop := polygonTranslationPreservesGeometryUptoRow.holds Tryd.pinned (OpenSpec.upto polygonTranslationPreservesGeometrySpec)

/-- 'ambidexterlaw03.PolygonRotationPreservesGeometry', WHERE WHAT IT READS IS OF BULK AT MOST 1048576: true; the input reads as it did. -/
def polygonRotationPreservesGeometryUptoRow : OpenClaim := { program := "ythmcejeeohlafaadoor", sum := "37cf0a18a0437d221c4da665a5fc535ed22a77ed16c08a910b171fda7696a6f4", func := "ambidexter/ambidexterlaw03.PolygonRotationPreservesGeometry", spec := "polygonRotationPreservesGeometry", unfollowed := true, recurses := true, named := ["ambidexter/rotation.quadrant"], apart := false, laid := [("ambidexter/rotation.quadrant", laid_ambidexter_rotation_quadrant)], narrowed := true }
def PolygonRotationPreservesGeometryUptoSaid : Prop := polygonRotationPreservesGeometryUptoRow.holds Tryd.pinned (OpenSpec.upto polygonRotationPreservesGeometrySpec)

/-- 'ambidexterlaw03.PolygonLocationIsConsistent', WHERE WHAT IT READS IS OF BULK AT MOST 1048576: true; the input reads as it did. -/
def polygonLocationIsConsistentUptoRow : OpenClaim := { program := "ythmcejeeohlafaadoor", sum := "37cf0a18a0437d221c4da665a5fc535ed22a77ed16c08a910b171fda7696a6f4", func := "ambidexter/ambidexterlaw03.PolygonLocationIsConsistent", spec := "polygonLocationIsConsistent", unfollowed := true, recurses := true, named := ["ambidexter/rotation.quadrant"], apart := false, laid := [("ambidexter/rotation.quadrant", laid_ambidexter_rotation_quadrant)], narrowed := true }
def PolygonLocationIsConsistentUptoSaid : Prop := polygonLocationIsConsistentUptoRow.holds Tryd.pinned (OpenSpec.upto polygonLocationIsConsistentSpec)

end Rows
end Go.Proofs.YthmcejeeohlafaaDoor
