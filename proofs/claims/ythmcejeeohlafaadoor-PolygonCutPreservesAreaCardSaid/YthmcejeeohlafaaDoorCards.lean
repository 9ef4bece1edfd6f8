/-
  DERIVED. GIVEN WITH THE SEED: THE CARDS: each row of YthmcejeeohlafaaDoorRows.lean that lists a variable, with what it lists TIED to the program's text (the seventh form; the later family's looks); each row that meets fmt, with fmt's text TOLD by the authors' own Lean function (tested against real Go, not proved from fmt's source: count such statements apart). THE CARD IS WHAT COUNTS. Prove the row's statement (the work); the ties are given (YthmcejeeohlafaaDoorTie.lean); close each card by the builder's one call (the guide's Derived/Test/ToyasCard.lean, 'card_holds'). Laid BY PROGRAM, IN A SANDBOX (cutbox-door.mjs). By AI agents, Wed Nov 11 2026. No macro, syntax, notation, axiom, sorry.
-/
import Derived.Test.YthmcejeeohlafaaDoorRows
import GoSem.ClaimSeven
namespace Go.Proofs.YthmcejeeohlafaaDoor
namespace Rows

/-- THE TIED CARD OF 'ambidexterlaw03.PolygonInvariantUnderCyclicShift'. -/
def polygonInvariantUnderCyclicShiftCard : Claim7 := { stood := { row := polygonInvariantUnderCyclicShiftRow, standIns := [], harness := (true, "1c7d2b904834e2a6c42e0324b16a2e9fc709338f67c428e20adae4b7a033f057"), looks := false }, kinds := [], alts := [], laidByText := true, laidKinds := [.data], laidTests := true, laidLooks := .later }
def PolygonInvariantUnderCyclicShiftCardSaid : Prop := Claim7.holds Tryd.pinned (.plain (OpenSpec.ofChange polygonInvariantUnderCyclicShiftSpec)) polygonInvariantUnderCyclicShiftCard

/-- THE TIED CARD OF 'ambidexterlaw03.PolygonAreaFromTriangles'. -/
def polygonAreaFromTrianglesCard : Claim7 := { stood := { row := polygonAreaFromTrianglesRow, standIns := [], harness := (true, "1c7d2b904834e2a6c42e0324b16a2e9fc709338f67c428e20adae4b7a033f057"), looks := false }, kinds := [], alts := [], laidByText := true, laidKinds := [.data], laidTests := true, laidLooks := .later }
def PolygonAreaFromTrianglesCardSaid : Prop := Claim7.holds Tryd.pinned (.plain (OpenSpec.ofChange polygonAreaFromTrianglesSpec)) polygonAreaFromTrianglesCard

/-- THE TIED CARD OF 'ambidexterlaw03.PolygonCutPreservesArea'. -/
def polygonCutPreservesAreaCard : Claim7 := { stood := { row := polygonCutPreservesAreaRow, standIns := [], harness := (true, "1c7d2b904834e2a6c42e0324b16a2e9fc709338f67c428e20adae4b7a033f057"), looks := false }, kinds := [], alts := [], laidByText := true, laidKinds := [.data], laidTests := true, laidLooks := .later }
def PolygonCutPreservesAreaCardSaid : Prop := Claim7.holds Tryd.pinned (.plain (OpenSpec.ofChange polygonCutPreservesAreaSpec)) polygonCutPreservesAreaCard

/-- THE TIED CARD OF 'ambidexterlaw03.PolygonTranslationPreservesGeometry'. -/
def polygonTranslationPreservesGeometryCard : Claim7 := { stood := { row := polygonTranslationPreservesGeometryRow, standIns := [], harness := (true, "1c7d2b904834e2a6c42e0324b16a2e9fc709338f67c428e20adae4b7a033f057"), looks := false }, kinds := [], alts := [], laidByText := true, laidKinds := [.data], laidTests := true, laidLooks := .later }
def PolygonTranslationPreservesGeometryCardSaid : Prop := Claim7.holds Tryd.pinned (.plain (OpenSpec.ofChange polygonTranslationPreservesGeometrySpec)) polygonTranslationPreservesGeometryCard

/-- THE TIED CARD OF 'ambidexterlaw03.PolygonRotationPreservesGeometry'. -/
def polygonRotationPreservesGeometryCard : Claim7 := { stood := { row := polygonRotationPreservesGeometryRow, standIns := [], harness := (true, "1c7d2b904834e2a6c42e0324b16a2e9fc709338f67c428e20adae4b7a033f057"), looks := false }, kinds := [], alts := [], laidByText := true, laidKinds := [.data], laidTests := true, laidLooks := .later }
def PolygonRotationPreservesGeometryCardSaid : Prop := Claim7.holds Tryd.pinned (.plain (OpenSpec.ofChange polygonRotationPreservesGeometrySpec)) polygonRotationPreservesGeometryCard

/-- THE TIED CARD OF 'ambidexterlaw03.PolygonLocationIsConsistent'. -/
def polygonLocationIsConsistentCard : Claim7 := { stood := { row := polygonLocationIsConsistentRow, standIns := [], harness := (true, "1c7d2b904834e2a6c42e0324b16a2e9fc709338f67c428e20adae4b7a033f057"), looks := false }, kinds := [], alts := [], laidByText := true, laidKinds := [.data], laidTests := true, laidLooks := .later }
def PolygonLocationIsConsistentCardSaid : Prop := Claim7.holds Tryd.pinned (.plain (OpenSpec.ofChange polygonLocationIsConsistentSpec)) polygonLocationIsConsistentCard

/-- THE SECOND FORM's CARD OF 'ambidexterlaw03.PolygonInvariantUnderCyclicShift'. -/
def polygonInvariantUnderCyclicShiftUptoCard : Claim7 := { stood := { row := polygonInvariantUnderCyclicShiftUptoRow, standIns := [], harness := (true, "1c7d2b904834e2a6c42e0324b16a2e9fc709338f67c428e20adae4b7a033f057"), looks := false }, kinds := [], alts := [], laidByText := true, laidKinds := [.data], laidTests := true, laidLooks := .later }
def PolygonInvariantUnderCyclicShiftUptoCardSaid : Prop := Claim7.holds Tryd.pinned (.plain (OpenSpec.upto polygonInvariantUnderCyclicShiftSpec)) polygonInvariantUnderCyclicShiftUptoCard

/-- THE SECOND FORM's CARD OF 'ambidexterlaw03.PolygonAreaFromTriangles'. -/
def polygonAreaFromTrianglesUptoCard : Claim7 := { stood := { row := polygonAreaFromTrianglesUptoRow, standIns := [], harness := (true, "1c7d2b904834e2a6c42e0324b16a2e9fc709338f67c428e20adae4b7a033f057"), looks := false }, kinds := [], alts := [], laidByText := true, laidKinds := [.data], laidTests := true, laidLooks := .later }
def PolygonAreaFromTrianglesUptoCardSaid : Prop := Claim7.holds Tryd.pinned (.plain (OpenSpec.upto polygonAreaFromTrianglesSpec)) polygonAreaFromTrianglesUptoCard

/-- THE SECOND FORM's CARD OF 'ambidexterlaw03.PolygonCutPreservesArea'. -/
def polygonCutPreservesAreaUptoCard : Claim7 := { stood := { row := polygonCutPreservesAreaUptoRow, standIns := [], harness := (true, "1c7d2b904834e2a6c42e0324b16a2e9fc709338f67c428e20adae4b7a033f057"), looks := false }, kinds := [], alts := [], laidByText := true, laidKinds := [.data], laidTests := true, laidLooks := .later }
def PolygonCutPreservesAreaUptoCardSaid : Prop := Claim7.holds Tryd.pinned (.plain (OpenSpec.upto polygonCutPreservesAreaSpec)) polygonCutPreservesAreaUptoCard

/-- THE SECOND FORM's CARD OF 'ambidexterlaw03.PolygonTranslationPreservesGeometry'. -/
def polygonTranslationPreservesGeometryUptoCard : Claim7 := { stood := { row := polygonTranslationPreservesGeometryUptoRow, standIns := [], harness := (true, "1c7d2b904834e2a6c42e0324b16a2e9fc709338f67c428e20adae4b7a033f057"), looks := false }, kinds := [], alts := [], laidByText := true, laidKinds := [.data], laidTests := true, laidLooks := .later }
def PolygonTranslationPreservesGeometryUptoCardSaid : Prop := Claim7.holds Tryd.pinned (.plain (OpenSpec.upto polygonTranslationPreservesGeometrySpec)) polygonTranslationPreservesGeometryUptoCard

/-- THE SECOND FORM's CARD OF 'ambidexterlaw03.PolygonRotationPreservesGeometry'. -/
def polygonRotationPreservesGeometryUptoCard : Claim7 := { stood := { row := polygonRotationPreservesGeometryUptoRow, standIns := [], harness := (true, "1c7d2b904834e2a6c42e0324b16a2e9fc709338f67c428e20adae4b7a033f057"), looks := false }, kinds := [], alts := [], laidByText := true, laidKinds := [.data], laidTests := true, laidLooks := .later }
def PolygonRotationPreservesGeometryUptoCardSaid : Prop := Claim7.holds Tryd.pinned (.plain (OpenSpec.upto polygonRotationPreservesGeometrySpec)) polygonRotationPreservesGeometryUptoCard

/-- THE SECOND FORM's CARD OF 'ambidexterlaw03.PolygonLocationIsConsistent'. -/
def polygonLocationIsConsistentUptoCard : Claim7 := { stood := { row := polygonLocationIsConsistentUptoRow, standIns := [], harness := (true, "1c7d2b904834e2a6c42e0324b16a2e9fc709338f67c428e20adae4b7a033f057"), looks := false }, kinds := [], alts := [], laidByText := true, laidKinds := [.data], laidTests := true, laidLooks := .later }
def PolygonLocationIsConsistentUptoCardSaid : Prop := Claim7.holds Tryd.pinned (.plain (OpenSpec.upto polygonLocationIsConsistentSpec)) polygonLocationIsConsistentUptoCard
end Rows
end Go.Proofs.YthmcejeeohlafaaDoor
