/-
  DERIVED. GIVEN WITH THE SEED: THE CARDS: each row of YtedhbcjlcgkocaaDoorRows.lean that lists a variable, with what it lists TIED to the program's text (the seventh form; the later family's looks); each row that meets fmt, with fmt's text TOLD by the authors' own Lean function (tested against real Go, not proved from fmt's source: count such statements apart). THE CARD IS WHAT COUNTS. Prove the row's statement (the work); the ties are given (YtedhbcjlcgkocaaDoorTie.lean); close each card by the builder's one call (the guide's Derived/Test/ToyasCard.lean, 'card_holds'). Laid BY PROGRAM, IN A SANDBOX (cutbox-door.mjs). By AI agents, Wed Nov 11 2026. No macro, syntax, notation, axiom, sorry.
-/
import Derived.Test.YtedhbcjlcgkocaaDoorRows
import GoSem.ClaimSeven
namespace Go.Proofs.YtedhbcjlcgkocaaDoor
namespace Rows

/-- THE TIED CARD OF 'ambidexterlaw01.RotationMatchesReference'. -/
def rotationMatchesReferenceCard : Claim7 := { stood := { row := rotationMatchesReferenceRow, standIns := [], harness := (true, "4632fb02b8440c3e52b67e5bc7e05aa62d442d27c32f3a042e255afc9a88ad0d"), looks := false }, kinds := [], alts := [], laidByText := true, laidKinds := [.data], laidTests := true, laidLooks := .later }
def RotationMatchesReferenceCardSaid : Prop := Claim7.holds Tryd.pinned (.plain (OpenSpec.ofChange rotationMatchesReferenceSpec)) rotationMatchesReferenceCard

/-- THE TIED CARD OF 'ambidexterlaw01.RotationOneRevolution'. -/
def rotationOneRevolutionCard : Claim7 := { stood := { row := rotationOneRevolutionRow, standIns := [], harness := (true, "4632fb02b8440c3e52b67e5bc7e05aa62d442d27c32f3a042e255afc9a88ad0d"), looks := false }, kinds := [], alts := [], laidByText := true, laidKinds := [.data], laidTests := true, laidLooks := .later }
def RotationOneRevolutionCardSaid : Prop := Claim7.holds Tryd.pinned (.plain (OpenSpec.ofChange rotationOneRevolutionSpec)) rotationOneRevolutionCard

/-- THE TIED CARD OF 'ambidexterlaw01.RotationAllPairs'. -/
def rotationAllPairsCard : Claim7 := { stood := { row := rotationAllPairsRow, standIns := [], harness := (true, "4632fb02b8440c3e52b67e5bc7e05aa62d442d27c32f3a042e255afc9a88ad0d"), looks := false }, kinds := [], alts := [], laidByText := true, laidKinds := [.data], laidTests := true, laidLooks := .later }
def RotationAllPairsCardSaid : Prop := Claim7.holds Tryd.pinned (.plain (OpenSpec.ofChange rotationAllPairsSpec)) rotationAllPairsCard

/-- THE TIED CARD OF 'ambidexterlaw01.RotationInverse'. -/
def rotationInverseCard : Claim7 := { stood := { row := rotationInverseRow, standIns := [], harness := (true, "4632fb02b8440c3e52b67e5bc7e05aa62d442d27c32f3a042e255afc9a88ad0d"), looks := false }, kinds := [], alts := [], laidByText := true, laidKinds := [.data], laidTests := true, laidLooks := .later }
def RotationInverseCardSaid : Prop := Claim7.holds Tryd.pinned (.plain (OpenSpec.ofChange rotationInverseSpec)) rotationInverseCard

/-- THE TIED CARD OF 'ambidexterlaw01.RotationCommutes'. -/
def rotationCommutesCard : Claim7 := { stood := { row := rotationCommutesRow, standIns := [], harness := (true, "4632fb02b8440c3e52b67e5bc7e05aa62d442d27c32f3a042e255afc9a88ad0d"), looks := false }, kinds := [], alts := [], laidByText := true, laidKinds := [.data], laidTests := true, laidLooks := .later }
def RotationCommutesCardSaid : Prop := Claim7.holds Tryd.pinned (.plain (OpenSpec.ofChange rotationCommutesSpec)) rotationCommutesCard

/-- THE TIED CARD OF 'ambidexterlaw01.RotationOffsetLength'. -/
def rotationOffsetLengthCard : Claim7 := { stood := { row := rotationOffsetLengthRow, standIns := [], harness := (true, "4632fb02b8440c3e52b67e5bc7e05aa62d442d27c32f3a042e255afc9a88ad0d"), looks := false }, kinds := [], alts := [], laidByText := true, laidKinds := [.data], laidTests := true, laidLooks := .later }
def RotationOffsetLengthCardSaid : Prop := Claim7.holds Tryd.pinned (.plain (OpenSpec.ofChange rotationOffsetLengthSpec)) rotationOffsetLengthCard

/-- THE TIED CARD OF 'ambidexterlaw01.RotationPreservesLength'. -/
def rotationPreservesLengthCard : Claim7 := { stood := { row := rotationPreservesLengthRow, standIns := [], harness := (true, "4632fb02b8440c3e52b67e5bc7e05aa62d442d27c32f3a042e255afc9a88ad0d"), looks := false }, kinds := [], alts := [], laidByText := true, laidKinds := [.data], laidTests := true, laidLooks := .later }
def RotationPreservesLengthCardSaid : Prop := Claim7.holds Tryd.pinned (.plain (OpenSpec.ofChange rotationPreservesLengthSpec)) rotationPreservesLengthCard

/-- THE SECOND FORM's CARD OF 'ambidexterlaw01.RotationMatchesReference'. -/
def rotationMatchesReferenceUptoCard : Claim7 := { stood := { row := rotationMatchesReferenceUptoRow, standIns := [], harness := (true, "4632fb02b8440c3e52b67e5bc7e05aa62d442d27c32f3a042e255afc9a88ad0d"), looks := false }, kinds := [], alts := [], laidByText := true, laidKinds := [.data], laidTests := true, laidLooks := .later }
def RotationMatchesReferenceUptoCardSaid : Prop := Claim7.holds Tryd.pinned (.plain (OpenSpec.upto rotationMatchesReferenceSpec)) rotationMatchesReferenceUptoCard

/-- THE SECOND FORM's CARD OF 'ambidexterlaw01.RotationOneRevolution'. -/
def rotationOneRevolutionUptoCard : Claim7 := { stood := { row := rotationOneRevolutionUptoRow, standIns := [], harness := (true, "4632fb02b8440c3e52b67e5bc7e05aa62d442d27c32f3a042e255afc9a88ad0d"), looks := false }, kinds := [], alts := [], laidByText := true, laidKinds := [.data], laidTests := true, laidLooks := .later }
def RotationOneRevolutionUptoCardSaid : Prop := Claim7.holds Tryd.pinned (.plain (OpenSpec.upto rotationOneRevolutionSpec)) rotationOneRevolutionUptoCard

/-- THE SECOND FORM's CARD OF 'ambidexterlaw01.RotationAllPairs'. -/
def rotationAllPairsUptoCard : Claim7 := { stood := { row := rotationAllPairsUptoRow, standIns := [], harness := (true, "4632fb02b8440c3e52b67e5bc7e05aa62d442d27c32f3a042e255afc9a88ad0d"), looks := false }, kinds := [], alts := [], laidByText := true, laidKinds := [.data], laidTests := true, laidLooks := .later }
def RotationAllPairsUptoCardSaid : Prop := Claim7.holds Tryd.pinned (.plain (OpenSpec.upto rotationAllPairsSpec)) rotationAllPairsUptoCard

/-- THE SECOND FORM's CARD OF 'ambidexterlaw01.RotationInverse'. -/
def rotationInverseUptoCard : Claim7 := { stood := { row := rotationInverseUptoRow, standIns := [], harness := (true, "4632fb02b8440c3e52b67e5bc7e05aa62d442d27c32f3a042e255afc9a88ad0d"), looks := false }, kinds := [], alts := [], laidByText := true, laidKinds := [.data], laidTests := true, laidLooks := .later }
def RotationInverseUptoCardSaid : Prop := Claim7.holds Tryd.pinned (.plain (OpenSpec.upto rotationInverseSpec)) rotationInverseUptoCard

/-- THE SECOND FORM's CARD OF 'ambidexterlaw01.RotationCommutes'. -/
def rotationCommutesUptoCard : Claim7 := { stood := { row := rotationCommutesUptoRow, standIns := [], harness := (true, "4632fb02b8440c3e52b67e5bc7e05aa62d442d27c32f3a042e255afc9a88ad0d"), looks := false }, kinds := [], alts := [], laidByText := true, laidKinds := [.data], laidTests := true, laidLooks := .later }
def RotationCommutesUptoCardSaid : Prop := Claim7.holds Tryd.pinned (.plain (OpenSpec.upto rotationCommutesSpec)) rotationCommutesUptoCard

/-- THE SECOND FORM's CARD OF 'ambidexterlaw01.RotationOffsetLength'. -/
def rotationOffsetLengthUptoCard : Claim7 := { stood := { row := rotationOffsetLengthUptoRow, standIns := [], harness := (true, "4632fb02b8440c3e52b67e5bc7e05aa62d442d27c32f3a042e255afc9a88ad0d"), looks := false }, kinds := [], alts := [], laidByText := true, laidKinds := [.data], laidTests := true, laidLooks := .later }
def RotationOffsetLengthUptoCardSaid : Prop := Claim7.holds Tryd.pinned (.plain (OpenSpec.upto rotationOffsetLengthSpec)) rotationOffsetLengthUptoCard

/-- THE SECOND FORM's CARD OF 'ambidexterlaw01.RotationPreservesLength'. -/
def rotationPreservesLengthUptoCard : Claim7 := { stood := { row := rotationPreservesLengthUptoRow, standIns := [], harness := (true, "4632fb02b8440c3e52b67e5bc7e05aa62d442d27c32f3a042e255afc9a88ad0d"), looks := false }, kinds := [], alts := [], laidByText := true, laidKinds := [.data], laidTests := true, laidLooks := .later }
def RotationPreservesLengthUptoCardSaid : Prop := Claim7.holds Tryd.pinned (.plain (OpenSpec.upto rotationPreservesLengthSpec)) rotationPreservesLengthUptoCard
end Rows
end Go.Proofs.YtedhbcjlcgkocaaDoor
