/-
  DERIVED. GIVEN WITH THE SEED: THE CARDS: each row of YtalhkcmlacppjaaDoorRows.lean that lists a variable, with what it lists TIED to the program's text (the seventh form; the later family's looks); each row that meets fmt, with fmt's text TOLD by the authors' own Lean function (tested against real Go, not proved from fmt's source: count such statements apart). THE CARD IS WHAT COUNTS. Prove the row's statement (the work); the ties are given (YtalhkcmlacppjaaDoorTie.lean); close each card by the builder's one call (the guide's Derived/Test/ToyasCard.lean, 'card_holds'). Laid BY PROGRAM, IN A SANDBOX (cutbox-door.mjs). By AI agents, Wed Nov 11 2026. No macro, syntax, notation, axiom, sorry.
-/
import Derived.Test.YtalhkcmlacppjaaDoorRows
import GoSem.ClaimSeven
namespace Go.Proofs.YtalhkcmlacppjaaDoor
namespace Rows

/-- THE TIED CARD OF 'ambidexterlaw07.ArmMatchesReference'. -/
def armMatchesReferenceCard : Claim7 := { stood := { row := armMatchesReferenceRow, standIns := [], harness := (true, "b74df896feb48a30a01122d5e8b3d05005b199990881fd0647ba9468ef64d67d"), looks := false }, kinds := [], alts := [], laidByText := true, laidKinds := [.data], laidTests := true, laidLooks := .later }
def ArmMatchesReferenceCardSaid : Prop := Claim7.holds Tryd.pinned (.plain (OpenSpec.ofChange armMatchesReferenceSpec)) armMatchesReferenceCard

/-- THE TIED CARD OF 'ambidexterlaw07.ArmLinksAreRigid'. -/
def armLinksAreRigidCard : Claim7 := { stood := { row := armLinksAreRigidRow, standIns := [], harness := (true, "b74df896feb48a30a01122d5e8b3d05005b199990881fd0647ba9468ef64d67d"), looks := false }, kinds := [], alts := [], laidByText := true, laidKinds := [.data], laidTests := true, laidLooks := .later }
def ArmLinksAreRigidCardSaid : Prop := Claim7.holds Tryd.pinned (.plain (OpenSpec.ofChange armLinksAreRigidSpec)) armLinksAreRigidCard

/-- THE TIED CARD OF 'ambidexterlaw07.ArmMovesAsChain'. -/
def armMovesAsChainCard : Claim7 := { stood := { row := armMovesAsChainRow, standIns := [], harness := (true, "b74df896feb48a30a01122d5e8b3d05005b199990881fd0647ba9468ef64d67d"), looks := false }, kinds := [], alts := [], laidByText := true, laidKinds := [.data], laidTests := true, laidLooks := .later }
def ArmMovesAsChainCardSaid : Prop := Claim7.holds Tryd.pinned (.plain (OpenSpec.ofChange armMovesAsChainSpec)) armMovesAsChainCard

/-- THE TIED CARD OF 'ambidexterlaw07.ArmComposesRotations'. -/
def armComposesRotationsCard : Claim7 := { stood := { row := armComposesRotationsRow, standIns := [], harness := (true, "b74df896feb48a30a01122d5e8b3d05005b199990881fd0647ba9468ef64d67d"), looks := false }, kinds := [], alts := [], laidByText := true, laidKinds := [.data], laidTests := true, laidLooks := .later }
def ArmComposesRotationsCardSaid : Prop := Claim7.holds Tryd.pinned (.plain (OpenSpec.ofChange armComposesRotationsSpec)) armComposesRotationsCard

/-- THE TIED CARD OF 'ambidexterlaw07.ArmStepsAreReversible'. -/
def armStepsAreReversibleCard : Claim7 := { stood := { row := armStepsAreReversibleRow, standIns := [], harness := (true, "b74df896feb48a30a01122d5e8b3d05005b199990881fd0647ba9468ef64d67d"), looks := false }, kinds := [], alts := [], laidByText := true, laidKinds := [.data], laidTests := true, laidLooks := .later }
def ArmStepsAreReversibleCardSaid : Prop := Claim7.holds Tryd.pinned (.plain (OpenSpec.ofChange armStepsAreReversibleSpec)) armStepsAreReversibleCard

/-- THE TIED CARD OF 'ambidexterlaw07.ArmReachIsBounded'. -/
def armReachIsBoundedCard : Claim7 := { stood := { row := armReachIsBoundedRow, standIns := [], harness := (true, "b74df896feb48a30a01122d5e8b3d05005b199990881fd0647ba9468ef64d67d"), looks := false }, kinds := [], alts := [], laidByText := true, laidKinds := [.data], laidTests := true, laidLooks := .later }
def ArmReachIsBoundedCardSaid : Prop := Claim7.holds Tryd.pinned (.plain (OpenSpec.ofChange armReachIsBoundedSpec)) armReachIsBoundedCard

/-- THE TIED CARD OF 'ambidextertop.TopQuarterTurn'. -/
def topQuarterTurnCard : Claim7 := { stood := { row := topQuarterTurnRow, standIns := [], harness := (true, "b74df896feb48a30a01122d5e8b3d05005b199990881fd0647ba9468ef64d67d"), looks := false }, kinds := [], alts := [], laidByText := true, laidKinds := [.data], laidTests := true, laidLooks := .later }
def TopQuarterTurnCardSaid : Prop := Claim7.holds Tryd.pinned (.plain (OpenSpec.ofChange topQuarterTurnSpec)) topQuarterTurnCard

/-- THE SECOND FORM's CARD OF 'ambidexterlaw07.ArmMatchesReference'. -/
def armMatchesReferenceUptoCard : Claim7 := { stood := { row := armMatchesReferenceUptoRow, standIns := [], harness := (true, "b74df896feb48a30a01122d5e8b3d05005b199990881fd0647ba9468ef64d67d"), looks := false }, kinds := [], alts := [], laidByText := true, laidKinds := [.data], laidTests := true, laidLooks := .later }
def ArmMatchesReferenceUptoCardSaid : Prop := Claim7.holds Tryd.pinned (.plain (OpenSpec.upto armMatchesReferenceSpec)) armMatchesReferenceUptoCard

/-- THE SECOND FORM's CARD OF 'ambidexterlaw07.ArmLinksAreRigid'. -/
def armLinksAreRigidUptoCard : Claim7 := { stood := { row := armLinksAreRigidUptoRow, standIns := [], harness := (true, "b74df896feb48a30a01122d5e8b3d05005b199990881fd0647ba9468ef64d67d"), looks := false }, kinds := [], alts := [], laidByText := true, laidKinds := [.data], laidTests := true, laidLooks := .later }
def ArmLinksAreRigidUptoCardSaid : Prop := Claim7.holds Tryd.pinned (.plain (OpenSpec.upto armLinksAreRigidSpec)) armLinksAreRigidUptoCard

/-- THE SECOND FORM's CARD OF 'ambidexterlaw07.ArmMovesAsChain'. -/
def armMovesAsChainUptoCard : Claim7 := { stood := { row := armMovesAsChainUptoRow, standIns := [], harness := (true, "b74df896feb48a30a01122d5e8b3d05005b199990881fd0647ba9468ef64d67d"), looks := false }, kinds := [], alts := [], laidByText := true, laidKinds := [.data], laidTests := true, laidLooks := .later }
def ArmMovesAsChainUptoCardSaid : Prop := Claim7.holds Tryd.pinned (.plain (OpenSpec.upto armMovesAsChainSpec)) armMovesAsChainUptoCard

/-- THE SECOND FORM's CARD OF 'ambidexterlaw07.ArmComposesRotations'. -/
def armComposesRotationsUptoCard : Claim7 := { stood := { row := armComposesRotationsUptoRow, standIns := [], harness := (true, "b74df896feb48a30a01122d5e8b3d05005b199990881fd0647ba9468ef64d67d"), looks := false }, kinds := [], alts := [], laidByText := true, laidKinds := [.data], laidTests := true, laidLooks := .later }
def ArmComposesRotationsUptoCardSaid : Prop := Claim7.holds Tryd.pinned (.plain (OpenSpec.upto armComposesRotationsSpec)) armComposesRotationsUptoCard

/-- THE SECOND FORM's CARD OF 'ambidexterlaw07.ArmStepsAreReversible'. -/
def armStepsAreReversibleUptoCard : Claim7 := { stood := { row := armStepsAreReversibleUptoRow, standIns := [], harness := (true, "b74df896feb48a30a01122d5e8b3d05005b199990881fd0647ba9468ef64d67d"), looks := false }, kinds := [], alts := [], laidByText := true, laidKinds := [.data], laidTests := true, laidLooks := .later }
def ArmStepsAreReversibleUptoCardSaid : Prop := Claim7.holds Tryd.pinned (.plain (OpenSpec.upto armStepsAreReversibleSpec)) armStepsAreReversibleUptoCard

/-- THE SECOND FORM's CARD OF 'ambidexterlaw07.ArmReachIsBounded'. -/
def armReachIsBoundedUptoCard : Claim7 := { stood := { row := armReachIsBoundedUptoRow, standIns := [], harness := (true, "b74df896feb48a30a01122d5e8b3d05005b199990881fd0647ba9468ef64d67d"), looks := false }, kinds := [], alts := [], laidByText := true, laidKinds := [.data], laidTests := true, laidLooks := .later }
def ArmReachIsBoundedUptoCardSaid : Prop := Claim7.holds Tryd.pinned (.plain (OpenSpec.upto armReachIsBoundedSpec)) armReachIsBoundedUptoCard

/-- THE SECOND FORM's CARD OF 'ambidextertop.TopQuarterTurn'. -/
def topQuarterTurnUptoCard : Claim7 := { stood := { row := topQuarterTurnUptoRow, standIns := [], harness := (true, "b74df896feb48a30a01122d5e8b3d05005b199990881fd0647ba9468ef64d67d"), looks := false }, kinds := [], alts := [], laidByText := true, laidKinds := [.data], laidTests := true, laidLooks := .later }
def TopQuarterTurnUptoCardSaid : Prop := Claim7.holds Tryd.pinned (.plain (OpenSpec.upto topQuarterTurnSpec)) topQuarterTurnUptoCard
end Rows
end Go.Proofs.YtalhkcmlacppjaaDoor
