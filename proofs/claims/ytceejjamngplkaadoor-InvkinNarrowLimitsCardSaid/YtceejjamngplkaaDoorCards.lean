/-
  DERIVED. GIVEN WITH THE SEED: THE CARDS: each row of YtceejjamngplkaaDoorRows.lean that lists a variable, with what it lists TIED to the program's text (the seventh form; the later family's looks); each row that meets fmt, with fmt's text TOLD by the authors' own Lean function (tested against real Go, not proved from fmt's source: count such statements apart). THE CARD IS WHAT COUNTS. Prove the row's statement (the work); the ties are given (YtceejjamngplkaaDoorTie.lean); close each card by the builder's one call (the guide's Derived/Test/ToyasCard.lean, 'card_holds'). Laid BY PROGRAM, IN A SANDBOX (cutbox-door.mjs). By AI agents, Wed Nov 11 2026. No macro, syntax, notation, axiom, sorry.
-/
import Derived.Test.YtceejjamngplkaaDoorRows
import GoSem.ClaimSeven
namespace Go.Proofs.YtceejjamngplkaaDoor
namespace Rows

/-- THE TIED CARD OF 'ambidexterlaw08.InvkinMatchesReference'. -/
def invkinMatchesReferenceCard : Claim7 := { stood := { row := invkinMatchesReferenceRow, standIns := [], harness := (true, "4f6a012b8c70e05e0c10f0ee0d246a3c08ceab2aedd7e1493fc1a4f2372baa6c"), looks := false }, kinds := [], alts := [], laidByText := true, laidKinds := [.data], laidTests := true, laidLooks := .later }
def InvkinMatchesReferenceCardSaid : Prop := Claim7.holds Tryd.pinned (.plain (OpenSpec.ofChange invkinMatchesReferenceSpec)) invkinMatchesReferenceCard

/-- THE TIED CARD OF 'ambidexterlaw08.InvkinRoundTrip'. -/
def invkinRoundTripCard : Claim7 := { stood := { row := invkinRoundTripRow, standIns := [], harness := (true, "4f6a012b8c70e05e0c10f0ee0d246a3c08ceab2aedd7e1493fc1a4f2372baa6c"), looks := false }, kinds := [], alts := [], laidByText := true, laidKinds := [.data], laidTests := true, laidLooks := .later }
def InvkinRoundTripCardSaid : Prop := Claim7.holds Tryd.pinned (.plain (OpenSpec.ofChange invkinRoundTripSpec)) invkinRoundTripCard

/-- THE TIED CARD OF 'ambidexterlaw08.InvkinAtMostTwo'. -/
def invkinAtMostTwoCard : Claim7 := { stood := { row := invkinAtMostTwoRow, standIns := [], harness := (true, "4f6a012b8c70e05e0c10f0ee0d246a3c08ceab2aedd7e1493fc1a4f2372baa6c"), looks := false }, kinds := [], alts := [], laidByText := true, laidKinds := [.data], laidTests := true, laidLooks := .later }
def InvkinAtMostTwoCardSaid : Prop := Claim7.holds Tryd.pinned (.plain (OpenSpec.ofChange invkinAtMostTwoSpec)) invkinAtMostTwoCard

/-- THE TIED CARD OF 'ambidexterlaw08.InvkinTranslated'. -/
def invkinTranslatedCard : Claim7 := { stood := { row := invkinTranslatedRow, standIns := [], harness := (true, "4f6a012b8c70e05e0c10f0ee0d246a3c08ceab2aedd7e1493fc1a4f2372baa6c"), looks := false }, kinds := [], alts := [], laidByText := true, laidKinds := [.data], laidTests := true, laidLooks := .later }
def InvkinTranslatedCardSaid : Prop := Claim7.holds Tryd.pinned (.plain (OpenSpec.ofChange invkinTranslatedSpec)) invkinTranslatedCard

/-- THE TIED CARD OF 'ambidexterlaw08.InvkinRotated'. -/
def invkinRotatedCard : Claim7 := { stood := { row := invkinRotatedRow, standIns := [], harness := (true, "4f6a012b8c70e05e0c10f0ee0d246a3c08ceab2aedd7e1493fc1a4f2372baa6c"), looks := false }, kinds := [], alts := [], laidByText := true, laidKinds := [.data], laidTests := true, laidLooks := .later }
def InvkinRotatedCardSaid : Prop := Claim7.holds Tryd.pinned (.plain (OpenSpec.ofChange invkinRotatedSpec)) invkinRotatedCard

/-- THE TIED CARD OF 'ambidexterlaw08.InvkinNarrowLimits'. -/
def invkinNarrowLimitsCard : Claim7 := { stood := { row := invkinNarrowLimitsRow, standIns := [], harness := (true, "4f6a012b8c70e05e0c10f0ee0d246a3c08ceab2aedd7e1493fc1a4f2372baa6c"), looks := false }, kinds := [], alts := [], laidByText := true, laidKinds := [.data], laidTests := true, laidLooks := .later }
def InvkinNarrowLimitsCardSaid : Prop := Claim7.holds Tryd.pinned (.plain (OpenSpec.ofChange invkinNarrowLimitsSpec)) invkinNarrowLimitsCard

/-- THE TIED CARD OF 'ambidexterlaw08.InvkinNearest'. -/
def invkinNearestCard : Claim7 := { stood := { row := invkinNearestRow, standIns := [], harness := (true, "4f6a012b8c70e05e0c10f0ee0d246a3c08ceab2aedd7e1493fc1a4f2372baa6c"), looks := false }, kinds := [], alts := [], laidByText := true, laidKinds := [.data], laidTests := true, laidLooks := .later }
def InvkinNearestCardSaid : Prop := Claim7.holds Tryd.pinned (.plain (OpenSpec.ofChange invkinNearestSpec)) invkinNearestCard

/-- THE SECOND FORM's CARD OF 'ambidexterlaw08.InvkinMatchesReference'. -/
def invkinMatchesReferenceUptoCard : Claim7 := { stood := { row := invkinMatchesReferenceUptoRow, standIns := [], harness := (true, "4f6a012b8c70e05e0c10f0ee0d246a3c08ceab2aedd7e1493fc1a4f2372baa6c"), looks := false }, kinds := [], alts := [], laidByText := true, laidKinds := [.data], laidTests := true, laidLooks := .later }
def InvkinMatchesReferenceUptoCardSaid : Prop := Claim7.holds Tryd.pinned (.plain (OpenSpec.upto invkinMatchesReferenceSpec)) invkinMatchesReferenceUptoCard

/-- THE SECOND FORM's CARD OF 'ambidexterlaw08.InvkinRoundTrip'. -/
def invkinRoundTripUptoCard : Claim7 := { stood := { row := invkinRoundTripUptoRow, standIns := [], harness := (true, "4f6a012b8c70e05e0c10f0ee0d246a3c08ceab2aedd7e1493fc1a4f2372baa6c"), looks := false }, kinds := [], alts := [], laidByText := true, laidKinds := [.data], laidTests := true, laidLooks := .later }
def InvkinRoundTripUptoCardSaid : Prop := Claim7.holds Tryd.pinned (.plain (OpenSpec.upto invkinRoundTripSpec)) invkinRoundTripUptoCard

/-- THE SECOND FORM's CARD OF 'ambidexterlaw08.InvkinAtMostTwo'. -/
def invkinAtMostTwoUptoCard : Claim7 := { stood := { row := invkinAtMostTwoUptoRow, standIns := [], harness := (true, "4f6a012b8c70e05e0c10f0ee0d246a3c08ceab2aedd7e1493fc1a4f2372baa6c"), looks := false }, kinds := [], alts := [], laidByText := true, laidKinds := [.data], laidTests := true, laidLooks := .later }
def InvkinAtMostTwoUptoCardSaid : Prop := Claim7.holds Tryd.pinned (.plain (OpenSpec.upto invkinAtMostTwoSpec)) invkinAtMostTwoUptoCard

/-- THE SECOND FORM's CARD OF 'ambidexterlaw08.InvkinTranslated'. -/
def invkinTranslatedUptoCard : Claim7 := { stood := { row := invkinTranslatedUptoRow, standIns := [], harness := (true, "4f6a012b8c70e05e0c10f0ee0d246a3c08ceab2aedd7e1493fc1a4f2372baa6c"), looks := false }, kinds := [], alts := [], laidByText := true, laidKinds := [.data], laidTests := true, laidLooks := .later }
def InvkinTranslatedUptoCardSaid : Prop := Claim7.holds Tryd.pinned (.plain (OpenSpec.upto invkinTranslatedSpec)) invkinTranslatedUptoCard

/-- THE SECOND FORM's CARD OF 'ambidexterlaw08.InvkinRotated'. -/
def invkinRotatedUptoCard : Claim7 := { stood := { row := invkinRotatedUptoRow, standIns := [], harness := (true, "4f6a012b8c70e05e0c10f0ee0d246a3c08ceab2aedd7e1493fc1a4f2372baa6c"), looks := false }, kinds := [], alts := [], laidByText := true, laidKinds := [.data], laidTests := true, laidLooks := .later }
def InvkinRotatedUptoCardSaid : Prop := Claim7.holds Tryd.pinned (.plain (OpenSpec.upto invkinRotatedSpec)) invkinRotatedUptoCard

/-- THE SECOND FORM's CARD OF 'ambidexterlaw08.InvkinNarrowLimits'. -/
def invkinNarrowLimitsUptoCard : Claim7 := { stood := { row := invkinNarrowLimitsUptoRow, standIns := [], harness := (true, "4f6a012b8c70e05e0c10f0ee0d246a3c08ceab2aedd7e1493fc1a4f2372baa6c"), looks := false }, kinds := [], alts := [], laidByText := true, laidKinds := [.data], laidTests := true, laidLooks := .later }
def InvkinNarrowLimitsUptoCardSaid : Prop := Claim7.holds Tryd.pinned (.plain (OpenSpec.upto invkinNarrowLimitsSpec)) invkinNarrowLimitsUptoCard

/-- THE SECOND FORM's CARD OF 'ambidexterlaw08.InvkinNearest'. -/
def invkinNearestUptoCard : Claim7 := { stood := { row := invkinNearestUptoRow, standIns := [], harness := (true, "4f6a012b8c70e05e0c10f0ee0d246a3c08ceab2aedd7e1493fc1a4f2372baa6c"), looks := false }, kinds := [], alts := [], laidByText := true, laidKinds := [.data], laidTests := true, laidLooks := .later }
def InvkinNearestUptoCardSaid : Prop := Claim7.holds Tryd.pinned (.plain (OpenSpec.upto invkinNearestSpec)) invkinNearestUptoCard
end Rows
end Go.Proofs.YtceejjamngplkaaDoor
