/-
  DERIVED. GIVEN WITH THE SEED: THE CARDS: each row of YtfimejmmcfdgaaaDoorRows.lean that lists a variable, with what it lists TIED to the program's text (the seventh form; the later family's looks); each row that meets fmt, with fmt's text TOLD by the authors' own Lean function (tested against real Go, not proved from fmt's source: count such statements apart). THE CARD IS WHAT COUNTS. Prove the row's statement (the work); the ties are given (YtfimejmmcfdgaaaDoorTie.lean); close each card by the builder's one call (the guide's Derived/Test/ToyasCard.lean, 'card_holds'). Laid BY PROGRAM, IN A SANDBOX (cutbox-door.mjs). By AI agents, Wed Nov 11 2026. No macro, syntax, notation, axiom, sorry.
-/
import Derived.Test.YtfimejmmcfdgaaaDoorRows
import GoSem.ClaimSeven
namespace Go.Proofs.YtfimejmmcfdgaaaDoor
namespace Rows

/-- THE TIED CARD OF 'ambidexterlaw10.LexerMatchesReference'. -/
def lexerMatchesReferenceCard : Claim7 := { stood := { row := lexerMatchesReferenceRow, standIns := [], harness := (true, "fcfbe8af685e62b18ad957b1f887ee7fa98b729560a770c153c5b4700a4c0aa7"), looks := false }, kinds := [], alts := [], laidByText := true, laidKinds := [.data], laidTests := true, laidLooks := .later }
def LexerMatchesReferenceCardSaid : Prop := Claim7.holds Tryd.pinned (.plain (OpenSpec.ofChange lexerMatchesReferenceSpec)) lexerMatchesReferenceCard

/-- THE TIED CARD OF 'ambidexterlaw10.LexerOffsets'. -/
def lexerOffsetsCard : Claim7 := { stood := { row := lexerOffsetsRow, standIns := [], harness := (true, "fcfbe8af685e62b18ad957b1f887ee7fa98b729560a770c153c5b4700a4c0aa7"), looks := false }, kinds := [], alts := [], laidByText := true, laidKinds := [.data], laidTests := true, laidLooks := .later }
def LexerOffsetsCardSaid : Prop := Claim7.holds Tryd.pinned (.plain (OpenSpec.ofChange lexerOffsetsSpec)) lexerOffsetsCard

/-- THE TIED CARD OF 'ambidexterlaw10.LexerStable'. -/
def lexerStableCard : Claim7 := { stood := { row := lexerStableRow, standIns := [], harness := (true, "fcfbe8af685e62b18ad957b1f887ee7fa98b729560a770c153c5b4700a4c0aa7"), looks := false }, kinds := [], alts := [], laidByText := true, laidKinds := [.data], laidTests := true, laidLooks := .later }
def LexerStableCardSaid : Prop := Claim7.holds Tryd.pinned (.plain (OpenSpec.ofChange lexerStableSpec)) lexerStableCard

/-- THE TIED CARD OF 'ambidexterlaw10.LexerConcatenation'. -/
def lexerConcatenationCard : Claim7 := { stood := { row := lexerConcatenationRow, standIns := [], harness := (true, "fcfbe8af685e62b18ad957b1f887ee7fa98b729560a770c153c5b4700a4c0aa7"), looks := false }, kinds := [], alts := [], laidByText := true, laidKinds := [.data], laidTests := true, laidLooks := .later }
def LexerConcatenationCardSaid : Prop := Claim7.holds Tryd.pinned (.plain (OpenSpec.ofChange lexerConcatenationSpec)) lexerConcatenationCard

/-- THE TIED CARD OF 'ambidexterlaw10.LexerFirstError'. -/
def lexerFirstErrorCard : Claim7 := { stood := { row := lexerFirstErrorRow, standIns := [], harness := (true, "fcfbe8af685e62b18ad957b1f887ee7fa98b729560a770c153c5b4700a4c0aa7"), looks := false }, kinds := [], alts := [], laidByText := true, laidKinds := [.data], laidTests := true, laidLooks := .later }
def LexerFirstErrorCardSaid : Prop := Claim7.holds Tryd.pinned (.plain (OpenSpec.ofChange lexerFirstErrorSpec)) lexerFirstErrorCard

/-- THE TIED CARD OF 'ambidexterlaw10.LexerNumbers'. -/
def lexerNumbersCard : Claim7 := { stood := { row := lexerNumbersRow, standIns := [], harness := (true, "fcfbe8af685e62b18ad957b1f887ee7fa98b729560a770c153c5b4700a4c0aa7"), looks := false }, kinds := [], alts := [], laidByText := true, laidKinds := [.data], laidTests := true, laidLooks := .later }
def LexerNumbersCardSaid : Prop := Claim7.holds Tryd.pinned (.plain (OpenSpec.ofChange lexerNumbersSpec)) lexerNumbersCard

/-- THE TIED CARD OF 'ambidexterlaw10.LexerBig'. -/
def lexerBigCard : Claim7 := { stood := { row := lexerBigRow, standIns := [], harness := (true, "fcfbe8af685e62b18ad957b1f887ee7fa98b729560a770c153c5b4700a4c0aa7"), looks := false }, kinds := [], alts := [], laidByText := true, laidKinds := [.data], laidTests := true, laidLooks := .later }
def LexerBigCardSaid : Prop := Claim7.holds Tryd.pinned (.plain (OpenSpec.ofChange lexerBigSpec)) lexerBigCard

/-- THE SECOND FORM's CARD OF 'ambidexterlaw10.LexerMatchesReference'. -/
def lexerMatchesReferenceUptoCard : Claim7 := { stood := { row := lexerMatchesReferenceUptoRow, standIns := [], harness := (true, "fcfbe8af685e62b18ad957b1f887ee7fa98b729560a770c153c5b4700a4c0aa7"), looks := false }, kinds := [], alts := [], laidByText := true, laidKinds := [.data], laidTests := true, laidLooks := .later }
def LexerMatchesReferenceUptoCardSaid : Prop := Claim7.holds Tryd.pinned (.plain (OpenSpec.upto lexerMatchesReferenceSpec)) lexerMatchesReferenceUptoCard

/-- THE SECOND FORM's CARD OF 'ambidexterlaw10.LexerOffsets'. -/
def lexerOffsetsUptoCard : Claim7 := { stood := { row := lexerOffsetsUptoRow, standIns := [], harness := (true, "fcfbe8af685e62b18ad957b1f887ee7fa98b729560a770c153c5b4700a4c0aa7"), looks := false }, kinds := [], alts := [], laidByText := true, laidKinds := [.data], laidTests := true, laidLooks := .later }
def LexerOffsetsUptoCardSaid : Prop := Claim7.holds Tryd.pinned (.plain (OpenSpec.upto lexerOffsetsSpec)) lexerOffsetsUptoCard

/-- THE SECOND FORM's CARD OF 'ambidexterlaw10.LexerStable'. -/
def lexerStableUptoCard : Claim7 := { stood := { row := lexerStableUptoRow, standIns := [], harness := (true, "fcfbe8af685e62b18ad957b1f887ee7fa98b729560a770c153c5b4700a4c0aa7"), looks := false }, kinds := [], alts := [], laidByText := true, laidKinds := [.data], laidTests := true, laidLooks := .later }
def LexerStableUptoCardSaid : Prop := Claim7.holds Tryd.pinned (.plain (OpenSpec.upto lexerStableSpec)) lexerStableUptoCard

/-- THE SECOND FORM's CARD OF 'ambidexterlaw10.LexerConcatenation'. -/
def lexerConcatenationUptoCard : Claim7 := { stood := { row := lexerConcatenationUptoRow, standIns := [], harness := (true, "fcfbe8af685e62b18ad957b1f887ee7fa98b729560a770c153c5b4700a4c0aa7"), looks := false }, kinds := [], alts := [], laidByText := true, laidKinds := [.data], laidTests := true, laidLooks := .later }
def LexerConcatenationUptoCardSaid : Prop := Claim7.holds Tryd.pinned (.plain (OpenSpec.upto lexerConcatenationSpec)) lexerConcatenationUptoCard

/-- THE SECOND FORM's CARD OF 'ambidexterlaw10.LexerFirstError'. -/
def lexerFirstErrorUptoCard : Claim7 := { stood := { row := lexerFirstErrorUptoRow, standIns := [], harness := (true, "fcfbe8af685e62b18ad957b1f887ee7fa98b729560a770c153c5b4700a4c0aa7"), looks := false }, kinds := [], alts := [], laidByText := true, laidKinds := [.data], laidTests := true, laidLooks := .later }
def LexerFirstErrorUptoCardSaid : Prop := Claim7.holds Tryd.pinned (.plain (OpenSpec.upto lexerFirstErrorSpec)) lexerFirstErrorUptoCard

/-- THE SECOND FORM's CARD OF 'ambidexterlaw10.LexerNumbers'. -/
def lexerNumbersUptoCard : Claim7 := { stood := { row := lexerNumbersUptoRow, standIns := [], harness := (true, "fcfbe8af685e62b18ad957b1f887ee7fa98b729560a770c153c5b4700a4c0aa7"), looks := false }, kinds := [], alts := [], laidByText := true, laidKinds := [.data], laidTests := true, laidLooks := .later }
def LexerNumbersUptoCardSaid : Prop := Claim7.holds Tryd.pinned (.plain (OpenSpec.upto lexerNumbersSpec)) lexerNumbersUptoCard

/-- THE SECOND FORM's CARD OF 'ambidexterlaw10.LexerBig'. -/
def lexerBigUptoCard : Claim7 := { stood := { row := lexerBigUptoRow, standIns := [], harness := (true, "fcfbe8af685e62b18ad957b1f887ee7fa98b729560a770c153c5b4700a4c0aa7"), looks := false }, kinds := [], alts := [], laidByText := true, laidKinds := [.data], laidTests := true, laidLooks := .later }
def LexerBigUptoCardSaid : Prop := Claim7.holds Tryd.pinned (.plain (OpenSpec.upto lexerBigSpec)) lexerBigUptoCard
end Rows
end Go.Proofs.YtfimejmmcfdgaaaDoor
