/-
  DERIVED. GIVEN WITH THE SEED: THE CARDS: each row of YtalhkcmlacppjaaGreatDoorRows.lean that lists a variable, with what it lists TIED to the program's text (the seventh form; the later family's looks); each row that meets fmt, with fmt's text TOLD by the authors' own Lean function (tested against real Go, not proved from fmt's source: count such statements apart). THE CARD IS WHAT COUNTS. Prove the row's statement (the work); the ties are given (YtalhkcmlacppjaaGreatDoorTie.lean); close each card by the builder's one call (the guide's Derived/Test/ToyasCard.lean, 'card_holds'). Laid BY PROGRAM, IN A SANDBOX (cutbox-door.mjs). By AI agents, Wed Nov 11 2026. No macro, syntax, notation, axiom, sorry.
-/
import Derived.Test.YtalhkcmlacppjaaGreatDoorRows
import GoSem.ClaimSeven
namespace Go.Proofs.YtalhkcmlacppjaaGreatDoor
namespace Rows

/-- THE TIED CARD OF 'ambidextertop.TopLinkBodies'. -/
def topLinkBodiesCard : Claim7 := { stood := { row := topLinkBodiesRow, standIns := [], harness := (true, "4fa978685553b74d12586d5091db8b1937e22c2f16bdb5acecd103ff45683b80"), looks := false }, kinds := [], alts := [], laidByText := true, laidKinds := [.data], laidTests := true, laidLooks := .later }
def TopLinkBodiesCardSaid : Prop := Claim7.holds Tryz.pinned (.plain (OpenSpec.ofChange topLinkBodiesSpec)) topLinkBodiesCard

/-- THE TIED CARD OF 'ambidextertop.TopSweptStep'. -/
def topSweptStepCard : Claim7 := { stood := { row := topSweptStepRow, standIns := [], harness := (true, "4fa978685553b74d12586d5091db8b1937e22c2f16bdb5acecd103ff45683b80"), looks := false }, kinds := [], alts := [], laidByText := true, laidKinds := [.data], laidTests := true, laidLooks := .later }
def TopSweptStepCardSaid : Prop := Claim7.holds Tryz.pinned (.plain (OpenSpec.ofChange topSweptStepSpec)) topSweptStepCard

/-- THE SECOND FORM's CARD OF 'ambidextertop.TopLinkBodies'. -/
def topLinkBodiesUptoCard : Claim7 := { stood := { row := topLinkBodiesUptoRow, standIns := [], harness := (true, "4fa978685553b74d12586d5091db8b1937e22c2f16bdb5acecd103ff45683b80"), looks := false }, kinds := [], alts := [], laidByText := true, laidKinds := [.data], laidTests := true, laidLooks := .later }
def TopLinkBodiesUptoCardSaid : Prop := Claim7.holds Tryz.pinned (.plain (OpenSpec.upto topLinkBodiesSpec)) topLinkBodiesUptoCard

/-- THE SECOND FORM's CARD OF 'ambidextertop.TopSweptStep'. -/
def topSweptStepUptoCard : Claim7 := { stood := { row := topSweptStepUptoRow, standIns := [], harness := (true, "4fa978685553b74d12586d5091db8b1937e22c2f16bdb5acecd103ff45683b80"), looks := false }, kinds := [], alts := [], laidByText := true, laidKinds := [.data], laidTests := true, laidLooks := .later }
def TopSweptStepUptoCardSaid : Prop := Claim7.holds Tryz.pinned (.plain (OpenSpec.upto topSweptStepSpec)) topSweptStepUptoCard
end Rows
end Go.Proofs.YtalhkcmlacppjaaGreatDoor
