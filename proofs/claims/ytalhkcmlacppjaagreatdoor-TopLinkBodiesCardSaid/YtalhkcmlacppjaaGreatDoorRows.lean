/-
  NARROWER THAN 'FOR EVERY INPUT', by the rows' own cells (each row's printed sentence says how): TopLinkBodies: laid · TopSweptStep: laid.
  DERIVED. THE GIVEN ROWS OF THIS SEAT. 2 by the template 'for every input the law returns true; each argument reads behind the call as it read before'; 0 by the template 'total and deterministic' (their statements: YtalhkcmlacppjaaGreatDoorTotals.lean).
  GIVEN WITH THE SEED: the statements are not yours to turn. If you find one false, say at which input.
  Laid BY PROGRAM, IN A SANDBOX (cutbox-rows.mjs): the forced cells as the released guide's own fill.sh prints them over the translation 1b9fd091ddcb40d9… (all of the seat's roots in one cut). By AI agents, Wed Nov 11 2026. No macro, syntax, notation, axiom, sorry.
-/
import Derived.Test.YtalhkcmlacppjaaGreatDoorChecked
import GoSem.Claim
import GoSem.ClaimJoined
import GoSem.ClaimMapViews
import Derived.JoinedTies
import Derived.KernelRfl
namespace Go.Proofs.YtalhkcmlacppjaaGreatDoor
/- THE CELL 'sum', in the pinned program and in every row, IS THE sha256 OF THE DUMP (.gsa) THAT YtalhkcmlacppjaaGreatDoorProg.lean LOADS. Nothing in Lean hashes anything: it is a label: what it is worth is what the hold of that sum in a sandbox is worth. -/
noncomputable def Tryz.pinned : Pinned := { name := "ytalhkcmlacppjaagreatdoor", sum := "1b9fd091ddcb40d9bb85add2bd8673f75b5149281830bfc3683d581073c097fc", checked := Tryz.checked }
namespace Rows
def none {H : Type} : Left H := { results := [], args := [] }

/- WHAT THE LISTED PACKAGE-LEVEL VARIABLES READ AS WHEN THE CALL BEGINS. Each datum BY PROGRAM (the guide's laid-datum.mjs) off the statement by which the dump's own 'gosem.cut.vars' lays the variable. In a bare row this is a premise. The card (YtalhkcmlacppjaaGreatDoorCards.lean) ties it to the program's text. -/
def laid_ambidexter_rotation_quadrant {H : Type} : DataW H := .agg [.agg [.lit (.int .i64 65), .lit (.int .i64 0)], .agg [.lit (.int .i64 63), .lit (.int .i64 16)], .agg [.lit (.int .i64 60), .lit (.int .i64 25)], .agg [.lit (.int .i64 56), .lit (.int .i64 33)], .agg [.lit (.int .i64 52), .lit (.int .i64 39)], .agg [.lit (.int .i64 39), .lit (.int .i64 52)], .agg [.lit (.int .i64 33), .lit (.int .i64 56)], .agg [.lit (.int .i64 25), .lit (.int .i64 60)], .agg [.lit (.int .i64 16), .lit (.int .i64 63)]]

/-- 'ambidextertop.TopLinkBodies': WHATEVER THE INPUT: true; the input reads as it did. -/
def topLinkBodiesSpec : ChangeSpec := { name := "topLinkBodies", fn := fun _ => fun
  | [d1, d2, d3] => { results := [.lit (.bool true)], args := [d1, d2, d3] }
  | _ => none }
def topLinkBodiesRow : OpenClaim := { program := "ytalhkcmlacppjaagreatdoor", sum := "1b9fd091ddcb40d9bb85add2bd8673f75b5149281830bfc3683d581073c097fc", func := "ambidexter/ambidextertop.TopLinkBodies", spec := "topLinkBodies", unfollowed := true, recurses := true, named := ["ambidexter/rotation.quadrant"], apart := false, laid := [("ambidexter/rotation.quadrant", laid_ambidexter_rotation_quadrant)] }
def TopLinkBodiesSaid : Prop := topLinkBodiesRow.holds Tryz.pinned (OpenSpec.ofChange topLinkBodiesSpec)

/-- ITS FALSE NEIGHBOUR: 'it returns false'. Refute it at one input. -/
def topLinkBodiesWrong : ChangeSpec := { name := "topLinkBodies", fn := fun _ => fun
  | [d1, d2, d3] => { results := [.lit (.bool false)], args := [d1, d2, d3] }
  | _ => none }
def TopLinkBodiesWrongFalsely : Prop := topLinkBodiesRow.holds Tryz.pinned (OpenSpec.ofChange topLinkBodiesWrong)

/-- 'ambidextertop.TopSweptStep': WHATEVER THE INPUT: true; the input reads as it did. -/
def topSweptStepSpec : ChangeSpec := { name := "topSweptStep", fn := fun _ => fun
  | [d1, d2, d3, d4, d5] => { results := [.lit (.bool true)], args := [d1, d2, d3, d4, d5] }
  | _ => none }
def topSweptStepRow : OpenClaim := { program := "ytalhkcmlacppjaagreatdoor", sum := "1b9fd091ddcb40d9bb85add2bd8673f75b5149281830bfc3683d581073c097fc", func := "ambidexter/ambidextertop.TopSweptStep", spec := "topSweptStep", unfollowed := true, recurses := true, named := ["ambidexter/rotation.quadrant"], apart := false, laid := [("ambidexter/rotation.quadrant", laid_ambidexter_rotation_quadrant)] }
def TopSweptStepSaid : Prop := topSweptStepRow.holds Tryz.pinned (OpenSpec.ofChange topSweptStepSpec)

/-- ITS FALSE NEIGHBOUR: 'it returns false'. Refute it at one input. -/
def topSweptStepWrong : ChangeSpec := { name := "topSweptStep", fn := fun _ => fun
  | [d1, d2, d3, d4, d5] => { results := [.lit (.bool false)], args := [d1, d2, d3, d4, d5] }
  | _ => none }
def TopSweptStepWrongFalsely : Prop := topSweptStepRow.holds Tryz.pinned (OpenSpec.ofChange topSweptStepWrong)

/- THE SECOND FORM. 'bulk': how many values and letters a reading holds, each counted each time it is reached (what is shared counts as often as it is met; a slice's spare places count too). A statement '..UptoSaid' is the law's where the arguments, and the package variables that the reading takes, are together of bulk at most 1048576: NARROWER than '..Said'. Prove '..Said' where nothing that the law and all that it calls make is longer than what came in: it says more and counts as full. Else prove '..UptoSaid'. A law counts once. -/
mutual
def uptoBulk {H : Type} : DataW H → Nat
  | .lit (.string bytes) => bytes.length + 1
  | .lit _ => 1
  | .nil => 1
  | .ptr d => uptoBulk d + 1
  | .slice elems spare => uptoBulkAll elems + uptoBulkAll spare + 1
  | .agg parts => uptoBulkAll parts + 1
  | .iface _ d => uptoBulk d + 1
  | .map entries => uptoBulkEntries entries + 1
  | .held _ => 1
def uptoBulkAll {H : Type} : List (DataW H) → Nat
  | [] => 0
  | d :: r => uptoBulk d + uptoBulkAll r
def uptoBulkEntries {H : Type} : List (Lit × DataW H) → Nat
  | [] => 0
  | x :: r => uptoBulkEntry x + uptoBulkEntries r
def uptoBulkEntry {H : Type} : Lit × DataW H → Nat
  | (.string bytes, d) => bytes.length + uptoBulk d + 1
  | (_, d) => uptoBulk d + 1
 end
def uptoSmall : (H : Type) → List (DataW H) → Bool := fun _ ds => decide (uptoBulkAll ds ≤ 1048576)
def OpenSpec.upto (s : _root_.Go.ChangeSpec) : _root_.Go.OpenSpec := { _root_.Go.OpenSpec.ofChange s with cond := some uptoSmall }

/-- 'ambidextertop.TopLinkBodies', WHERE WHAT IT READS IS OF BULK AT MOST 1048576: true; the input reads as it did. -/
def topLinkBodiesUptoRow : OpenClaim := { program := "ytalhkcmlacppjaagreatdoor", sum := "1b9fd091ddcb40d9bb85add2bd8673f75b5149281830bfc3683d581073c097fc", func := "ambidexter/ambidextertop.TopLinkBodies", spec := "topLinkBodies", unfollowed := true, recurses := true, named := ["ambidexter/rotation.quadrant"], apart := false, laid := [("ambidexter/rotation.quadrant", laid_ambidexter_rotation_quadrant)], narrowed := true }
def TopLinkBodiesUptoSaid : Prop := topLinkBodiesUptoRow.holds Tryz.pinned (OpenSpec.upto topLinkBodiesSpec)

/-- 'ambidextertop.TopSweptStep', WHERE WHAT IT READS IS OF BULK AT MOST 1048576: true; the input reads as it did. -/
def topSweptStepUptoRow : OpenClaim := { program := "ytalhkcmlacppjaagreatdoor", sum := "1b9fd091ddcb40d9bb85add2bd8673f75b5149281830bfc3683d581073c097fc", func := "ambidexter/ambidextertop.TopSweptStep", spec := "topSweptStep", unfollowed := true, recurses := true, named := ["ambidexter/rotation.quadrant"], apart := false, laid := [("ambidexter/rotation.quadrant", laid_ambidexter_rotation_quadrant)], narrowed := true }
def TopSweptStepUptoSaid : Prop := topSweptStepUptoRow.holds Tryz.pinned (OpenSpec.upto topSweptStepSpec)

end Rows
end Go.Proofs.YtalhkcmlacppjaaGreatDoor
