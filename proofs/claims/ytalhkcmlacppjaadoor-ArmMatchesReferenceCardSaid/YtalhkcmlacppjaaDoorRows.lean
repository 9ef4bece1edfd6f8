/-
  NARROWER THAN 'FOR EVERY INPUT', by the rows' own cells (each row's printed sentence says how): ArmMatchesReference: laid · ArmLinksAreRigid: laid · ArmMovesAsChain: laid · ArmComposesRotations: laid · ArmStepsAreReversible: laid · ArmReachIsBounded: laid · TopQuarterTurn: laid.
  DERIVED. THE GIVEN ROWS OF THIS SEAT. 7 by the template 'for every input the law returns true; each argument reads behind the call as it read before'; 0 by the template 'total and deterministic' (their statements: YtalhkcmlacppjaaDoorTotals.lean).
  GIVEN WITH THE SEED: the statements are not yours to turn. If you find one false, say at which input.
  Laid BY PROGRAM, IN A SANDBOX (cutbox-rows.mjs): the forced cells as the released guide's own fill.sh prints them over the translation 969f35bfeab4cc99… (all of the seat's roots in one cut). By AI agents, Wed Nov 11 2026. No macro, syntax, notation, axiom, sorry.
-/
import Derived.Test.YtalhkcmlacppjaaDoorChecked
import GoSem.Claim
import GoSem.ClaimJoined
import GoSem.ClaimMapViews
import Derived.JoinedTies
import Derived.KernelRfl
namespace Go.Proofs.YtalhkcmlacppjaaDoor
/- THE CELL 'sum', in the pinned program and in every row, IS THE sha256 OF THE DUMP (.gsa) THAT YtalhkcmlacppjaaDoorProg.lean LOADS. Nothing in Lean hashes anything: it is a label: what it is worth is what the hold of that sum in a sandbox is worth. -/
noncomputable def Tryd.pinned : Pinned := { name := "ytalhkcmlacppjaadoor", sum := "969f35bfeab4cc99c8954d5b8cc2213280b1d7f201faaeeb73ae68fcfc51994c", checked := Tryd.checked }
namespace Rows
def none {H : Type} : Left H := { results := [], args := [] }

/- WHAT THE LISTED PACKAGE-LEVEL VARIABLES READ AS WHEN THE CALL BEGINS. Each datum BY PROGRAM (the guide's laid-datum.mjs) off the statement by which the dump's own 'gosem.cut.vars' lays the variable. In a bare row this is a premise. The card (YtalhkcmlacppjaaDoorCards.lean) ties it to the program's text. -/
def laid_ambidexter_rotation_quadrant {H : Type} : DataW H := .agg [.agg [.lit (.int .i64 65), .lit (.int .i64 0)], .agg [.lit (.int .i64 63), .lit (.int .i64 16)], .agg [.lit (.int .i64 60), .lit (.int .i64 25)], .agg [.lit (.int .i64 56), .lit (.int .i64 33)], .agg [.lit (.int .i64 52), .lit (.int .i64 39)], .agg [.lit (.int .i64 39), .lit (.int .i64 52)], .agg [.lit (.int .i64 33), .lit (.int .i64 56)], .agg [.lit (.int .i64 25), .lit (.int .i64 60)], .agg [.lit (.int .i64 16), .lit (.int .i64 63)]]

/-- 'ambidexterlaw07.ArmMatchesReference': WHATEVER THE INPUT: true; the input reads as it did. -/
def armMatchesReferenceSpec : ChangeSpec := { name := "armMatchesReference", fn := fun _ => fun
  | [d1, d2, d3, d4, d5] => { results := [.lit (.bool true)], args := [d1, d2, d3, d4, d5] }
  | _ => none }
def armMatchesReferenceRow : OpenClaim := { program := "ytalhkcmlacppjaadoor", sum := "969f35bfeab4cc99c8954d5b8cc2213280b1d7f201faaeeb73ae68fcfc51994c", func := "ambidexter/ambidexterlaw07.ArmMatchesReference", spec := "armMatchesReference", unfollowed := true, recurses := true, named := ["ambidexter/rotation.quadrant"], apart := false, laid := [("ambidexter/rotation.quadrant", laid_ambidexter_rotation_quadrant)] }
def ArmMatchesReferenceSaid : Prop := armMatchesReferenceRow.holds Tryd.pinned (OpenSpec.ofChange armMatchesReferenceSpec)

/-- ITS FALSE NEIGHBOUR: 'it returns false'. Refute it at one input. -/
def armMatchesReferenceWrong : ChangeSpec := { name := "armMatchesReference", fn := fun _ => fun
  | [d1, d2, d3, d4, d5] => { results := [.lit (.bool false)], args := [d1, d2, d3, d4, d5] }
  | _ => none }
def ArmMatchesReferenceWrongFalsely : Prop := armMatchesReferenceRow.holds Tryd.pinned (OpenSpec.ofChange armMatchesReferenceWrong)

/-- 'ambidexterlaw07.ArmLinksAreRigid': WHATEVER THE INPUT: true; the input reads as it did. -/
def armLinksAreRigidSpec : ChangeSpec := { name := "armLinksAreRigid", fn := fun _ => fun
  | [d1, d2] => { results := [.lit (.bool true)], args := [d1, d2] }
  | _ => none }
def armLinksAreRigidRow : OpenClaim := { program := "ytalhkcmlacppjaadoor", sum := "969f35bfeab4cc99c8954d5b8cc2213280b1d7f201faaeeb73ae68fcfc51994c", func := "ambidexter/ambidexterlaw07.ArmLinksAreRigid", spec := "armLinksAreRigid", unfollowed := true, recurses := true, named := ["ambidexter/rotation.quadrant"], apart := false, laid := [("ambidexter/rotation.quadrant", laid_ambidexter_rotation_quadrant)] }
def ArmLinksAreRigidSaid : Prop := armLinksAreRigidRow.holds Tryd.pinned (OpenSpec.ofChange armLinksAreRigidSpec)

/-- ITS FALSE NEIGHBOUR: 'it returns false'. Refute it at one input. -/
def armLinksAreRigidWrong : ChangeSpec := { name := "armLinksAreRigid", fn := fun _ => fun
  | [d1, d2] => { results := [.lit (.bool false)], args := [d1, d2] }
  | _ => none }
def ArmLinksAreRigidWrongFalsely : Prop := armLinksAreRigidRow.holds Tryd.pinned (OpenSpec.ofChange armLinksAreRigidWrong)

/-- 'ambidexterlaw07.ArmMovesAsChain': WHATEVER THE INPUT: true; the input reads as it did. -/
def armMovesAsChainSpec : ChangeSpec := { name := "armMovesAsChain", fn := fun _ => fun
  | [d1, d2, d3, d4] => { results := [.lit (.bool true)], args := [d1, d2, d3, d4] }
  | _ => none }
def armMovesAsChainRow : OpenClaim := { program := "ytalhkcmlacppjaadoor", sum := "969f35bfeab4cc99c8954d5b8cc2213280b1d7f201faaeeb73ae68fcfc51994c", func := "ambidexter/ambidexterlaw07.ArmMovesAsChain", spec := "armMovesAsChain", unfollowed := true, recurses := true, named := ["ambidexter/rotation.quadrant"], apart := false, laid := [("ambidexter/rotation.quadrant", laid_ambidexter_rotation_quadrant)] }
def ArmMovesAsChainSaid : Prop := armMovesAsChainRow.holds Tryd.pinned (OpenSpec.ofChange armMovesAsChainSpec)

/-- ITS FALSE NEIGHBOUR: 'it returns false'. Refute it at one input. -/
def armMovesAsChainWrong : ChangeSpec := { name := "armMovesAsChain", fn := fun _ => fun
  | [d1, d2, d3, d4] => { results := [.lit (.bool false)], args := [d1, d2, d3, d4] }
  | _ => none }
def ArmMovesAsChainWrongFalsely : Prop := armMovesAsChainRow.holds Tryd.pinned (OpenSpec.ofChange armMovesAsChainWrong)

/-- 'ambidexterlaw07.ArmComposesRotations': WHATEVER THE INPUT: true; the input reads as it did. -/
def armComposesRotationsSpec : ChangeSpec := { name := "armComposesRotations", fn := fun _ => fun
  | [d1, d2, d3, d4, d5] => { results := [.lit (.bool true)], args := [d1, d2, d3, d4, d5] }
  | _ => none }
def armComposesRotationsRow : OpenClaim := { program := "ytalhkcmlacppjaadoor", sum := "969f35bfeab4cc99c8954d5b8cc2213280b1d7f201faaeeb73ae68fcfc51994c", func := "ambidexter/ambidexterlaw07.ArmComposesRotations", spec := "armComposesRotations", unfollowed := true, recurses := true, named := ["ambidexter/rotation.quadrant"], apart := false, laid := [("ambidexter/rotation.quadrant", laid_ambidexter_rotation_quadrant)] }
def ArmComposesRotationsSaid : Prop := armComposesRotationsRow.holds Tryd.pinned (OpenSpec.ofChange armComposesRotationsSpec)

/-- ITS FALSE NEIGHBOUR: 'it returns false'. Refute it at one input. -/
def armComposesRotationsWrong : ChangeSpec := { name := "armComposesRotations", fn := fun _ => fun
  | [d1, d2, d3, d4, d5] => { results := [.lit (.bool false)], args := [d1, d2, d3, d4, d5] }
  | _ => none }
def ArmComposesRotationsWrongFalsely : Prop := armComposesRotationsRow.holds Tryd.pinned (OpenSpec.ofChange armComposesRotationsWrong)

/-- 'ambidexterlaw07.ArmStepsAreReversible': WHATEVER THE INPUT: true; the input reads as it did. -/
def armStepsAreReversibleSpec : ChangeSpec := { name := "armStepsAreReversible", fn := fun _ => fun
  | [d1, d2, d3] => { results := [.lit (.bool true)], args := [d1, d2, d3] }
  | _ => none }
def armStepsAreReversibleRow : OpenClaim := { program := "ytalhkcmlacppjaadoor", sum := "969f35bfeab4cc99c8954d5b8cc2213280b1d7f201faaeeb73ae68fcfc51994c", func := "ambidexter/ambidexterlaw07.ArmStepsAreReversible", spec := "armStepsAreReversible", unfollowed := true, recurses := true, named := ["ambidexter/rotation.quadrant"], apart := false, laid := [("ambidexter/rotation.quadrant", laid_ambidexter_rotation_quadrant)] }
def ArmStepsAreReversibleSaid : Prop := armStepsAreReversibleRow.holds Tryd.pinned (OpenSpec.ofChange armStepsAreReversibleSpec)

/-- ITS FALSE NEIGHBOUR: 'it returns false'. Refute it at one input. -/
def armStepsAreReversibleWrong : ChangeSpec := { name := "armStepsAreReversible", fn := fun _ => fun
  | [d1, d2, d3] => { results := [.lit (.bool false)], args := [d1, d2, d3] }
  | _ => none }
def ArmStepsAreReversibleWrongFalsely : Prop := armStepsAreReversibleRow.holds Tryd.pinned (OpenSpec.ofChange armStepsAreReversibleWrong)

/-- 'ambidexterlaw07.ArmReachIsBounded': WHATEVER THE INPUT: true; the input reads as it did. -/
def armReachIsBoundedSpec : ChangeSpec := { name := "armReachIsBounded", fn := fun _ => fun
  | [d1, d2] => { results := [.lit (.bool true)], args := [d1, d2] }
  | _ => none }
def armReachIsBoundedRow : OpenClaim := { program := "ytalhkcmlacppjaadoor", sum := "969f35bfeab4cc99c8954d5b8cc2213280b1d7f201faaeeb73ae68fcfc51994c", func := "ambidexter/ambidexterlaw07.ArmReachIsBounded", spec := "armReachIsBounded", unfollowed := true, recurses := true, named := ["ambidexter/rotation.quadrant"], apart := false, laid := [("ambidexter/rotation.quadrant", laid_ambidexter_rotation_quadrant)] }
def ArmReachIsBoundedSaid : Prop := armReachIsBoundedRow.holds Tryd.pinned (OpenSpec.ofChange armReachIsBoundedSpec)

/-- ITS FALSE NEIGHBOUR: 'it returns false'. Refute it at one input. -/
def armReachIsBoundedWrong : ChangeSpec := { name := "armReachIsBounded", fn := fun _ => fun
  | [d1, d2] => { results := [.lit (.bool false)], args := [d1, d2] }
  | _ => none }
def ArmReachIsBoundedWrongFalsely : Prop := armReachIsBoundedRow.holds Tryd.pinned (OpenSpec.ofChange armReachIsBoundedWrong)

/-- 'ambidextertop.TopQuarterTurn': WHATEVER THE INPUT: true; the input reads as it did. -/
def topQuarterTurnSpec : ChangeSpec := { name := "topQuarterTurn", fn := fun _ => fun
  | [d1, d2] => { results := [.lit (.bool true)], args := [d1, d2] }
  | _ => none }
def topQuarterTurnRow : OpenClaim := { program := "ytalhkcmlacppjaadoor", sum := "969f35bfeab4cc99c8954d5b8cc2213280b1d7f201faaeeb73ae68fcfc51994c", func := "ambidexter/ambidextertop.TopQuarterTurn", spec := "topQuarterTurn", unfollowed := true, recurses := true, named := ["ambidexter/rotation.quadrant"], apart := false, laid := [("ambidexter/rotation.quadrant", laid_ambidexter_rotation_quadrant)] }
def TopQuarterTurnSaid : Prop := topQuarterTurnRow.holds Tryd.pinned (OpenSpec.ofChange topQuarterTurnSpec)

/-- ITS FALSE NEIGHBOUR: 'it returns false'. Refute it at one input. -/
def topQuarterTurnWrong : ChangeSpec := { name := "topQuarterTurn", fn := fun _ => fun
  | [d1, d2] => { results := [.lit (.bool false)], args := [d1, d2] }
  | _ => none }
def TopQuarterTurnWrongFalsely : Prop := topQuarterTurnRow.holds Tryd.pinned (OpenSpec.ofChange topQuarterTurnWrong)

/- THE SECOND FORM. 'bulk': how many values and letters a reading holds, each counted each time it is reached (what is shared counts as often as it is met; a slice's spare places count too). A statement '..UptoSaid' is the law's where the arguments, and the package variables that the reading takes, are together of bulk at most 1048576: NARROWER than '..Said'. Prove '..Said' where nothing that the law and all that it calls make is longer than what came in: it says more and counts as full. Else prove '..UptoSaid'. A law counts once. -/
mutual
def uptoBulk {H : Type} : DataW H → Nat
  | .lit (.string bytes) => bytes.length + 1
  | .lit _ => 1
  | .nil => 1
  | .ptr d => uptoBulk d + 1
  | .slice elems spare => uptoBulkAll elems + uptoBulkAll spare + 1
  | .agg parts => uptoBulkAll parts + 1
  | .iface _ d => uptoBulk d + 1
  | .map entries => uptoBulkEntries entries + 1
  | .held _ => 1
def uptoBulkAll {H : Type} : List (DataW H) → Nat
  | [] => 0
  | d :: r => uptoBulk d + uptoBulkAll r
def uptoBulkEntries {H : Type} : List (Lit × DataW H) → Nat
  | [] => 0
  | x :: r => uptoBulkEntry x + uptoBulkEntries r
def uptoBulkEntry {H : Type} : Lit × DataW H → Nat
  | (.string bytes, d) => bytes.length + uptoBulk d + 1
  | (_, d) => uptoBulk d + 1
 end
def uptoSmall : (H : Type) → List (DataW H) → Bool := fun _ ds => decide (uptoBulkAll ds ≤ 1048576)
def OpenSpec.upto (s : _root_.Go.ChangeSpec) : _root_.Go.OpenSpec := { _root_.Go.OpenSpec.ofChange s with cond := some uptoSmall }

/-- 'ambidexterlaw07.ArmMatchesReference', WHERE WHAT IT READS IS OF BULK AT MOST 1048576: true; the input reads as it did. -/
def armMatchesReferenceUptoRow : OpenClaim := { program := "ytalhkcmlacppjaadoor", sum := "969f35bfeab4cc99c8954d5b8cc2213280b1d7f201faaeeb73ae68fcfc51994c", func := "ambidexter/ambidexterlaw07.ArmMatchesReference", spec := "armMatchesReference", unfollowed := true, recurses := true, named := ["ambidexter/rotation.quadrant"], apart := false, laid := [("ambidexter/rotation.quadrant", laid_ambidexter_rotation_quadrant)], narrowed := true }
def ArmMatchesReferenceUptoSaid : Prop := armMatchesReferenceUptoRow.holds Tryd.pinned (OpenSpec.upto armMatchesReferenceSpec)

/-- 'ambidexterlaw07.ArmLinksAreRigid', WHERE WHAT IT READS IS OF BULK AT MOST 1048576: true; the input reads as it did. -/
def armLinksAreRigidUptoRow : OpenClaim := { program := "ytalhkcmlacppjaadoor", sum := "969f35bfeab4cc99c8954d5b8cc2213280b1d7f201faaeeb73ae68fcfc51994c", func := "ambidexter/ambidexterlaw07.ArmLinksAreRigid", spec := "armLinksAreRigid", unfollowed := true, recurses := true, named := ["ambidexter/rotation.quadrant"], apart := false, laid := [("ambidexter/rotation.quadrant", laid_ambidexter_rotation_quadrant)], narrowed := true }
def ArmLinksAreRigidUptoSaid : Prop := armLinksAreRigidUptoRow.holds Tryd.pinned (OpenSpec.upto armLinksAreRigidSpec)

/-- 'ambidexterlaw07.ArmMovesAsChain', WHERE WHAT IT READS IS OF BULK AT MOST 1048576: true; the input reads as it did. -/
def armMovesAsChainUptoRow : OpenClaim := { program := "ytalhkcmlacppjaadoor", sum := "969f35bfeab4cc99c8954d5b8cc2213280b1d7f201faaeeb73ae68fcfc51994c", func := "ambidexter/ambidexterlaw07.ArmMovesAsChain", spec := "armMovesAsChain", unfollowed := true, recurses := true, named := ["ambidexter/rotation.quadrant"], apart := false, laid := [("ambidexter/rotation.quadrant", laid_ambidexter_rotation_quadrant)], narrowed := true }
def ArmMovesAsChainUptoSaid : Prop := armMovesAsChainUptoRow.holds Tryd.pinned (OpenSpec.upto armMovesAsChainSpec)

/-- 'ambidexterlaw07.ArmComposesRotations', WHERE WHAT IT READS IS OF BULK AT MOST 1048576: true; the input reads as it did. -/
def armComposesRotationsUptoRow : OpenClaim := { program := "ytalhkcmlacppjaadoor", sum := "969f35bfeab4cc99c8954d5b8cc2213280b1d7f201faaeeb73ae68fcfc51994c", func := "ambidexter/ambidexterlaw07.ArmComposesRotations", spec := "armComposesRotations", unfollowed := true, recurses := true, named := ["ambidexter/rotation.quadrant"], apart := false, laid := [("ambidexter/rotation.quadrant", laid_ambidexter_rotation_quadrant)], narrowed := true }
def ArmComposesRotationsUptoSaid : Prop := armComposesRotationsUptoRow.holds Tryd.pinned (OpenSpec.upto armComposesRotationsSpec)

/-- 'ambidexterlaw07.ArmStepsAreReversible', WHERE WHAT IT READS IS OF BULK AT MOST 1048576: true; the input reads as it did. -/
def armStepsAreReversibleUptoRow : OpenClaim := { program := "ytalhkcmlacppjaadoor", sum := "969f35bfeab4cc99c8954d5b8cc2213280b1d7f201faaeeb73ae68fcfc51994c", func := "ambidexter/ambidexterlaw07.ArmStepsAreReversible", spec := "armStepsAreReversible", unfollowed := true, recurses := true, named := ["ambidexter/rotation.quadrant"], apart := false, laid := [("ambidexter/rotation.quadrant", laid_ambidexter_rotation_quadrant)], narrowed := true }
def ArmStepsAreReversibleUptoSaid : Prop := armStepsAreReversibleUptoRow.holds Tryd.pinned (OpenSpec.upto armStepsAreReversibleSpec)

/-- 'ambidexterlaw07.ArmReachIsBounded', WHERE WHAT IT READS IS OF BULK AT MOST 1048576: true; the input reads as it did. -/
def armReachIsBoundedUptoRow : OpenClaim := { program := "ytalhkcmlacppjaadoor", sum := "969f35bfeab4cc99c8954d5b8cc2213280b1d7f201faaeeb73ae68fcfc51994c", func := "ambidexter/ambidexterlaw07.ArmReachIsBounded", spec := "armReachIsBounded", unfollowed := true, recurses := true, named := ["ambidexter/rotation.quadrant"], apart := false, laid := [("ambidexter/rotation.quadrant", laid_ambidexter_rotation_quadrant)], narrowed := true }
def ArmReachIsBoundedUptoSaid : Prop := armReachIsBoundedUptoRow.holds Tryd.pinned (OpenSpec.upto armReachIsBoundedSpec)

/-- 'ambidextertop.TopQuarterTurn', WHERE WHAT IT READS IS OF BULK AT MOST 1048576: true; the input reads as it did. -/
def topQuarterTurnUptoRow : OpenClaim := { program := "ytalhkcmlacppjaadoor", sum := "969f35bfeab4cc99c8954d5b8cc2213280b1d7f201faaeeb73ae68fcfc51994c", func := "ambidexter/ambidextertop.TopQuarterTurn", spec := "topQuarterTurn", unfollowed := true, recurses := true, named := ["ambidexter/rotation.quadrant"], apart := false, laid := [("ambidexter/rotation.quadrant", laid_ambidexter_rotation_quadrant)], narrowed := true }
def TopQuarterTurnUptoSaid : Prop := topQuarterTurnUptoRow.holds Tryd.pinned (OpenSpec.upto topQuarterTurnSpec)

end Rows
end Go.Proofs.YtalhkcmlacppjaaDoor
