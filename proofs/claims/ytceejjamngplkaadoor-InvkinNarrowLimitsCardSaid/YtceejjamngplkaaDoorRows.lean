/-
  NARROWER THAN 'FOR EVERY INPUT', by the rows' own cells (each row's printed sentence says how): InvkinMatchesReference: laid · InvkinRoundTrip: laid · InvkinAtMostTwo: laid · InvkinTranslated: laid · InvkinRotated: laid · InvkinNarrowLimits: laid · InvkinNearest: laid.
  DERIVED. THE GIVEN ROWS OF THIS SEAT. 7 by the template 'for every input the law returns true; each argument reads behind the call as it read before'; 0 by the template 'total and deterministic' (their statements: YtceejjamngplkaaDoorTotals.lean).
  GIVEN WITH THE SEED: the statements are not yours to turn. If you find one false, say at which input.
  Laid BY PROGRAM, IN A SANDBOX (cutbox-rows.mjs): the forced cells as the released guide's own fill.sh prints them over the translation c3bbfdec7c906a06… (all of the seat's roots in one cut). By AI agents, Wed Nov 11 2026. No macro, syntax, notation, axiom, sorry.
-/
import Derived.Test.YtceejjamngplkaaDoorChecked
import GoSem.Claim
import GoSem.ClaimJoined
import GoSem.ClaimMapViews
import Derived.JoinedTies
import Derived.KernelRfl
namespace Go.Proofs.YtceejjamngplkaaDoor
/- THE CELL 'sum', in the pinned program and in every row, IS THE sha256 OF THE DUMP (.gsa) THAT YtceejjamngplkaaDoorProg.lean LOADS. Nothing in Lean hashes anything: it is a label: what it is worth is what the hold of that sum in a sandbox is worth. -/
noncomputable def Tryd.pinned : Pinned := { name := "ytceejjamngplkaadoor", sum := "c3bbfdec7c906a064977fe0af620792e30b3deb0ab698f59ae3f415e6fd74fbd", checked := Tryd.checked }
namespace Rows
def none {H : Type} : Left H := { results := [], args := [] }

/- WHAT THE LISTED PACKAGE-LEVEL VARIABLES READ AS WHEN THE CALL BEGINS. Each datum BY PROGRAM (the guide's laid-datum.mjs) off the statement by which the dump's own 'gosem.cut.vars' lays the variable. In a bare row this is a premise. The card (YtceejjamngplkaaDoorCards.lean) ties it to the program's text. -/
def laid_ambidexter_rotation_quadrant {H : Type} : DataW H := .agg [.agg [.lit (.int .i64 65), .lit (.int .i64 0)], .agg [.lit (.int .i64 63), .lit (.int .i64 16)], .agg [.lit (.int .i64 60), .lit (.int .i64 25)], .agg [.lit (.int .i64 56), .lit (.int .i64 33)], .agg [.lit (.int .i64 52), .lit (.int .i64 39)], .agg [.lit (.int .i64 39), .lit (.int .i64 52)], .agg [.lit (.int .i64 33), .lit (.int .i64 56)], .agg [.lit (.int .i64 25), .lit (.int .i64 60)], .agg [.lit (.int .i64 16), .lit (.int .i64 63)]]

/-- 'ambidexterlaw08.InvkinMatchesReference': WHATEVER THE INPUT: true; the input reads as it did. -/
def invkinMatchesReferenceSpec : ChangeSpec := { name := "invkinMatchesReference", fn := fun _ => fun
  | [d1, d2, d3, d4, d5, d6] => { results := [.lit (.bool true)], args := [d1, d2, d3, d4, d5, d6] }
  | _ => none }
def invkinMatchesReferenceRow : OpenClaim := { program := "ytceejjamngplkaadoor", sum := "c3bbfdec7c906a064977fe0af620792e30b3deb0ab698f59ae3f415e6fd74fbd", func := "ambidexter/ambidexterlaw08.InvkinMatchesReference", spec := "invkinMatchesReference", unfollowed := true, recurses := true, named := ["ambidexter/rotation.quadrant"], apart := false, laid := [("ambidexter/rotation.quadrant", laid_ambidexter_rotation_quadrant)] }
def InvkinMatchesReferenceSaid : Prop := invkinMatchesReferenceRow.holds Tryd.pinned (OpenSpec.ofChange invkinMatchesReferenceSpec)

/-- ITS FALSE NEIGHBOUR: 'it returns false'. Refute it at one input. -/
def invkinMatchesReferenceWrong : ChangeSpec := { name := "invkinMatchesReference", fn := fun _ => fun
  | [d1, d2, d3, d4, d5, d6] => { results := [.lit (.bool false)], args := [d1, d2, d3, d4, d5, d6] }
  | _ => none }
def InvkinMatchesReferenceWrongFalsely : Prop := invkinMatchesReferenceRow.holds Tryd.pinned (OpenSpec.ofChange invkinMatchesReferenceWrong)

/-- 'ambidexterlaw08.InvkinRoundTrip': WHATEVER THE INPUT: true; the input reads as it did. -/
def invkinRoundTripSpec : ChangeSpec := { name := "invkinRoundTrip", fn := fun _ => fun
  | [d1, d2] => { results := [.lit (.bool true)], args := [d1, d2] }
  | _ => none }
def invkinRoundTripRow : OpenClaim := { program := "ytceejjamngplkaadoor", sum := "c3bbfdec7c906a064977fe0af620792e30b3deb0ab698f59ae3f415e6fd74fbd", func := "ambidexter/ambidexterlaw08.InvkinRoundTrip", spec := "invkinRoundTrip", unfollowed := true, recurses := true, named := ["ambidexter/rotation.quadrant"], apart := false, laid := [("ambidexter/rotation.quadrant", laid_ambidexter_rotation_quadrant)] }
def InvkinRoundTripSaid : Prop := invkinRoundTripRow.holds Tryd.pinned (OpenSpec.ofChange invkinRoundTripSpec)

/-- ITS FALSE NEIGHBOUR: 'it returns false'. Refute it at one input. -/
def invkinRoundTripWrong : ChangeSpec := { name := "invkinRoundTrip", fn := fun _ => fun
  | [d1, d2] => { results := [.lit (.bool false)], args := [d1, d2] }
  | _ => none }
def InvkinRoundTripWrongFalsely : Prop := invkinRoundTripRow.holds Tryd.pinned (OpenSpec.ofChange invkinRoundTripWrong)

/-- 'ambidexterlaw08.InvkinAtMostTwo': WHATEVER THE INPUT: true; the input reads as it did. -/
def invkinAtMostTwoSpec : ChangeSpec := { name := "invkinAtMostTwo", fn := fun _ => fun
  | [d1, d2, d3, d4, d5] => { results := [.lit (.bool true)], args := [d1, d2, d3, d4, d5] }
  | _ => none }
def invkinAtMostTwoRow : OpenClaim := { program := "ytceejjamngplkaadoor", sum := "c3bbfdec7c906a064977fe0af620792e30b3deb0ab698f59ae3f415e6fd74fbd", func := "ambidexter/ambidexterlaw08.InvkinAtMostTwo", spec := "invkinAtMostTwo", unfollowed := true, recurses := true, named := ["ambidexter/rotation.quadrant"], apart := false, laid := [("ambidexter/rotation.quadrant", laid_ambidexter_rotation_quadrant)] }
def InvkinAtMostTwoSaid : Prop := invkinAtMostTwoRow.holds Tryd.pinned (OpenSpec.ofChange invkinAtMostTwoSpec)

/-- ITS FALSE NEIGHBOUR: 'it returns false'. Refute it at one input. -/
def invkinAtMostTwoWrong : ChangeSpec := { name := "invkinAtMostTwo", fn := fun _ => fun
  | [d1, d2, d3, d4, d5] => { results := [.lit (.bool false)], args := [d1, d2, d3, d4, d5] }
  | _ => none }
def InvkinAtMostTwoWrongFalsely : Prop := invkinAtMostTwoRow.holds Tryd.pinned (OpenSpec.ofChange invkinAtMostTwoWrong)

/-- 'ambidexterlaw08.InvkinTranslated': WHATEVER THE INPUT: true; the input reads as it did. -/
def invkinTranslatedSpec : ChangeSpec := { name := "invkinTranslated", fn := fun _ => fun
  | [d1, d2, d3] => { results := [.lit (.bool true)], args := [d1, d2, d3] }
  | _ => none }
def invkinTranslatedRow : OpenClaim := { program := "ytceejjamngplkaadoor", sum := "c3bbfdec7c906a064977fe0af620792e30b3deb0ab698f59ae3f415e6fd74fbd", func := "ambidexter/ambidexterlaw08.InvkinTranslated", spec := "invkinTranslated", unfollowed := true, recurses := true, named := ["ambidexter/rotation.quadrant"], apart := false, laid := [("ambidexter/rotation.quadrant", laid_ambidexter_rotation_quadrant)] }
def InvkinTranslatedSaid : Prop := invkinTranslatedRow.holds Tryd.pinned (OpenSpec.ofChange invkinTranslatedSpec)

/-- ITS FALSE NEIGHBOUR: 'it returns false'. Refute it at one input. -/
def invkinTranslatedWrong : ChangeSpec := { name := "invkinTranslated", fn := fun _ => fun
  | [d1, d2, d3] => { results := [.lit (.bool false)], args := [d1, d2, d3] }
  | _ => none }
def InvkinTranslatedWrongFalsely : Prop := invkinTranslatedRow.holds Tryd.pinned (OpenSpec.ofChange invkinTranslatedWrong)

/-- 'ambidexterlaw08.InvkinRotated': WHATEVER THE INPUT: true; the input reads as it did. -/
def invkinRotatedSpec : ChangeSpec := { name := "invkinRotated", fn := fun _ => fun
  | [d1, d2] => { results := [.lit (.bool true)], args := [d1, d2] }
  | _ => none }
def invkinRotatedRow : OpenClaim := { program := "ytceejjamngplkaadoor", sum := "c3bbfdec7c906a064977fe0af620792e30b3deb0ab698f59ae3f415e6fd74fbd", func := "ambidexter/ambidexterlaw08.InvkinRotated", spec := "invkinRotated", unfollowed := true, recurses := true, named := ["ambidexter/rotation.quadrant"], apart := false, laid := [("ambidexter/rotation.quadrant", laid_ambidexter_rotation_quadrant)] }
def InvkinRotatedSaid : Prop := invkinRotatedRow.holds Tryd.pinned (OpenSpec.ofChange invkinRotatedSpec)

/-- ITS FALSE NEIGHBOUR: 'it returns false'. Refute it at one input. -/
def invkinRotatedWrong : ChangeSpec := { name := "invkinRotated", fn := fun _ => fun
  | [d1, d2] => { results := [.lit (.bool false)], args := [d1, d2] }
  | _ => none }
def InvkinRotatedWrongFalsely : Prop := invkinRotatedRow.holds Tryd.pinned (OpenSpec.ofChange invkinRotatedWrong)

/-- 'ambidexterlaw08.InvkinNarrowLimits': WHATEVER THE INPUT: true; the input reads as it did. -/
def invkinNarrowLimitsSpec : ChangeSpec := { name := "invkinNarrowLimits", fn := fun _ => fun
  | [d1, d2, d3, d4] => { results := [.lit (.bool true)], args := [d1, d2, d3, d4] }
  | _ => none }
def invkinNarrowLimitsRow : OpenClaim := { program := "ytceejjamngplkaadoor", sum := "c3bbfdec7c906a064977fe0af620792e30b3deb0ab698f59ae3f415e6fd74fbd", func := "ambidexter/ambidexterlaw08.InvkinNarrowLimits", spec := "invkinNarrowLimits", unfollowed := true, recurses := true, named := ["ambidexter/rotation.quadrant"], apart := false, laid := [("ambidexter/rotation.quadrant", laid_ambidexter_rotation_quadrant)] }
def InvkinNarrowLimitsSaid : Prop := invkinNarrowLimitsRow.holds Tryd.pinned (OpenSpec.ofChange invkinNarrowLimitsSpec)

/-- ITS FALSE NEIGHBOUR: 'it returns false'. Refute it at one input. -/
def invkinNarrowLimitsWrong : ChangeSpec := { name := "invkinNarrowLimits", fn := fun _ => fun
  | [d1, d2, d3, d4] => { results := [.lit (.bool false)], args := [d1, d2, d3, d4] }
  | _ => none }
def InvkinNarrowLimitsWrongFalsely : Prop := invkinNarrowLimitsRow.holds Tryd.pinned (OpenSpec.ofChange invkinNarrowLimitsWrong)

/-- 'ambidexterlaw08.InvkinNearest': WHATEVER THE INPUT: true; the input reads as it did. -/
def invkinNearestSpec : ChangeSpec := { name := "invkinNearest", fn := fun _ => fun
  | [d1, d2, d3, d4] => { results := [.lit (.bool true)], args := [d1, d2, d3, d4] }
  | _ => none }
def invkinNearestRow : OpenClaim := { program := "ytceejjamngplkaadoor", sum := "c3bbfdec7c906a064977fe0af620792e30b3deb0ab698f59ae3f415e6fd74fbd", func := "ambidexter/ambidexterlaw08.InvkinNearest", spec := "invkinNearest", unfollowed := true, recurses := true, named := ["ambidexter/rotation.quadrant"], apart := false, laid := [("ambidexter/rotation.quadrant", laid_ambidexter_rotation_quadrant)] }
def InvkinNearestSaid : Prop := invkinNearestRow.holds Tryd.pinned (OpenSpec.ofChange invkinNearestSpec)

/-- ITS FALSE NEIGHBOUR: 'it returns false'. Refute it at one input. -/
def invkinNearestWrong : ChangeSpec := { name := "invkinNearest", fn := fun _ => fun
  | [d1, d2, d3, d4] => { results := [.lit (.bool false)], args := [d1, d2, d3, d4] }
  | _ => none }
def InvkinNearestWrongFalsely : Prop := invkinNearestRow.holds Tryd.pinned (OpenSpec.ofChange invkinNearestWrong)

/- THE SECOND FORM. 'bulk': how many values and letters a reading holds, each counted each time it is reached (what is shared counts as often as it is met; a slice's spare places count too). A statement '..UptoSaid' is the law's where the arguments, and the package variables that the reading takes, are together of bulk at most 1048576: NARROWER than '..Said'. Prove '..Said' where nothing that the law and all that it calls make is longer than what came in: it says more and counts as full. Else prove '..UptoSaid'. A law counts once. -/
mutual
def uptoBulk {H : Type} : DataW H → Nat
  | .lit (.string bytes) => bytes.length + 1
  | .lit _ => 1
  | .nil => 1
  | .ptr d => uptoBulk d + 1
  | .slice elems spare => uptoBulkAll elems + uptoBulkAll spare + 1
  | .agg parts => uptoBulkAll parts + 1
  | .iface _ d => uptoBulk d + 1
  | .map entries => uptoBulkEntries entries + 1
  | .held _ => 1
def uptoBulkAll {H : Type} : List (DataW H) → Nat
  | [] => 0
  | d :: r => uptoBulk d + uptoBulkAll r
def uptoBulkEntries {H : Type} : List (Lit × DataW H) → Nat
  | [] => 0
  | x :: r => uptoBulkEntry x + uptoBulkEntries r
def uptoBulkEntry {H : Type} : Lit × DataW H → Nat
  | (.string bytes, d) => bytes.length + uptoBulk d + 1
  | (_, d) => uptoBulk d + 1
 end
def uptoSmall : (H : Type) → List (DataW H) → Bool := fun _ ds => decide (uptoBulkAll ds ≤ 1048576)
def OpenSpec.upto (s : _root_.Go.ChangeSpec) : _root_.Go.OpenSpec := { _root_.Go.OpenSpec.ofChange s with cond := some uptoSmall }

/-- 'ambidexterlaw08.InvkinMatchesReference', WHERE WHAT IT READS IS OF BULK AT MOST 1048576: true; the input reads as it did. -/
def invkinMatchesReferenceUptoRow : OpenClaim := { program := "ytceejjamngplkaadoor", sum := "c3bbfdec7c906a064977fe0af620792e30b3deb0ab698f59ae3f415e6fd74fbd", func := "ambidexter/ambidexterlaw08.InvkinMatchesReference", spec := "invkinMatchesReference", unfollowed := true, recurses := true, named := ["ambidexter/rotation.quadrant"], apart := false, laid := [("ambidexter/rotation.quadrant", laid_ambidexter_rotation_quadrant)], narrowed := true }
def InvkinMatchesReferenceUptoSaid : Prop := invkinMatchesReferenceUptoRow.holds Tryd.pinned (OpenSpec.upto invkinMatchesReferenceSpec)

/-- 'ambidexterlaw08.InvkinRoundTrip', WHERE WHAT IT READS IS OF BULK AT MOST 1048576: true; the input reads as it did. -/
def invkinRoundTripUptoRow : OpenClaim := { program := "ytceejjamngplkaadoor", sum := "c3bbfdec7c906a064977fe0af620792e30b3deb0ab698f59ae3f415e6fd74fbd", func := "ambidexter/ambidexterlaw08.InvkinRoundTrip", spec := "invkinRoundTrip", unfollowed := true, recurses := true, named := ["ambidexter/rotation.quadrant"], apart := false, laid := [("ambidexter/rotation.quadrant", laid_ambidexter_rotation_quadrant)], narrowed := true }
def InvkinRoundTripUptoSaid : Prop := invkinRoundTripUptoRow.holds Tryd.pinned (OpenSpec.upto invkinRoundTripSpec)

/-- 'ambidexterlaw08.InvkinAtMostTwo', WHERE WHAT IT READS IS OF BULK AT MOST 1048576: true; the input reads as it did. -/
def invkinAtMostTwoUptoRow : OpenClaim := { program := "ytceejjamngplkaadoor", sum := "c3bbfdec7c906a064977fe0af620792e30b3deb0ab698f59ae3f415e6fd74fbd", func := "ambidexter/ambidexterlaw08.InvkinAtMostTwo", spec := "invkinAtMostTwo", unfollowed := true, recurses := true, named := ["ambidexter/rotation.quadrant"], apart := false, laid := [("ambidexter/rotation.quadrant", laid_ambidexter_rotation_quadrant)], narrowed := true }
def InvkinAtMostTwoUptoSaid : Prop := invkinAtMostTwoUptoRow.holds Tryd.pinned (OpenSpec.upto invkinAtMostTwoSpec)

/-- 'ambidexterlaw08.InvkinTranslated', WHERE WHAT IT READS IS OF BULK AT MOST 1048576: true; the input reads as it did. -/
def invkinTranslatedUptoRow : OpenClaim := { program := "ytceejjamngplkaadoor", sum := "c3bbfdec7c906a064977fe0af620792e30b3deb0ab698f59ae3f415e6fd74fbd", func := "ambidexter/ambidexterlaw08.InvkinTranslated", spec := "invkinTranslated", unfollowed := true, recurses := true, named := ["ambidexter/rotation.quadrant"], apart := false, laid := [("ambidexter/rotation.quadrant", laid_ambidexter_rotation_quadrant)], narrowed := true }
def InvkinTranslatedUptoSaid : Prop := invkinTranslatedUptoRow.holds Tryd.pinned (OpenSpec.upto invkinTranslatedSpec)

/-- 'ambidexterlaw08.InvkinRotated', WHERE WHAT IT READS IS OF BULK AT MOST 1048576: true; the input reads as it did. -/
def invkinRotatedUptoRow : OpenClaim := { program := "ytceejjamngplkaadoor", sum := "c3bbfdec7c906a064977fe0af620792e30b3deb0ab698f59ae3f415e6fd74fbd", func := "ambidexter/ambidexterlaw08.InvkinRotated", spec := "invkinRotated", unfollowed := true, recurses := true, named := ["ambidexter/rotation.quadrant"], apart := false, laid := [("ambidexter/rotation.quadrant", laid_ambidexter_rotation_quadrant)], narrowed := true }
def InvkinRotatedUptoSaid : Prop := invkinRotatedUptoRow.holds Tryd.pinned (OpenSpec.upto invkinRotatedSpec)

/-- 'ambidexterlaw08.InvkinNarrowLimits', WHERE WHAT IT READS IS OF BULK AT MOST 1048576: true; the input reads as it did. -/
def invkinNarrowLimitsUptoRow : OpenClaim := { program := "ytceejjamngplkaadoor", sum := "c3bbfdec7c906a064977fe0af620792e30b3deb0ab698f59ae3f415e6fd74fbd", func := "ambidexter/ambidexterlaw08.InvkinNarrowLimits", spec := "invkinNarrowLimits", unfollowed := true, recurses := true, named := ["ambidexter/rotation.quadrant"], apart := false, laid := [("ambidexter/rotation.quadrant", laid_ambidexter_rotation_quadrant)], narrowed := true }
def InvkinNarrowLimitsUptoSaid : Prop := invkinNarrowLimitsUptoRow.holds Tryd.pinned (OpenSpec.upto invkinNarrowLimitsSpec)

/-- 'ambidexterlaw08.InvkinNearest', WHERE WHAT IT READS IS OF BULK AT MOST 1048576: true; the input reads as it did. -/
def invkinNearestUptoRow : OpenClaim := { program := "ytceejjamngplkaadoor", sum := "c3bbfdec7c906a064977fe0af620792e30b3deb0ab698f59ae3f415e6fd74fbd", func := "ambidexter/ambidexterlaw08.InvkinNearest", spec := "invkinNearest", unfollowed := true, recurses := true, named := ["ambidexter/rotation.quadrant"], apart := false, laid := [("ambidexter/rotation.quadrant", laid_ambidexter_rotation_quadrant)], narrowed := true }
def InvkinNearestUptoSaid : Prop := invkinNearestUptoRow.holds Tryd.pinned (OpenSpec.upto invkinNearestSpec)

end Rows
end Go.Proofs.YtceejjamngplkaaDoor
