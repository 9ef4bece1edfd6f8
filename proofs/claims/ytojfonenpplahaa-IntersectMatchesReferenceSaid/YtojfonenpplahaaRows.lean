/-
  No cell of these rows narrows 'for every input' (looked for: loops, veiled, ifaces, maps, wideKeys, modest, calm, conditions, laid).
  DERIVED. THE GIVEN ROWS OF THIS SEAT. 10 by the template 'for every input the law returns true; each argument reads behind the call as it read before'; 0 by the template 'total and deterministic' (their statements: YtojfonenpplahaaTotals.lean).
  GIVEN WITH THE SEED: the statements are not yours to turn. If you find one false, say at which input.
  Laid BY PROGRAM, IN A SANDBOX (cutbox-rows.mjs): the forced cells as the released guide's own fill.sh prints them over the translation 3ed0e92bb25bc252… (all of the seat's roots in one cut). By AI agents, Wed Nov 11 2026. No macro, syntax, notation, axiom, sorry.
-/
import Derived.Test.YtojfonenpplahaaChecked
import GoSem.Claim
import GoSem.ClaimJoined
import GoSem.ClaimMapViews
import Derived.JoinedTies
import Derived.KernelRfl
namespace Go.Proofs.Ytojfonenpplahaa
/- THE CELL 'sum', in the pinned program and in every row, IS THE sha256 OF THE DUMP (.gsa) THAT YtojfonenpplahaaProg.lean LOADS. Nothing in Lean hashes anything: it is a label: what it is worth is what the hold of that sum in a sandbox is worth. -/
noncomputable def Try.pinned : Pinned := { name := "ytojfonenpplahaa", sum := "3ed0e92bb25bc25296a029ab56440cb38d763230b5ade00108e84424608e3f49", checked := Try.checked }
namespace Rows
def none {H : Type} : Left H := { results := [], args := [] }

/-- 'ambidexterlaw04.HullMatchesReference': WHATEVER THE INPUT: true; the input reads as it did. -/
def hullMatchesReferenceSpec : ChangeSpec := { name := "hullMatchesReference", fn := fun _ => fun
  | [d1, d2] => { results := [.lit (.bool true)], args := [d1, d2] }
  | _ => none }
def hullMatchesReferenceRow : OpenClaim := { program := "ytojfonenpplahaa", sum := "3ed0e92bb25bc25296a029ab56440cb38d763230b5ade00108e84424608e3f49", func := "ambidexter/ambidexterlaw04.HullMatchesReference", spec := "hullMatchesReference", unfollowed := true, recurses := true, apart := false }
def HullMatchesReferenceSaid : Prop := hullMatchesReferenceRow.holds Try.pinned (OpenSpec.ofChange hullMatchesReferenceSpec)

/-- ITS FALSE NEIGHBOUR: 'it returns false'. Refute it at one input. -/
def hullMatchesReferenceWrong : ChangeSpec := { name := "hullMatchesReference", fn := fun _ => fun
  | [d1, d2] => { results := [.lit (.bool false)], args := [d1, d2] }
  | _ => none }
def HullMatchesReferenceWrongFalsely : Prop := hullMatchesReferenceRow.holds Try.pinned (OpenSpec.ofChange hullMatchesReferenceWrong)

/-- 'ambidexterlaw05.IntersectMatchesReference': WHATEVER THE INPUT: true; the input reads as it did. -/
def intersectMatchesReferenceSpec : ChangeSpec := { name := "intersectMatchesReference", fn := fun _ => fun
  | [d1, d2, d3, d4] => { results := [.lit (.bool true)], args := [d1, d2, d3, d4] }
  | _ => none }
def intersectMatchesReferenceRow : OpenClaim := { program := "ytojfonenpplahaa", sum := "3ed0e92bb25bc25296a029ab56440cb38d763230b5ade00108e84424608e3f49", func := "ambidexter/ambidexterlaw05.IntersectMatchesReference", spec := "intersectMatchesReference", unfollowed := true, recurses := true, apart := false }
def IntersectMatchesReferenceSaid : Prop := intersectMatchesReferenceRow.holds Try.pinned (OpenSpec.ofChange intersectMatchesReferenceSpec)

/-- ITS FALSE NEIGHBOUR: 'it returns false'. Refute it at one input. -/
def intersectMatchesReferenceWrong : ChangeSpec := { name := "intersectMatchesReference", fn := fun _ => fun
  | [d1, d2, d3, d4] => { results := [.lit (.bool false)], args := [d1, d2, d3, d4] }
  | _ => none }
def IntersectMatchesReferenceWrongFalsely : Prop := intersectMatchesReferenceRow.holds Try.pinned (OpenSpec.ofChange intersectMatchesReferenceWrong)

/-- 'ambidexterlaw05.IntersectOrSeparated': WHATEVER THE INPUT: true; the input reads as it did. -/
def intersectOrSeparatedSpec : ChangeSpec := { name := "intersectOrSeparated", fn := fun _ => fun
  | [d1, d2] => { results := [.lit (.bool true)], args := [d1, d2] }
  | _ => none }
def intersectOrSeparatedRow : OpenClaim := { program := "ytojfonenpplahaa", sum := "3ed0e92bb25bc25296a029ab56440cb38d763230b5ade00108e84424608e3f49", func := "ambidexter/ambidexterlaw05.IntersectOrSeparated", spec := "intersectOrSeparated", unfollowed := true, recurses := true, apart := false }
def IntersectOrSeparatedSaid : Prop := intersectOrSeparatedRow.holds Try.pinned (OpenSpec.ofChange intersectOrSeparatedSpec)

/-- ITS FALSE NEIGHBOUR: 'it returns false'. Refute it at one input. -/
def intersectOrSeparatedWrong : ChangeSpec := { name := "intersectOrSeparated", fn := fun _ => fun
  | [d1, d2] => { results := [.lit (.bool false)], args := [d1, d2] }
  | _ => none }
def IntersectOrSeparatedWrongFalsely : Prop := intersectOrSeparatedRow.holds Try.pinned (OpenSpec.ofChange intersectOrSeparatedWrong)

/-- 'ambidexterlaw05.IntersectSymmetric': WHATEVER THE INPUT: true; the input reads as it did. -/
def intersectSymmetricSpec : ChangeSpec := { name := "intersectSymmetric", fn := fun _ => fun
  | [d1, d2, d3, d4] => { results := [.lit (.bool true)], args := [d1, d2, d3, d4] }
  | _ => none }
def intersectSymmetricRow : OpenClaim := { program := "ytojfonenpplahaa", sum := "3ed0e92bb25bc25296a029ab56440cb38d763230b5ade00108e84424608e3f49", func := "ambidexter/ambidexterlaw05.IntersectSymmetric", spec := "intersectSymmetric", unfollowed := true, recurses := true, apart := false }
def IntersectSymmetricSaid : Prop := intersectSymmetricRow.holds Try.pinned (OpenSpec.ofChange intersectSymmetricSpec)

/-- ITS FALSE NEIGHBOUR: 'it returns false'. Refute it at one input. -/
def intersectSymmetricWrong : ChangeSpec := { name := "intersectSymmetric", fn := fun _ => fun
  | [d1, d2, d3, d4] => { results := [.lit (.bool false)], args := [d1, d2, d3, d4] }
  | _ => none }
def IntersectSymmetricWrongFalsely : Prop := intersectSymmetricRow.holds Try.pinned (OpenSpec.ofChange intersectSymmetricWrong)

/-- 'ambidexterlaw05.IntersectSeparatorSound': WHATEVER THE INPUT: true; the input reads as it did. -/
def intersectSeparatorSoundSpec : ChangeSpec := { name := "intersectSeparatorSound", fn := fun _ => fun
  | [d1, d2, d3, d4] => { results := [.lit (.bool true)], args := [d1, d2, d3, d4] }
  | _ => none }
def intersectSeparatorSoundRow : OpenClaim := { program := "ytojfonenpplahaa", sum := "3ed0e92bb25bc25296a029ab56440cb38d763230b5ade00108e84424608e3f49", func := "ambidexter/ambidexterlaw05.IntersectSeparatorSound", spec := "intersectSeparatorSound", unfollowed := true, recurses := true, apart := false }
def IntersectSeparatorSoundSaid : Prop := intersectSeparatorSoundRow.holds Try.pinned (OpenSpec.ofChange intersectSeparatorSoundSpec)

/-- ITS FALSE NEIGHBOUR: 'it returns false'. Refute it at one input. -/
def intersectSeparatorSoundWrong : ChangeSpec := { name := "intersectSeparatorSound", fn := fun _ => fun
  | [d1, d2, d3, d4] => { results := [.lit (.bool false)], args := [d1, d2, d3, d4] }
  | _ => none }
def IntersectSeparatorSoundWrongFalsely : Prop := intersectSeparatorSoundRow.holds Try.pinned (OpenSpec.ofChange intersectSeparatorSoundWrong)

/-- 'ambidexterlaw05.IntersectCriterion': WHATEVER THE INPUT: true; the input reads as it did. -/
def intersectCriterionSpec : ChangeSpec := { name := "intersectCriterion", fn := fun _ => fun
  | [d1, d2] => { results := [.lit (.bool true)], args := [d1, d2] }
  | _ => none }
def intersectCriterionRow : OpenClaim := { program := "ytojfonenpplahaa", sum := "3ed0e92bb25bc25296a029ab56440cb38d763230b5ade00108e84424608e3f49", func := "ambidexter/ambidexterlaw05.IntersectCriterion", spec := "intersectCriterion", unfollowed := true, recurses := true, apart := false }
def IntersectCriterionSaid : Prop := intersectCriterionRow.holds Try.pinned (OpenSpec.ofChange intersectCriterionSpec)

/-- ITS FALSE NEIGHBOUR: 'it returns false'. Refute it at one input. -/
def intersectCriterionWrong : ChangeSpec := { name := "intersectCriterion", fn := fun _ => fun
  | [d1, d2] => { results := [.lit (.bool false)], args := [d1, d2] }
  | _ => none }
def IntersectCriterionWrongFalsely : Prop := intersectCriterionRow.holds Try.pinned (OpenSpec.ofChange intersectCriterionWrong)

/-- 'ambidexterlaw05.IntersectTranslationInvariant': WHATEVER THE INPUT: true; the input reads as it did. -/
def intersectTranslationInvariantSpec : ChangeSpec := { name := "intersectTranslationInvariant", fn := fun _ => fun
  | [d1, d2, d3, d4] => { results := [.lit (.bool true)], args := [d1, d2, d3, d4] }
  | _ => none }
def intersectTranslationInvariantRow : OpenClaim := { program := "ytojfonenpplahaa", sum := "3ed0e92bb25bc25296a029ab56440cb38d763230b5ade00108e84424608e3f49", func := "ambidexter/ambidexterlaw05.IntersectTranslationInvariant", spec := "intersectTranslationInvariant", unfollowed := true, recurses := true, apart := false }
def IntersectTranslationInvariantSaid : Prop := intersectTranslationInvariantRow.holds Try.pinned (OpenSpec.ofChange intersectTranslationInvariantSpec)

/-- ITS FALSE NEIGHBOUR: 'it returns false'. Refute it at one input. -/
def intersectTranslationInvariantWrong : ChangeSpec := { name := "intersectTranslationInvariant", fn := fun _ => fun
  | [d1, d2, d3, d4] => { results := [.lit (.bool false)], args := [d1, d2, d3, d4] }
  | _ => none }
def IntersectTranslationInvariantWrongFalsely : Prop := intersectTranslationInvariantRow.holds Try.pinned (OpenSpec.ofChange intersectTranslationInvariantWrong)

/-- 'ambidextertop.TopDecomposition': WHATEVER THE INPUT: true; the input reads as it did. -/
def topDecompositionSpec : ChangeSpec := { name := "topDecomposition", fn := fun _ => fun
  | [d1, d2] => { results := [.lit (.bool true)], args := [d1, d2] }
  | _ => none }
def topDecompositionRow : OpenClaim := { program := "ytojfonenpplahaa", sum := "3ed0e92bb25bc25296a029ab56440cb38d763230b5ade00108e84424608e3f49", func := "ambidexter/ambidextertop.TopDecomposition", spec := "topDecomposition", unfollowed := true, recurses := true, apart := false }
def TopDecompositionSaid : Prop := topDecompositionRow.holds Try.pinned (OpenSpec.ofChange topDecompositionSpec)

/-- ITS FALSE NEIGHBOUR: 'it returns false'. Refute it at one input. -/
def topDecompositionWrong : ChangeSpec := { name := "topDecomposition", fn := fun _ => fun
  | [d1, d2] => { results := [.lit (.bool false)], args := [d1, d2] }
  | _ => none }
def TopDecompositionWrongFalsely : Prop := topDecompositionRow.holds Try.pinned (OpenSpec.ofChange topDecompositionWrong)

/-- 'ambidextertop.TopHulls': WHATEVER THE INPUT: true; the input reads as it did. -/
def topHullsSpec : ChangeSpec := { name := "topHulls", fn := fun _ => fun
  | [d1, d2] => { results := [.lit (.bool true)], args := [d1, d2] }
  | _ => none }
def topHullsRow : OpenClaim := { program := "ytojfonenpplahaa", sum := "3ed0e92bb25bc25296a029ab56440cb38d763230b5ade00108e84424608e3f49", func := "ambidexter/ambidextertop.TopHulls", spec := "topHulls", unfollowed := true, recurses := true, apart := false }
def TopHullsSaid : Prop := topHullsRow.holds Try.pinned (OpenSpec.ofChange topHullsSpec)

/-- ITS FALSE NEIGHBOUR: 'it returns false'. Refute it at one input. -/
def topHullsWrong : ChangeSpec := { name := "topHulls", fn := fun _ => fun
  | [d1, d2] => { results := [.lit (.bool false)], args := [d1, d2] }
  | _ => none }
def TopHullsWrongFalsely : Prop := topHullsRow.holds Try.pinned (OpenSpec.ofChange topHullsWrong)

/-- 'ambidextertop.TopDisjointFeatures': WHATEVER THE INPUT: true; the input reads as it did. -/
def topDisjointFeaturesSpec : ChangeSpec := { name := "topDisjointFeatures", fn := fun _ => fun
  | [d1, d2] => { results := [.lit (.bool true)], args := [d1, d2] }
  | _ => none }
def topDisjointFeaturesRow : OpenClaim := { program := "ytojfonenpplahaa", sum := "3ed0e92bb25bc25296a029ab56440cb38d763230b5ade00108e84424608e3f49", func := "ambidexter/ambidextertop.TopDisjointFeatures", spec := "topDisjointFeatures", unfollowed := true, recurses := true, apart := false }
def TopDisjointFeaturesSaid : Prop := topDisjointFeaturesRow.holds Try.pinned (OpenSpec.ofChange topDisjointFeaturesSpec)

/-- ITS FALSE NEIGHBOUR: 'it returns false'. Refute it at one input. -/
def topDisjointFeaturesWrong : ChangeSpec := { name := "topDisjointFeatures", fn := fun _ => fun
  | [d1, d2] => { results := [.lit (.bool false)], args := [d1, d2] }
  | _ => none }
def TopDisjointFeaturesWrongFalsely : Prop := topDisjointFeaturesRow.holds Try.pinned (OpenSpec.ofChange topDisjointFeaturesWrong)

/- THE SECOND FORM. 'bulk': how many values and letters a reading holds, each counted each time it is reached (what is shared counts as often as it is met; a slice's spare places count too). A statement '..UptoSaid' is the law's where the arguments, and the package variables that the reading takes, are together of bulk at most 1048576: NARROWER than '..Said'. Prove '..Said' where nothing that the law and all that it calls make is longer than what came in: it says more and counts as full. Else prove '..UptoSaid'. A law counts once. -/
mutual
def uptoBulk {H : Type} : DataW H → Nat
  | .lit (.string bytes) => bytes.length + 1
  | .lit _ => 1
  | .nil => 1
  | .ptr d => uptoBulk d + 1
  | .slice elems spare => uptoBulkAll elems + uptoBulkAll spare + 1
  | .agg parts => uptoBulkAll parts + 1
  | .iface _ d => uptoBulk d + 1
  | .map entries => uptoBulkEntries entries + 1
  | .held _ => 1
def uptoBulkAll {H : Type} : List (DataW H) → Nat
  | [] => 0
  | d :: r => uptoBulk d + uptoBulkAll r
def uptoBulkEntries {H : Type} : List (Lit × DataW H) → Nat
  | [] => 0
  | x :: r => uptoBulkEntry x + uptoBulkEntries r
def uptoBulkEntry {H : Type} : Lit × DataW H → Nat
  | (.string bytes, d) => bytes.length + uptoBulk d + 1
  | (_, d) => uptoBulk d + 1
 end
def uptoSmall : (H : Type) → List (DataW H) → Bool := fun _ ds => decide (uptoBulkAll ds ≤ 1048576)
def OpenSpec.upto (s : _root_.Go.ChangeSpec) : _root_.Go.OpenSpec := { _root_.Go.OpenSpec.ofChange s with cond := some uptoSmall }

/-- 'ambidexterlaw04.HullMatchesReference', WHERE WHAT IT READS IS OF BULK AT MOST 1048576: true; the input reads as it did. -/
def hullMatchesReferenceUptoRow : OpenClaim := { program := "ytojfonenpplahaa", sum := "3ed0e92bb25bc25296a029ab56440cb38d763230b5ade00108e84424608e3f49", func := "ambidexter/ambidexterlaw04.HullMatchesReference", spec := "hullMatchesReference", unfollowed := true, recurses := true, apart := false, narrowed := true }
def HullMatchesReferenceUptoSaid : Prop := hullMatchesReferenceUptoRow.holds Try.pinned (OpenSpec.upto hullMatchesReferenceSpec)

/-- 'ambidexterlaw05.IntersectMatchesReference', WHERE WHAT IT READS IS OF BULK AT MOST 1048576: true; the input reads as it did. -/
def intersectMatchesReferenceUptoRow : OpenClaim := { program := "ytojfonenpplahaa", sum := "3ed0e92bb25bc25296a029ab56440cb38d763230b5ade00108e84424608e3f49", func := "ambidexter/ambidexterlaw05.IntersectMatchesReference", spec := "intersectMatchesReference", unfollowed := true, recurses := true, apart := false, narrowed := true }
def IntersectMatchesReferenceUptoSaid : Prop := intersectMatchesReferenceUptoRow.holds Try.pinned (OpenSpec.upto intersectMatchesReferenceSpec)

/-- 'ambidexterlaw05.IntersectOrSeparated', WHERE WHAT IT READS IS OF BULK AT MOST 1048576: true; the input reads as it did. -/
def intersectOrSeparatedUptoRow : OpenClaim := { program := "ytojfonenpplahaa", sum := "3ed0e92bb25bc25296a029ab56440cb38d763230b5ade00108e84424608e3f49", func := "ambidexter/ambidexterlaw05.IntersectOrSeparated", spec := "intersectOrSeparated", unfollowed := true, recurses := true, apart := false, narrowed := true }
def IntersectOrSeparatedUptoSaid : Prop := intersectOrSeparatedUptoRow.holds Try.pinned (OpenSpec.upto intersectOrSeparatedSpec)

/-- 'ambidexterlaw05.IntersectSymmetric', WHERE WHAT IT READS IS OF BULK AT MOST 1048576: true; the input reads as it did. -/
def intersectSymmetricUptoRow : OpenClaim := { program := "ytojfonenpplahaa", sum := "3ed0e92bb25bc25296a029ab56440cb38d763230b5ade00108e84424608e3f49", func := "ambidexter/ambidexterlaw05.IntersectSymmetric", spec := "intersectSymmetric", unfollowed := true, recurses := true, apart := false, narrowed := true }
def IntersectSymmetricUptoSaid : Prop := intersectSymmetricUptoRow.holds Try.pinned (OpenSpec.upto intersectSymmetricSpec)

/-- 'ambidexterlaw05.IntersectSeparatorSound', WHERE WHAT IT READS IS OF BULK AT MOST 1048576: true; the input reads as it did. -/
def intersectSeparatorSoundUptoRow : OpenClaim := { program := "ytojfonenpplahaa", sum := "3ed0e92bb25bc25296a029ab56440cb38d763230b5ade00108e84424608e3f49", func := "ambidexter/ambidexterlaw05.IntersectSeparatorSound", spec := "intersectSeparatorSound", unfollowed := true, recurses := true, apart := false, narrowed := true }
def IntersectSeparatorSoundUptoSaid : Prop := intersectSeparatorSoundUptoRow.holds Try.pinned (OpenSpec.upto intersectSeparatorSoundSpec)

/-- 'ambidexterlaw05.IntersectCriterion', WHERE WHAT IT READS IS OF BULK AT MOST 1048576: true; the input reads as it did. -/
def intersectCriterionUptoRow : OpenClaim := { program := "ytojfonenpplahaa", sum := "3ed0e92bb25bc25296a029ab56440cb38d763230b5ade00108e84424608e3f49", func := "ambidexter/ambidexterlaw05.IntersectCriterion", spec := "intersectCriterion", unfollowed := true, recurses := true, apart := false, narrowed := true }
def IntersectCriterionUptoSaid : Prop := intersectCriterionUptoRow.holds Try.pinned (OpenSpec.upto intersectCriterionSpec)

/-- 'ambidexterlaw05.IntersectTranslationInvariant', WHERE WHAT IT READS IS OF BULK AT MOST 1048576: true; the input reads as it did. -/
def intersectTranslationInvariantUptoRow : OpenClaim := { program := "ytojfonenpplahaa", sum := "3ed0e92bb25bc25296a029ab56440cb38d763230b5ade00108e84424608e3f49", func := "ambidexter/ambidexterlaw05.IntersectTranslationInvariant", spec := "intersectTranslationInvariant", unfollowed := true, recurses := true, apart := false, narrowed := true }
def IntersectTranslationInvariantUptoSaid : Prop := intersectTranslationInvariantUptoRow.holds Try.pinned (OpenSpec.upto intersectTranslationInvariantSpec)

/-- 'ambidextertop.TopDecomposition', WHERE WHAT IT READS IS OF BULK AT MOST 1048576: true; the input reads as it did. -/
def topDecompositionUptoRow : OpenClaim := { program := "ytojfonenpplahaa", sum := "3ed0e92bb25bc25296a029ab56440cb38d763230b5ade00108e84424608e3f49", func := "ambidexter/ambidextertop.TopDecomposition", spec := "topDecomposition", unfollowed := true, recurses := true, apart := false, narrowed := true }
def TopDecompositionUptoSaid : Prop := topDecompositionUptoRow.holds Try.pinned (OpenSpec.upto topDecompositionSpec)

/-- 'ambidextertop.TopHulls', WHERE WHAT IT READS IS OF BULK AT MOST 1048576: true; the input reads as it did. -/
def topHullsUptoRow : OpenClaim := { program := "ytojfonenpplahaa", sum := "3ed0e92bb25bc25296a029ab56440cb38d763230b5ade00108e84424608e3f49", func := "ambidexter/ambidextertop.TopHulls", spec := "topHulls", unfollowed := true, recurses := true, apart := false, narrowed := true }
def TopHullsUptoSaid : Prop := topHullsUptoRow.holds Try.pinned (OpenSpec.upto topHullsSpec)

/-- 'ambidextertop.TopDisjointFeatures', WHERE WHAT IT READS IS OF BULK AT MOST 1048576: true; the input reads as it did. -/
def topDisjointFeaturesUptoRow : OpenClaim := { program := "ytojfonenpplahaa", sum := "3ed0e92bb25bc25296a029ab56440cb38d763230b5ade00108e84424608e3f49", func := "ambidexter/ambidextertop.TopDisjointFeatures", spec := "topDisjointFeatures", unfollowed := true, recurses := true, apart := false, narrowed := true }
def TopDisjointFeaturesUptoSaid : Prop := topDisjointFeaturesUptoRow.holds Try.pinned (OpenSpec.upto topDisjointFeaturesSpec)

end Rows
end Go.Proofs.Ytojfonenpplahaa
