/-
  NARROWER THAN 'FOR EVERY INPUT', by the rows' own cells (each row's printed sentence says how): LexerMatchesReference: laid · LexerOffsets: laid · LexerStable: laid · LexerConcatenation: laid · LexerFirstError: laid · LexerNumbers: laid · LexerBig: laid.
  DERIVED. THE GIVEN ROWS OF THIS SEAT. 7 by the template 'for every input the law returns true; each argument reads behind the call as it read before'; 0 by the template 'total and deterministic' (their statements: YtfimejmmcfdgaaaDoorTotals.lean).
  GIVEN WITH THE SEED: the statements are not yours to turn. If you find one false, say at which input.
  Laid BY PROGRAM, IN A SANDBOX (cutbox-rows.mjs): the forced cells as the released guide's own fill.sh prints them over the translation 2b0796baae419103… (all of the seat's roots in one cut). By AI agents, Wed Nov 11 2026. No macro, syntax, notation, axiom, sorry.
-/
import Derived.Test.YtfimejmmcfdgaaaDoorChecked
import GoSem.Claim
import GoSem.ClaimJoined
import GoSem.ClaimMapViews
import Derived.JoinedTies
import Derived.KernelRfl
namespace Go.Proofs.YtfimejmmcfdgaaaDoor
/- THE CELL 'sum', in the pinned program and in every row, IS THE sha256 OF THE DUMP (.gsa) THAT YtfimejmmcfdgaaaDoorProg.lean LOADS. Nothing in Lean hashes anything: it is a label: what it is worth is what the hold of that sum in a sandbox is worth. -/
noncomputable def Tryd.pinned : Pinned := { name := "ytfimejmmcfdgaaadoor", sum := "2b0796baae4191031a4237e0cb8d500b1abf14a7d1e7e113a0e8b92f3fde1d6c", checked := Tryd.checked }
namespace Rows
def none {H : Type} : Left H := { results := [], args := [] }

/- WHAT THE LISTED PACKAGE-LEVEL VARIABLES READ AS WHEN THE CALL BEGINS. Each datum BY PROGRAM (the guide's laid-datum.mjs) off the statement by which the dump's own 'gosem.cut.vars' lays the variable. In a bare row this is a premise. The card (YtfimejmmcfdgaaaDoorCards.lean) ties it to the program's text. -/
def laid_ambidexter_lexer_classes {H : Type} : DataW H := .agg [.lit (.int .u8 0), .lit (.int .u8 0), .lit (.int .u8 0), .lit (.int .u8 0), .lit (.int .u8 0), .lit (.int .u8 0), .lit (.int .u8 0), .lit (.int .u8 0), .lit (.int .u8 0), .lit (.int .u8 1), .lit (.int .u8 3), .lit (.int .u8 0), .lit (.int .u8 0), .lit (.int .u8 1), .lit (.int .u8 0), .lit (.int .u8 0), .lit (.int .u8 0), .lit (.int .u8 0), .lit (.int .u8 0), .lit (.int .u8 0), .lit (.int .u8 0), .lit (.int .u8 0), .lit (.int .u8 0), .lit (.int .u8 0), .lit (.int .u8 0), .lit (.int .u8 0), .lit (.int .u8 0), .lit (.int .u8 0), .lit (.int .u8 0), .lit (.int .u8 0), .lit (.int .u8 0), .lit (.int .u8 0), .lit (.int .u8 1), .lit (.int .u8 0), .lit (.int .u8 0), .lit (.int .u8 4), .lit (.int .u8 0), .lit (.int .u8 0), .lit (.int .u8 0), .lit (.int .u8 0), .lit (.int .u8 128), .lit (.int .u8 128), .lit (.int .u8 0), .lit (.int .u8 0), .lit (.int .u8 128), .lit (.int .u8 64), .lit (.int .u8 0), .lit (.int .u8 0), .lit (.int .u8 16), .lit (.int .u8 16), .lit (.int .u8 16), .lit (.int .u8 16), .lit (.int .u8 16), .lit (.int .u8 16), .lit (.int .u8 16), .lit (.int .u8 16), .lit (.int .u8 16), .lit (.int .u8 16), .lit (.int .u8 0), .lit (.int .u8 128), .lit (.int .u8 0), .lit (.int .u8 0), .lit (.int .u8 0), .lit (.int .u8 0), .lit (.int .u8 0), .lit (.int .u8 8), .lit (.int .u8 8), .lit (.int .u8 8), .lit (.int .u8 8), .lit (.int .u8 8), .lit (.int .u8 8), .lit (.int .u8 8), .lit (.int .u8 8), .lit (.int .u8 8), .lit (.int .u8 8), .lit (.int .u8 8), .lit (.int .u8 8), .lit (.int .u8 8), .lit (.int .u8 8), .lit (.int .u8 8), .lit (.int .u8 8), .lit (.int .u8 8), .lit (.int .u8 8), .lit (.int .u8 8), .lit (.int .u8 8), .lit (.int .u8 8), .lit (.int .u8 8), .lit (.int .u8 8), .lit (.int .u8 8), .lit (.int .u8 8), .lit (.int .u8 8), .lit (.int .u8 0), .lit (.int .u8 0), .lit (.int .u8 0), .lit (.int .u8 0), .lit (.int .u8 32), .lit (.int .u8 0), .lit (.int .u8 8), .lit (.int .u8 8), .lit (.int .u8 8), .lit (.int .u8 8), .lit (.int .u8 8), .lit (.int .u8 8), .lit (.int .u8 8), .lit (.int .u8 8), .lit (.int .u8 8), .lit (.int .u8 8), .lit (.int .u8 8), .lit (.int .u8 8), .lit (.int .u8 8), .lit (.int .u8 8), .lit (.int .u8 8), .lit (.int .u8 8), .lit (.int .u8 8), .lit (.int .u8 8), .lit (.int .u8 8), .lit (.int .u8 8), .lit (.int .u8 8), .lit (.int .u8 8), .lit (.int .u8 8), .lit (.int .u8 8), .lit (.int .u8 8), .lit (.int .u8 8), .lit (.int .u8 128), .lit (.int .u8 0), .lit (.int .u8 128), .lit (.int .u8 0), .lit (.int .u8 0), .lit (.int .u8 0), .lit (.int .u8 0), .lit (.int .u8 0), .lit (.int .u8 0), .lit (.int .u8 0), .lit (.int .u8 0), .lit (.int .u8 0), .lit (.int .u8 0), .lit (.int .u8 0), .lit (.int .u8 0), .lit (.int .u8 0), .lit (.int .u8 0), .lit (.int .u8 0), .lit (.int .u8 0), .lit (.int .u8 0), .lit (.int .u8 0), .lit (.int .u8 0), .lit (.int .u8 0), .lit (.int .u8 0), .lit (.int .u8 0), .lit (.int .u8 0), .lit (.int .u8 0), .lit (.int .u8 0), .lit (.int .u8 0), .lit (.int .u8 0), .lit (.int .u8 0), .lit (.int .u8 0), .lit (.int .u8 0), .lit (.int .u8 0), .lit (.int .u8 0), .lit (.int .u8 0), .lit (.int .u8 0), .lit (.int .u8 0), .lit (.int .u8 0), .lit (.int .u8 0), .lit (.int .u8 0), .lit (.int .u8 0), .lit (.int .u8 0), .lit (.int .u8 0), .lit (.int .u8 0), .lit (.int .u8 0), .lit (.int .u8 0), .lit (.int .u8 0), .lit (.int .u8 0), .lit (.int .u8 0), .lit (.int .u8 0), .lit (.int .u8 0), .lit (.int .u8 0), .lit (.int .u8 0), .lit (.int .u8 0), .lit (.int .u8 0), .lit (.int .u8 0), .lit (.int .u8 0), .lit (.int .u8 0), .lit (.int .u8 0), .lit (.int .u8 0), .lit (.int .u8 0), .lit (.int .u8 0), .lit (.int .u8 0), .lit (.int .u8 0), .lit (.int .u8 0), .lit (.int .u8 0), .lit (.int .u8 0), .lit (.int .u8 0), .lit (.int .u8 0), .lit (.int .u8 0), .lit (.int .u8 0), .lit (.int .u8 0), .lit (.int .u8 0), .lit (.int .u8 0), .lit (.int .u8 0), .lit (.int .u8 0), .lit (.int .u8 0), .lit (.int .u8 0), .lit (.int .u8 0), .lit (.int .u8 0), .lit (.int .u8 0), .lit (.int .u8 0), .lit (.int .u8 0), .lit (.int .u8 0), .lit (.int .u8 0), .lit (.int .u8 0), .lit (.int .u8 0), .lit (.int .u8 0), .lit (.int .u8 0), .lit (.int .u8 0), .lit (.int .u8 0), .lit (.int .u8 0), .lit (.int .u8 0), .lit (.int .u8 0), .lit (.int .u8 0), .lit (.int .u8 0), .lit (.int .u8 0), .lit (.int .u8 0), .lit (.int .u8 0), .lit (.int .u8 0), .lit (.int .u8 0), .lit (.int .u8 0), .lit (.int .u8 0), .lit (.int .u8 0), .lit (.int .u8 0), .lit (.int .u8 0), .lit (.int .u8 0), .lit (.int .u8 0), .lit (.int .u8 0), .lit (.int .u8 0), .lit (.int .u8 0), .lit (.int .u8 0), .lit (.int .u8 0), .lit (.int .u8 0), .lit (.int .u8 0), .lit (.int .u8 0), .lit (.int .u8 0), .lit (.int .u8 0), .lit (.int .u8 0), .lit (.int .u8 0), .lit (.int .u8 0), .lit (.int .u8 0), .lit (.int .u8 0), .lit (.int .u8 0), .lit (.int .u8 0), .lit (.int .u8 0), .lit (.int .u8 0), .lit (.int .u8 0), .lit (.int .u8 0), .lit (.int .u8 0), .lit (.int .u8 0), .lit (.int .u8 0)]

/-- 'ambidexterlaw10.LexerMatchesReference': WHATEVER THE INPUT: true; the input reads as it did. -/
def lexerMatchesReferenceSpec : ChangeSpec := { name := "lexerMatchesReference", fn := fun _ => fun
  | [d] => { results := [.lit (.bool true)], args := [d] }
  | _ => none }
def lexerMatchesReferenceRow : OpenClaim := { program := "ytfimejmmcfdgaaadoor", sum := "2b0796baae4191031a4237e0cb8d500b1abf14a7d1e7e113a0e8b92f3fde1d6c", func := "ambidexter/ambidexterlaw10.LexerMatchesReference", spec := "lexerMatchesReference", unfollowed := true, recurses := true, named := ["ambidexter/lexer.classes"], apart := false, laid := [("ambidexter/lexer.classes", laid_ambidexter_lexer_classes)] }
def LexerMatchesReferenceSaid : Prop := lexerMatchesReferenceRow.holds Tryd.pinned (OpenSpec.ofChange lexerMatchesReferenceSpec)

/-- ITS FALSE NEIGHBOUR: 'it returns false'. Refute it at one input. -/
def lexerMatchesReferenceWrong : ChangeSpec := { name := "lexerMatchesReference", fn := fun _ => fun
  | [d] => { results := [.lit (.bool false)], args := [d] }
  | _ => none }
def LexerMatchesReferenceWrongFalsely : Prop := lexerMatchesReferenceRow.holds Tryd.pinned (OpenSpec.ofChange lexerMatchesReferenceWrong)

/-- 'ambidexterlaw10.LexerOffsets': WHATEVER THE INPUT: true; the input reads as it did. -/
def lexerOffsetsSpec : ChangeSpec := { name := "lexerOffsets", fn := fun _ => fun
  | [d] => { results := [.lit (.bool true)], args := [d] }
  | _ => none }
def lexerOffsetsRow : OpenClaim := { program := "ytfimejmmcfdgaaadoor", sum := "2b0796baae4191031a4237e0cb8d500b1abf14a7d1e7e113a0e8b92f3fde1d6c", func := "ambidexter/ambidexterlaw10.LexerOffsets", spec := "lexerOffsets", unfollowed := true, recurses := true, named := ["ambidexter/lexer.classes"], apart := false, laid := [("ambidexter/lexer.classes", laid_ambidexter_lexer_classes)] }
def LexerOffsetsSaid : Prop := lexerOffsetsRow.holds Tryd.pinned (OpenSpec.ofChange lexerOffsetsSpec)

/-- ITS FALSE NEIGHBOUR: 'it returns false'. Refute it at one input. -/
def lexerOffsetsWrong : ChangeSpec := { name := "lexerOffsets", fn := fun _ => fun
  | [d] => { results := [.lit (.bool false)], args := [d] }
  | _ => none }
def LexerOffsetsWrongFalsely : Prop := lexerOffsetsRow.holds Tryd.pinned (OpenSpec.ofChange lexerOffsetsWrong)

/-- 'ambidexterlaw10.LexerStable': WHATEVER THE INPUT: true; the input reads as it did. -/
def lexerStableSpec : ChangeSpec := { name := "lexerStable", fn := fun _ => fun
  | [d1, d2] => { results := [.lit (.bool true)], args := [d1, d2] }
  | _ => none }
def lexerStableRow : OpenClaim := { program := "ytfimejmmcfdgaaadoor", sum := "2b0796baae4191031a4237e0cb8d500b1abf14a7d1e7e113a0e8b92f3fde1d6c", func := "ambidexter/ambidexterlaw10.LexerStable", spec := "lexerStable", unfollowed := true, recurses := true, named := ["ambidexter/lexer.classes"], apart := false, laid := [("ambidexter/lexer.classes", laid_ambidexter_lexer_classes)] }
def LexerStableSaid : Prop := lexerStableRow.holds Tryd.pinned (OpenSpec.ofChange lexerStableSpec)

/-- ITS FALSE NEIGHBOUR: 'it returns false'. Refute it at one input. -/
def lexerStableWrong : ChangeSpec := { name := "lexerStable", fn := fun _ => fun
  | [d1, d2] => { results := [.lit (.bool false)], args := [d1, d2] }
  | _ => none }
def LexerStableWrongFalsely : Prop := lexerStableRow.holds Tryd.pinned (OpenSpec.ofChange lexerStableWrong)

/-- 'ambidexterlaw10.LexerConcatenation': WHATEVER THE INPUT: true; the input reads as it did. -/
def lexerConcatenationSpec : ChangeSpec := { name := "lexerConcatenation", fn := fun _ => fun
  | [d1, d2] => { results := [.lit (.bool true)], args := [d1, d2] }
  | _ => none }
def lexerConcatenationRow : OpenClaim := { program := "ytfimejmmcfdgaaadoor", sum := "2b0796baae4191031a4237e0cb8d500b1abf14a7d1e7e113a0e8b92f3fde1d6c", func := "ambidexter/ambidexterlaw10.LexerConcatenation", spec := "lexerConcatenation", unfollowed := true, recurses := true, named := ["ambidexter/lexer.classes"], apart := false, laid := [("ambidexter/lexer.classes", laid_ambidexter_lexer_classes)] }
def LexerConcatenationSaid : Prop := lexerConcatenationRow.holds Tryd.pinned (OpenSpec.ofChange lexerConcatenationSpec)

/-- ITS FALSE NEIGHBOUR: 'it returns false'. Refute it at one input. -/
def lexerConcatenationWrong : ChangeSpec := { name := "lexerConcatenation", fn := fun _ => fun
  | [d1, d2] => { results := [.lit (.bool false)], args := [d1, d2] }
  | _ => none }
def LexerConcatenationWrongFalsely : Prop := lexerConcatenationRow.holds Tryd.pinned (OpenSpec.ofChange lexerConcatenationWrong)

/-- 'ambidexterlaw10.LexerFirstError': WHATEVER THE INPUT: true; the input reads as it did. -/
def lexerFirstErrorSpec : ChangeSpec := { name := "lexerFirstError", fn := fun _ => fun
  | [d1, d2] => { results := [.lit (.bool true)], args := [d1, d2] }
  | _ => none }
def lexerFirstErrorRow : OpenClaim := { program := "ytfimejmmcfdgaaadoor", sum := "2b0796baae4191031a4237e0cb8d500b1abf14a7d1e7e113a0e8b92f3fde1d6c", func := "ambidexter/ambidexterlaw10.LexerFirstError", spec := "lexerFirstError", unfollowed := true, recurses := true, named := ["ambidexter/lexer.classes"], apart := false, laid := [("ambidexter/lexer.classes", laid_ambidexter_lexer_classes)] }
def LexerFirstErrorSaid : Prop := lexerFirstErrorRow.holds Tryd.pinned (OpenSpec.ofChange lexerFirstErrorSpec)

/-- ITS FALSE NEIGHBOUR: 'it returns false'. Refute it at one input. -/
def lexerFirstErrorWrong : ChangeSpec := { name := "lexerFirstError", fn := fun _ => fun
  | [d1, d2] => { results := [.lit (.bool false)], args := [d1, d2] }
  | _ => none }
def LexerFirstErrorWrongFalsely : Prop := lexerFirstErrorRow.holds Tryd.pinned (OpenSpec.ofChange lexerFirstErrorWrong)

/-- 'ambidexterlaw10.LexerNumbers': WHATEVER THE INPUT: true; the input reads as it did. -/
def lexerNumbersSpec : ChangeSpec := { name := "lexerNumbers", fn := fun _ => fun
  | [d1, d2] => { results := [.lit (.bool true)], args := [d1, d2] }
  | _ => none }
def lexerNumbersRow : OpenClaim := { program := "ytfimejmmcfdgaaadoor", sum := "2b0796baae4191031a4237e0cb8d500b1abf14a7d1e7e113a0e8b92f3fde1d6c", func := "ambidexter/ambidexterlaw10.LexerNumbers", spec := "lexerNumbers", unfollowed := true, recurses := true, named := ["ambidexter/lexer.classes"], apart := false, laid := [("ambidexter/lexer.classes", laid_ambidexter_lexer_classes)] }
def LexerNumbersSaid : Prop := lexerNumbersRow.holds Tryd.pinned (OpenSpec.ofChange lexerNumbersSpec)

/-- ITS FALSE NEIGHBOUR: 'it returns false'. Refute it at one input. -/
def lexerNumbersWrong : ChangeSpec := { name := "lexerNumbers", fn := fun _ => fun
  | [d1, d2] => { results := [.lit (.bool false)], args := [d1, d2] }
  | _ => none }
def LexerNumbersWrongFalsely : Prop := lexerNumbersRow.holds Tryd.pinned (OpenSpec.ofChange lexerNumbersWrong)

/-- 'ambidexterlaw10.LexerBig': WHATEVER THE INPUT: true; the input reads as it did. -/
def lexerBigSpec : ChangeSpec := { name := "lexerBig", fn := fun _ => fun
  | [d1, d2] => { results := [.lit (.bool true)], args := [d1, d2] }
  | _ => none }
def lexerBigRow : OpenClaim := { program := "ytfimejmmcfdgaaadoor", sum := "2b0796baae4191031a4237e0cb8d500b1abf14a7d1e7e113a0e8b92f3fde1d6c", func := "ambidexter/ambidexterlaw10.LexerBig", spec := "lexerBig", unfollowed := true, recurses := true, named := ["ambidexter/lexer.classes"], apart := false, laid := [("ambidexter/lexer.classes", laid_ambidexter_lexer_classes)] }
def LexerBigSaid : Prop := lexerBigRow.holds Tryd.pinned (OpenSpec.ofChange lexerBigSpec)

/-- ITS FALSE NEIGHBOUR: 'it returns false'. Refute it at one input. -/
def lexerBigWrong : ChangeSpec := { name := "lexerBig", fn := fun _ => fun
  | [d1, d2] => { results := [.lit (.bool false)], args := [d1, d2] }
  | _ => none }
def LexerBigWrongFalsely : Prop := lexerBigRow.holds Tryd.pinned (OpenSpec.ofChange lexerBigWrong)

/- THE SECOND FORM. 'bulk': how many values and letters a reading holds, each counted each time it is reached (what is shared counts as often as it is met; a slice's spare places count too). A statement '..UptoSaid' is the law's where the arguments, and the package variables that the reading takes, are together of bulk at most 1048576: NARROWER than '..Said'. Prove '..Said' where nothing that the law and all that it calls make is longer than what came in: it says more and counts as full. Else prove '..UptoSaid'. A law counts once. -/
mutual
def uptoBulk {H : Type} : DataW H → Nat
  | .lit (.string bytes) => bytes.length + 1
  | .lit _ => 1
  | .nil => 1
  | .ptr d => uptoBulk d + 1
  | .slice elems spare => uptoBulkAll elems + uptoBulkAll spare + 1
  | .agg parts => uptoBulkAll parts + 1
  | .iface _ d => uptoBulk d + 1
  | .map entries => uptoBulkEntries entries + 1
  | .held _ => 1
def uptoBulkAll {H : Type} : List (DataW H) → Nat
  | [] => 0
  | d :: r => uptoBulk d + uptoBulkAll r
def uptoBulkEntries {H : Type} : List (Lit × DataW H) → Nat
  | [] => 0
  | x :: r => uptoBulkEntry x + uptoBulkEntries r
def uptoBulkEntry {H : Type} : Lit × DataW H → Nat
  | (.string bytes, d) => bytes.length + uptoBulk d + 1
  | (_, d) => uptoBulk d + 1
 end
def uptoSmall : (H : Type) → List (DataW H) → Bool := fun _ ds => decide (uptoBulkAll ds ≤ 1048576)
def OpenSpec.upto (s : _root_.Go.ChangeSpec) : _root_.Go.OpenSpec := { _root_.Go.OpenSpec.ofChange s with cond := some uptoSmall }

/-- 'ambidexterlaw10.LexerMatchesReference', WHERE WHAT IT READS IS OF BULK AT MOST 1048576: true; the input reads as it did. -/
def lexerMatchesReferenceUptoRow : OpenClaim := { program := "ytfimejmmcfdgaaadoor", sum := "2b0796baae4191031a4237e0cb8d500b1abf14a7d1e7e113a0e8b92f3fde1d6c", func := "ambidexter/ambidexterlaw10.LexerMatchesReference", spec := "lexerMatchesReference", unfollowed := true, recurses := true, named := ["ambidexter/lexer.classes"], apart := false, laid := [("ambidexter/lexer.classes", laid_ambidexter_lexer_classes)], narrowed := true }
def LexerMatchesReferenceUptoSaid : Prop := lexerMatchesReferenceUptoRow.holds Tryd.pinned (OpenSpec.upto lexerMatchesReferenceSpec)

/-- 'ambidexterlaw10.LexerOffsets', WHERE WHAT IT READS IS OF BULK AT MOST 1048576: true; the input reads as it did. -/
def lexerOffsetsUptoRow : OpenClaim := { program := "ytfimejmmcfdgaaadoor", sum := "2b0796baae4191031a4237e0cb8d500b1abf14a7d1e7e113a0e8b92f3fde1d6c", func := "ambidexter/ambidexterlaw10.LexerOffsets", spec := "lexerOffsets", unfollowed := true, recurses := true, named := ["ambidexter/lexer.classes"], apart := false, laid := [("ambidexter/lexer.classes", laid_ambidexter_lexer_classes)], narrowed := true }
def LexerOffsetsUptoSaid : Prop := lexerOffsetsUptoRow.holds Tryd.pinned (OpenSpec.upto lexerOffsetsSpec)

/-- 'ambidexterlaw10.LexerStable', WHERE WHAT IT READS IS OF BULK AT MOST 1048576: true; the input reads as it did. -/
def lexerStableUptoRow : OpenClaim := { program := "ytfimejmmcfdgaaadoor", sum := "2b0796baae4191031a4237e0cb8d500b1abf14a7d1e7e113a0e8b92f3fde1d6c", func := "ambidexter/ambidexterlaw10.LexerStable", spec := "lexerStable", unfollowed := true, recurses := true, named := ["ambidexter/lexer.classes"], apart := false, laid := [("ambidexter/lexer.classes", laid_ambidexter_lexer_classes)], narrowed := true }
def LexerStableUptoSaid : Prop := lexerStableUptoRow.holds Tryd.pinned (OpenSpec.upto lexerStableSpec)

/-- 'ambidexterlaw10.LexerConcatenation', WHERE WHAT IT READS IS OF BULK AT MOST 1048576: true; the input reads as it did. -/
def lexerConcatenationUptoRow : OpenClaim := { program := "ytfimejmmcfdgaaadoor", sum := "2b0796baae4191031a4237e0cb8d500b1abf14a7d1e7e113a0e8b92f3fde1d6c", func := "ambidexter/ambidexterlaw10.LexerConcatenation", spec := "lexerConcatenation", unfollowed := true, recurses := true, named := ["ambidexter/lexer.classes"], apart := false, laid := [("ambidexter/lexer.classes", laid_ambidexter_lexer_classes)], narrowed := true }
def LexerConcatenationUptoSaid : Prop := lexerConcatenationUptoRow.holds Tryd.pinned (OpenSpec.upto lexerConcatenationSpec)

/-- 'ambidexterlaw10.LexerFirstError', WHERE WHAT IT READS IS OF BULK AT MOST 1048576: true; the input reads as it did. -/
def lexerFirstErrorUptoRow : OpenClaim := { program := "ytfimejmmcfdgaaadoor", sum := "2b0796baae4191031a4237e0cb8d500b1abf14a7d1e7e113a0e8b92f3fde1d6c", func := "ambidexter/ambidexterlaw10.LexerFirstError", spec := "lexerFirstError", unfollowed := true, recurses := true, named := ["ambidexter/lexer.classes"], apart := false, laid := [("ambidexter/lexer.classes", laid_ambidexter_lexer_classes)], narrowed := true }
def LexerFirstErrorUptoSaid : Prop := lexerFirstErrorUptoRow.holds Tryd.pinned (OpenSpec.upto lexerFirstErrorSpec)

/-- 'ambidexterlaw10.LexerNumbers', WHERE WHAT IT READS IS OF BULK AT MOST 1048576: true; the input reads as it did. -/
def lexerNumbersUptoRow : OpenClaim := { program := "ytfimejmmcfdgaaadoor", sum := "2b0796baae4191031a4237e0cb8d500b1abf14a7d1e7e113a0e8b92f3fde1d6c", func := "ambidexter/ambidexterlaw10.LexerNumbers", spec := "lexerNumbers", unfollowed := true, recurses := true, named := ["ambidexter/lexer.classes"], apart := false, laid := [("ambidexter/lexer.classes", laid_ambidexter_lexer_classes)], narrowed := true }
def LexerNumbersUptoSaid : Prop := lexerNumbersUptoRow.holds Tryd.pinned (OpenSpec.upto lexerNumbersSpec)

/-- 'ambidexterlaw10.LexerBig', WHERE WHAT IT READS IS OF BULK AT MOST 1048576: true; the input reads as it did. -/
def lexerBigUptoRow : OpenClaim := { program := "ytfimejmmcfdgaaadoor", sum := "2b0796baae4191031a4237e0cb8d500b1abf14a7d1e7e113a0e8b92f3fde1d6c", func := "ambidexter/ambidexterlaw10.LexerBig", spec := "lexerBig", unfollowed := true, recurses := true, named := ["ambidexter/lexer.classes"], apart := false, laid := [("ambidexter/lexer.classes", laid_ambidexter_lexer_classes)], narrowed := true }
def LexerBigUptoSaid : Prop := lexerBigUptoRow.holds Tryd.pinned (OpenSpec.upto lexerBigSpec)

end Rows
end Go.Proofs.YtfimejmmcfdgaaaDoor
