/- For every input, Lex returns the tokens, the error and the offset computed by the reference implementation (at most 2000 bytes).
Conditions: none on the arguments; the table of classes lies as the program's text lays it (the card's tie). -/
import Derived.Test.YtfimejmmcfdgaaaDoorLxM
import Derived.Test.YtfimejmmcfdgaaaDoorLxFr
import Derived.Test.YtfimejmmcfdgaaaDoorTie
import Derived.Test.YtfimejmmcfdgaaaDoorCards
import Derived.SevenTiedAt
namespace Go.Proofs.YtfimejmmcfdgaaaDoor.lexerMatchesReference
open Go.ChangeShapes Go.WideShapes Go.ChangeAt Go.RowKit
set_option linter.unusedVariables false
set_option linter.unusedSimpArgs false
set_option maxRecDepth 100000
set_option maxHeartbeats 4000000 in
theorem walk (s : ByteArray) (hs : s.size ≤ maxLen) (w : World) (hTab : Tab w) :
    Calls Tryd.prog 3 #[.string s] w fun e w' => e = .returned (.bool true) ∧ Below w.heap.size w w' := by
  have TB : Hid (∀ v, Below w.heap.size w v → Tab v) := Lib.hid fun v h => hTab.below h
  clear hTab
  have FC := fun w => few_is s w hs
  have fz := fewB_size s
  generalize fewB s = t at *
  obtain ⟨ts, o, h⟩ := lexes_ex 0 (bl t)
  have tl := toks_le h
  rw [bl_len] at tl
  have HL := Lib.hid h
  clear h hs
  cases o with
  | none =>
    have C1 := fun wv hwv => lex_ok t ts wv (TB.out wv hwv) (by omega) HL
    have C2 : ∀ w : World, Calls Tryd.prog 13 #[.string t] w fun e w' => (∃ ao cap, e = .returned (.tuple #[.slice ao ts.length cap, .int .i64 0, .int .i64 0]) ∧ ts.length ≤ cap ∧ cap ≤ maxLen ∧ TRow w' ao ts) ∧ Below w.heap.size w w' := fun w => reflex_is t ts none w (by omega) HL
    go_enter Tryd.func3, Tryd.ntmps3
    go_wp2_with (first | (go_at_call 10; refine (head10_is _ (TB.out _ (Below.refl _ _))).mono ?_; rintro e' W1 ⟨rfl, hb⟩; have B1 := Lib.hid hb; clear hb) | (go_at_call 11; refine (FC _).mono ?_; rintro e' w' ⟨rfl, rfl⟩) | (go_at_call 12; refine (C1 _ B1.out).mono ?_; rintro e' W2 ⟨⟨ao, ca, rfl, -, -, hr⟩, hb⟩; have R1 := Lib.hid hr; have B2 := Lib.hid (belT B1.out hb); clear hr hb) | (go_at_call 13; refine (C2 _).mono ?_; rintro e' W3 ⟨⟨bo, cb, rfl, -, -, hr⟩, hb⟩; have R2 := Lib.hid hr; have R1' := Lib.hid (trow_below R1.out hb); have B3 := Lib.hid (belT B2.out hb); clear hr hb) | (go_at_call 14; refine (sameT_is ao bo ts.length ts.length ca cb ts ts true _ rfl rfl (Lib.hid (decide_eq_true rfl)) (by omega) (by omega) R1'.out R2.out).mono ?_; rintro e' W4 ⟨rfl, hb⟩; have B4 := Lib.hid (belT B3.out hb); clear hb))
    go_ret
    exact ⟨rfl, B4.out⟩
  | some p =>
    have C1 := fun wv hwv => lex_err t ts p wv (TB.out wv hwv) (by omega) HL
    have C2 : ∀ w : World, Calls Tryd.prog 13 #[.string t] w fun e w' => e = .returned (.tuple #[.slice none 0 0, .int .i64 100, .int .i64 p]) ∧ Below w.heap.size w w' := fun w => reflex_is t ts (some p) w (by omega) HL
    go_enter Tryd.func3, Tryd.ntmps3
    go_wp2_with (first | (go_at_call 10; refine (head10_is _ (TB.out _ (Below.refl _ _))).mono ?_; rintro e' W1 ⟨rfl, hb⟩; have B1 := Lib.hid hb; clear hb) | (go_at_call 11; refine (FC _).mono ?_; rintro e' w' ⟨rfl, rfl⟩) | (go_at_call 12; refine (C1 _ B1.out).mono ?_; rintro e' W2 ⟨rfl, hb⟩; have B2 := Lib.hid (belT B1.out hb); clear hb) | (go_at_call 13; refine (C2 _).mono ?_; rintro e' W3 ⟨rfl, hb⟩; have B3 := Lib.hid (belT B2.out hb); clear hb) | (go_at_call 14; refine (sameT_is none none 0 0 0 0 [] [] true _ rfl rfl (Lib.hid (decide_eq_true rfl)) (by simp) (by simp) (trow_nil _ _) (trow_nil _ _)).mono ?_; rintro e' W4 ⟨rfl, hb⟩; have B4 := Lib.hid (belT B3.out hb); clear hb))
    go_ret
    exact ⟨rfl, B4.out⟩

set_option maxRecDepth 100000 in
theorem lifted (os : Os) (started : os.Started) (H : Type) (enc : TypeId × Value → H) :
    ReturnsInHanded {} Tryd.checked os 3 .any (fun w args => (Rows.lexerMatchesReferenceSpec.pre enc Tryd.prog Tryd.f3 [] false w args ∧ laidMetH Tryd.prog Rows.lexerMatchesReferenceRow.laid w) ∧ sizedMet enc Tryd.prog Tryd.f3 (OpenSpec.ofChange Rows.lexerMatchesReferenceSpec) false w args)
      (Rows.lexerMatchesReferenceSpec.post enc Tryd.prog Tryd.f3 false true false false) := by
  refine returnsInHanded_of_change_and (C := Tryd.checked) (X := fun w _ => laidMetH Tryd.prog Rows.lexerMatchesReferenceRow.laid w) (fun _ _ _ hh h => h.of_heap hh) own started (by kernel_rfl) Tryd.func3
    (ChangeSpec.witness_shaped (enc := enc) (C := Tryd.checked) (os := os) (X := fun w _ => laidMetH Tryd.prog Rows.lexerMatchesReferenceRow.laid w) false (World.doorLaid Tryd.prog 600 os) #[.string ⟨#[]⟩] 8 rfl (World.shaped_of_RefB (by kernel_rfl) (by kernel_rfl)) (by kernel_rfl) (by kernel_rfl) (by kernel_rfl) (show laidMetH Tryd.prog [(qn, Rows.laid_ambidexter_lexer_classes)] _ from door_met os _)) ?_
  intro W base args ds gs before hval0 hW _ _ hL _
  have hval : ∀ (j : Nat) t v, Tryd.f3.params[j]? = some t → args[j]? = some v → Value.okWide Tryd.prog W .any base t v := hval0
  have hW' := hW
  obtain ⟨p, q, hA0, hV, rfl, hfz, hnd⟩ := hW
  have hA : DataW.TrodAll enc Tryd.prog W 0 (fun _ => true) true Tryd.f3.params.toList args.toList ds p := hA0
  rw [Tryd.params3] at hA hval
  obtain ⟨v0, vs0, d0, ds0, p0, q0, hargs, rfl, rfl, h0, r0⟩ := trodAll_cons hA
  obtain ⟨rfl, rfl, rfl⟩ := trodAll_nil r0
  obtain rfl : args = #[v0] := by cases args; simp_all
  obtain ⟨rfl, rfl⟩ := trodVars_none hV
  obtain ⟨a0, rfl, rfl, rfl, w0⟩ := Go.ChangeMaps.open_string Tryd.underlying9 (hval 0 9 v0 rfl rfl) h0
  clear hA0 hval0
  simp only [List.append_nil] at hW'
  refine (walk (w := W) (hTab := tab_of_laid hL) a0 w0).mono fun e W' ⟨he, bel⟩ => ?_
  subst he
  exact ⟨_, rfl, _, _, _, [], _, [], hW', trodAll_mk1 (shut_bool Tryd.underlying4 _), (trodAll_cons_mk (Go.ChangeMaps.shut_string Tryd.underlying9 w0) trodAll_mk0), rfl, bel.frame _, fun h => by cases h⟩

theorem holds : Rows.LexerMatchesReferenceSaid :=
  OpenClaim.holds_of_wide 3 Tryd.f3 rfl rfl rfl rfl rfl rfl rfl ⟨rfl, rfl, rfl, rfl, rfl⟩ rfl rfl rfl rfl rfl (by kernel_rfl) Tryd.func3 (by kernel_rfl)
    (of_decide_eq_true (by kernel_rfl)) (by unfold Func.isWrapper; first | (rw [if_pos (by decide +kernel)]; kernel_rfl) | (rw [if_neg (by decide +kernel)]; exact ⟨rfl, rfl⟩))
    (fun os started H enc _ => lifted os started H enc)

/-- THE STATEMENT: the tied card. -/
theorem card_holds : Rows.LexerMatchesReferenceCardSaid :=
  Claim7.holds_tied_plain_at .later [] [.data] true Rows.lexerMatchesReferenceCard.stood.harness false
    holds (fun _ h => by cases h) (by kernel_rfl) (fun _ h => by cases h) lexerMatchesReference_row_tie rfl ⟨rfl, rfl⟩ (by kernel_rfl) rfl
    (fun f fn hf hfn => by
      obtain rfl : f = 3 := Option.some.inj ((show Tryd.prog.funcNamed Rows.lexerMatchesReferenceRow.func = some 3 by kernel_rfl).symm.trans hf) |>.symm
      obtain rfl : fn = Tryd.f3 := (Option.some.inj (Tryd.func3.symm.trans hfn)).symm
      exact ⟨by kernel_rfl, fun j t ht => by
        rw [Tryd.params3] at ht
        have hm : t ∈ [9] := by have := Array.mem_of_getElem? ht; simp only [List.mem_toArray, List.mem_cons, List.not_mem_nil, or_false] at this ⊢; grind
        have hall : ([9].all fun u => !Tryd.prog.wantsStandIn u) = true := by kernel_rfl
        exact (show Tryd.prog.wantsStandIn t = false by simpa using List.all_eq_true.1 hall t hm)⟩)
    (by kernel_rfl)
#print axioms card_holds
end Go.Proofs.YtfimejmmcfdgaaaDoor.lexerMatchesReference
