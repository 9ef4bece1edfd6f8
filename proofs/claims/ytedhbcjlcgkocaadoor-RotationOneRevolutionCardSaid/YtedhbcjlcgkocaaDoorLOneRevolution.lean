/- Proved: the numbering of the rotations goes round once, counterclockwise, in small steps (the law RotationOneRevolution returns true).
Conditions: none on the arguments: for every int16. The table of package rotation lies as the program text lays it (the card ties it). -/
import Derived.Test.YtedhbcjlcgkocaaDoorLaw
import Derived.Test.YtedhbcjlcgkocaaDoorTie
import Derived.Test.YtedhbcjlcgkocaaDoorCards
import Derived.SevenTiedAt
namespace Go.Proofs.YtedhbcjlcgkocaaDoor.rotationOneRevolution
open Go.ChangeShapes Go.WideShapes Go.ChangeAt Go.RowKit
set_option linter.unusedVariables false

theorem cs_facts : ∀ k, k < 36 → (csF k).1 * (csF k).1 + (csF k).2 * (csF k).2 = 4225 ∧ 0 < (csF k).1 * (csF ((k + 1) % 36)).2 - (csF k).2 * (csF ((k + 1) % 36)).1 ∧ 101400 ≤ 25 * ((csF k).1 * (csF ((k + 1) % 36)).1 + (csF k).2 * (csF ((k + 1) % 36)).2) ∧
    csF ((k + 9) % 36) = (-(csF k).2, (csF k).1) ∧ csF ((k + 18) % 36) = (-(csF k).1, -(csF k).2) := by decide +kernel

set_option maxRecDepth 100000 in
set_option maxHeartbeats 2000000 in
theorem walk (a0 : Int) (v0 : (Lit.int .i16 a0).wf = true) (w0 : World) (hT0 : Tab w0) :
    Calls Tryd.prog 4 #[.int .i16 a0] w0 fun e w' => e = .returned (.bool true) ∧ Below w0.heap.size w0 w' := by
  have hr : -32768 ≤ a0 ∧ a0 ≤ 32767 := by simp [Lit.wf, IntKind.min, IntKind.max, IntKind.bits, IntKind.signed] at v0; omega
  obtain ⟨r1, r2⟩ := hr
  obtain ⟨f1, f2, f3, f4, f5⟩ := cs_facts (a0 % 36).toNat (by omega)
  obtain ⟨⟨c1, c2⟩, c3, c4⟩ := csF_bd (a0 % 36).toNat
  obtain ⟨⟨c5, c6⟩, c7, c8⟩ := csF_bd (((a0 % 36).toNat + 1) % 36)
  have e1 : Hid (csF (a0 % 36).toNat = ((csF (a0 % 36).toNat).1, (csF (a0 % 36).toNat).2)) := Lib.hid rfl
  have e2 : Hid (csF ((a0 + 1) % 36).toNat = ((csF (((a0 % 36).toNat + 1) % 36)).1, (csF (((a0 % 36).toNat + 1) % 36)).2)) := Lib.hid (by rw [show ((a0 + 1) % 36).toNat = ((a0 % 36).toNat + 1) % 36 by omega])
  have e3 : Hid (csF ((a0 + 36) % 36).toNat = ((csF (a0 % 36).toNat).1, (csF (a0 % 36).toNat).2)) := Lib.hid (by rw [show ((a0 + 36) % 36).toNat = (a0 % 36).toNat by omega])
  have e4 : Hid (csF ((a0 + 9) % 36).toNat = (-(csF (a0 % 36).toNat).2, (csF (a0 % 36).toNat).1)) := Lib.hid (by rw [show ((a0 + 9) % 36).toNat = ((a0 % 36).toNat + 9) % 36 by omega]; exact f4)
  have e5 : Hid (csF ((a0 + 18) % 36).toNat = (-(csF (a0 % 36).toNat).1, -(csF (a0 % 36).toNat).2)) := Lib.hid (by rw [show ((a0 + 18) % 36).toNat = ((a0 % 36).toNat + 18) % 36 by omega]; exact f5)
  clear f4 f5
  generalize (csF (a0 % 36).toNat).1 = c at *
  generalize (csF (a0 % 36).toNat).2 = s at *
  generalize (csF (((a0 % 36).toNat + 1) % 36)).1 = x at *
  generalize (csF (((a0 % 36).toNat + 1) % 36)).2 = y at *
  obtain ⟨m1, m2⟩ := mul_bd (x := c) (c := c) (B := 65) ⟨c1, c2⟩ ⟨c1, c2⟩
  obtain ⟨m3, m4⟩ := mul_bd (x := s) (c := s) (B := 65) ⟨c3, c4⟩ ⟨c3, c4⟩
  obtain ⟨m5, m6⟩ := mul_bd (x := c) (c := y) (B := 65) ⟨c1, c2⟩ ⟨c7, c8⟩
  obtain ⟨m7, m8⟩ := mul_bd (x := s) (c := x) (B := 65) ⟨c3, c4⟩ ⟨c5, c6⟩
  obtain ⟨m9, m10⟩ := mul_bd (x := c) (c := x) (B := 65) ⟨c1, c2⟩ ⟨c5, c6⟩
  obtain ⟨m11, m12⟩ := mul_bd (x := s) (c := y) (B := 65) ⟨c3, c4⟩ ⟨c7, c8⟩
  have t1 : (c * c + s * s == 4225) = true := by simpa using f1
  clear f1
  obtain ⟨mx, mx1, mx2⟩ := max4 c s x y c2 c4 c6 c8
  obtain ⟨mn, mn1, mn2⟩ := min4 c s x y c1 c3 c5 c7
  have hB0 : Below w0.heap.size w0 w0 := Below.refl _ _
  go_enter Tryd.func4, Tryd.ntmps4
  go_wp2_with fail
  refine (head_any _ (by repeat (first | exact hT0 | apply Tab.alloc))).mono ?_; rintro e w1 ⟨rfl, hb1⟩
  have hT1 : Tab w1 := Tab.below (by repeat (first | exact hT0 | apply Tab.alloc)) hb1
  have hB1 : Below w0.heap.size w0 w1 := hB0.trans (hb1.mono hB0.size)
  go_wp2_with fail
  refine (cossin_is _ c s _ (by repeat (first | exact hT1 | apply Tab.alloc)) (by omega) e1).mono ?_; rintro e w2 ⟨rfl, hb2⟩
  have hT2 : Tab w2 := Tab.below (by repeat (first | exact hT1 | apply Tab.alloc)) hb2
  have hB2 : Below w0.heap.size w0 w2 := hB1.trans (hb2.mono hB1.size)
  go_wp2_with fail
  refine (cossin_is _ x y _ (by repeat (first | exact hT2 | apply Tab.alloc)) (by omega) e2).mono ?_; rintro e w3 ⟨rfl, hb3⟩
  have hT3 : Tab w3 := Tab.below (by repeat (first | exact hT2 | apply Tab.alloc)) hb3
  have hB3 : Below w0.heap.size w0 w3 := hB2.trans (hb3.mono hB2.size)
  go_wp2_with fail
  refine (cossin_is _ c s _ (by repeat (first | exact hT3 | apply Tab.alloc)) (by omega) e3).mono ?_; rintro e w4 ⟨rfl, hb4⟩
  have hT4 : Tab w4 := Tab.below (by repeat (first | exact hT3 | apply Tab.alloc)) hb4
  have hB4 : Below w0.heap.size w0 w4 := hB3.trans (hb4.mono hB3.size)
  go_wp2_with fail
  refine (cossin_is _ (-s) c _ (by repeat (first | exact hT4 | apply Tab.alloc)) (by omega) e4).mono ?_; rintro e w5 ⟨rfl, hb5⟩
  have hT5 : Tab w5 := Tab.below (by repeat (first | exact hT4 | apply Tab.alloc)) hb5
  have hB5 : Below w0.heap.size w0 w5 := hB4.trans (hb5.mono hB4.size)
  go_wp2_with fail
  refine (cossin_is _ (-c) (-s) _ (by repeat (first | exact hT5 | apply Tab.alloc)) (by omega) e5).mono ?_; rintro e w6 ⟨rfl, hb6⟩
  have hT6 : Tab w6 := Tab.below (by repeat (first | exact hT5 | apply Tab.alloc)) hb6
  have hB6 : Below w0.heap.size w0 w6 := hB5.trans (hb6.mono hB5.size)
  go_wp2_with fail
  go_ret
  exact ⟨rfl, hB6⟩

set_option maxRecDepth 100000 in
theorem lifted (os : Os) (started : os.Started) (H : Type) (enc : TypeId × Value → H) :
    ReturnsInHanded {} Tryd.checked os 4 .any (fun w args => (Rows.rotationOneRevolutionSpec.pre enc Tryd.prog Tryd.f4 [] false w args ∧ laidMetH Tryd.prog Rows.rotationOneRevolutionRow.laid w) ∧ sizedMet enc Tryd.prog Tryd.f4 (OpenSpec.ofChange Rows.rotationOneRevolutionSpec) false w args)
      (Rows.rotationOneRevolutionSpec.post enc Tryd.prog Tryd.f4 false true false false) := by
  refine returnsInHanded_of_change_and (C := Tryd.checked) (X := fun w _ => laidMetH Tryd.prog Rows.rotationOneRevolutionRow.laid w) (fun _ _ _ hh h => h.of_heap hh) own started (by kernel_rfl) Tryd.func4
    (ChangeSpec.witness_shaped (enc := enc) (C := Tryd.checked) (os := os) (X := fun w _ => laidMetH Tryd.prog Rows.rotationOneRevolutionRow.laid w) false (World.doorLaid Tryd.prog 600 os) #[.int .i16 0] 8 rfl (World.shaped_of_RefB (by kernel_rfl) (by kernel_rfl)) (by kernel_rfl) (by kernel_rfl) (by kernel_rfl) (show laidMetH Tryd.prog [(qn, Rows.laid_ambidexter_rotation_quadrant)] _ from door_met os _)) ?_
  intro W base args ds gs before hval0 hW _ _ hL _
  have hval : ∀ (j : Nat) t v, Tryd.f4.params[j]? = some t → args[j]? = some v → Value.okWide Tryd.prog W .any base t v := hval0
  have hW' := hW
  obtain ⟨p, q, hA0, hV, rfl, hfz, hnd⟩ := hW
  have hA : DataW.TrodAll enc Tryd.prog W 0 (fun _ => true) true Tryd.f4.params.toList args.toList ds p := hA0
  rw [Tryd.params4] at hA hval
  obtain ⟨v0, vs0, d0, ds0, p0, q0, hargs, rfl, rfl, h0, r0⟩ := trodAll_cons hA
  obtain ⟨rfl, rfl, rfl⟩ := trodAll_nil r0
  obtain rfl : args = #[v0] := by cases args; simp_all
  obtain ⟨rfl, rfl⟩ := trodVars_none hV
  obtain ⟨a0, rfl, rfl, rfl, w0⟩ := open_int Tryd.underlying41 (hval 0 41 v0 rfl rfl) h0
  clear hA0 hval0
  simp only [List.append_nil] at hW'
  refine (walk a0 w0 W (tab_of_laid hL)).mono fun e W' ⟨he, hg⟩ => ?_
  subst he
  exact ⟨_, rfl, _, _, _, [], _, [], hW', trodAll_mk1 (shut_bool Tryd.underlying4 _), (trodAll_cons_mk (shut_int Tryd.underlying41 w0) trodAll_mk0), rfl, hg.frame _, fun h => by cases h⟩

theorem holds : Rows.RotationOneRevolutionSaid :=
  OpenClaim.holds_of_wide 4 Tryd.f4 rfl rfl rfl rfl rfl rfl rfl ⟨rfl, rfl, rfl, rfl, rfl⟩ rfl rfl rfl rfl rfl (by kernel_rfl) Tryd.func4 (by kernel_rfl)
    (of_decide_eq_true (by kernel_rfl)) (by unfold Func.isWrapper; first | (rw [if_pos (by decide +kernel)]; kernel_rfl) | (rw [if_neg (by decide +kernel)]; exact ⟨rfl, rfl⟩))
    (fun os started H enc _ => lifted os started H enc)

/-- THE STATEMENT: the tied card. -/
theorem card_holds : Rows.RotationOneRevolutionCardSaid :=
  Claim7.holds_tied_plain_at .later [] [.data] true Rows.rotationOneRevolutionCard.stood.harness false
    holds (fun _ h => by cases h) (by kernel_rfl) (fun _ h => by cases h) rotationOneRevolution_row_tie rfl ⟨rfl, rfl⟩ (by kernel_rfl) rfl
    (fun f fn hf hfn => by
      obtain rfl : f = 4 := Option.some.inj ((show Tryd.prog.funcNamed Rows.rotationOneRevolutionRow.func = some 4 by kernel_rfl).symm.trans hf) |>.symm
      obtain rfl : fn = Tryd.f4 := (Option.some.inj (Tryd.func4.symm.trans hfn)).symm
      exact ⟨by kernel_rfl, fun j t ht => by
        rw [Tryd.params4] at ht
        have hm : t ∈ [41] := by have := Array.mem_of_getElem? ht; simp only [List.mem_toArray, List.mem_cons, List.not_mem_nil, or_false] at this ⊢; grind
        have hall : ([41].all fun u => !Tryd.prog.wantsStandIn u) = true := by kernel_rfl
        exact (show Tryd.prog.wantsStandIn t = false by simpa using List.all_eq_true.1 hall t hm)⟩)
    (by kernel_rfl)
#print axioms card_holds
end Go.Proofs.YtedhbcjlcgkocaaDoor.rotationOneRevolution
