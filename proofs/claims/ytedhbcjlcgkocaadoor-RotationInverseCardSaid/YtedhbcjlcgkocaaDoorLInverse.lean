/- Proved: Inverse gives the opposite rotation, and undoes a composition up to the factor 4225 (the law RotationInverse returns true).
Conditions: none on the arguments: for every int and int16. The table of package rotation lies as the program text lays it (the card ties it). -/
import Derived.Test.YtedhbcjlcgkocaaDoorDirs
import Derived.Test.YtedhbcjlcgkocaaDoorTie
import Derived.Test.YtedhbcjlcgkocaaDoorCards
import Derived.SevenTiedAt
namespace Go.Proofs.YtedhbcjlcgkocaaDoor.rotationInverse
open Go.ChangeShapes Go.WideShapes Go.ChangeAt Go.RowKit
set_option linter.unusedVariables false

theorem tmod_back (q r : Int) (h : (r - q % 36) % 36 = 0) : (r - q.tmod 36).tmod 36 = 0 := by
  have a := Int.tmod_eq_emod (a := q) (b := 36)
  apply Int.tmod_eq_zero_of_dvd
  apply Int.dvd_of_emod_eq_zero
  split at a <;> omega
theorem tmod_bd (q : Int) : -36 < q.tmod 36 ∧ q.tmod 36 < 36 := by
  have a := Int.tmod_eq_emod (a := q) (b := 36)
  split at a <;> omega

set_option maxRecDepth 100000 in
set_option maxHeartbeats 2000000 in
theorem walk (q : Int) (v0 : (Lit.int .i64 q).wf = true) (p : Int) (v1 : (Lit.int .i16 p).wf = true) (w0 : World) (hT0 : Tab w0) :
    Calls Tryd.prog 6 #[.int .i64 q, .int .i16 p] w0 fun e w' => e = .returned (.bool true) ∧ Below w0.heap.size w0 w' := by
  have hq := wf64 v0
  obtain ⟨r1, r2⟩ := wf16 v1
  obtain ⟨⟨o1, o2⟩, i1, i2, i3, i4⟩ := inv_facts (q % 36).toNat (by omega)
  rw [show (((q % 36).toNat : Nat) : Int) = q % 36 by omega] at o1 o2 i1 i2 i3 i4
  obtain ⟨o, E0⟩ : ∃ o : Int, Hid (invF (q % 36) = o) := ⟨_, Lib.hid rfl⟩
  rw [E0.out] at o1 o2 i1 i2 i3 i4
  obtain ⟨r, E10⟩ : ∃ r : Int, Hid (invF (o % 36) = r) := ⟨_, Lib.hid rfl⟩
  rw [E10.out] at i2 i3 i4
  have l1 := len65 (q % 36).toNat (by omega)
  have l2 := len65 (p % 36).toNat (by omega)
  obtain ⟨⟨c1, c2⟩, c3, c4⟩ := csF_bd (q % 36).toNat
  obtain ⟨⟨c5, c6⟩, c7, c8⟩ := csF_bd (p % 36).toNat
  obtain ⟨c, s, E1⟩ : ∃ c s : Int, Hid (csF (q % 36).toNat = (c, s)) := ⟨_, _, Lib.hid rfl⟩
  obtain ⟨g, h, E9⟩ : ∃ g h : Int, Hid (csF (p % 36).toNat = (g, h)) := ⟨_, _, Lib.hid rfl⟩
  rw [E1.out] at l1 c1 c2 c3 c4 i1
  rw [E9.out] at l2 c5 c6 c7 c8
  simp only at l1 l2 c1 c2 c3 c4 c5 c6 c7 c8 i1
  have E2 : Hid (csF (o % 36).toNat = (c, -s)) := Lib.hid i1
  have E3 : Hid ((1 : Int) * (csF (p % 36).toNat).1 - 0 * (csF (p % 36).toNat).2 = g) := Lib.hid (by rw [E9.out]; simp)
  have E4 : Hid ((1 : Int) * (csF (p % 36).toNat).2 + 0 * (csF (p % 36).toNat).1 = h) := Lib.hid (by rw [E9.out]; simp)
  obtain ⟨U, E5⟩ : ∃ U : Int, Hid (g * (csF (q % 36).toNat).1 - h * (csF (q % 36).toNat).2 = U) := ⟨_, Lib.hid rfl⟩
  obtain ⟨V, E6⟩ : ∃ V : Int, Hid (g * (csF (q % 36).toNat).2 + h * (csF (q % 36).toNat).1 = V) := ⟨_, Lib.hid rfl⟩
  have eU : g * c - h * s = U := by have := E5.out; rw [E1.out] at this; exact this
  have eV : g * s + h * c = V := by have := E6.out; rw [E1.out] at this; exact this
  have V1 : Hid (vdB g h 1 = true) := Lib.hid (vd_of g h 1 (by decide) (by decide) (by rw [l2]; rfl))
  have V2 : Hid (vdB U V 2 = true) := Lib.hid (by rw [← eU, ← eV]; exact vd_step g h 1 c s V1.out (by decide) l1)
  have E7 : Hid (U * (csF (o % 36).toNat).1 - V * (csF (o % 36).toNat).2 = 4225 * g) := Lib.hid (by rw [E2.out]; simp only; rw [← eU, ← eV, ← l1]; grind)
  have E8 : Hid (U * (csF (o % 36).toNat).2 + V * (csF (o % 36).toNat).1 = 4225 * h) := Lib.hid (by rw [E2.out]; simp only; rw [← eU, ← eV, ← l1]; grind)
  have tb := tmod_bd q
  have t1 : ((r - q.tmod 36).tmod 36 == 0) = true := by simp [tmod_back q r i2]
  clear l1 l2 i1 i2 eU eV
  have hB0 : Below w0.heap.size w0 w0 := Below.refl _ _
  go_enter Tryd.func6, Tryd.ntmps6
  go_wp2_with fail
  refine (head_any _ (by repeat (first | exact hT0 | apply Tab.alloc))).mono ?_; rintro e w1 ⟨rfl, hb1⟩
  have hT1 : Tab w1 := Tab.below (by repeat (first | exact hT0 | apply Tab.alloc)) hb1
  obtain ⟨hc1, hf1⟩ := bcell hb1
  have hs1 : w0.heap.size + 0 ≤ w1.heap.size := by have := hb1.size; first | exact this | (simp at this; omega)
  have hB1 : Below w0.heap.size w0 w1 := hB0.trans (hb1.mono (by have := hB0.size; first | omega | (simp; done) | (simp; omega)))
  go_wp2_with fail
  refine (inverse_is _ o _ hq E0).mono ?_; rintro e w' ⟨rfl, rfl⟩
  go_wp2_with fail
  refine (cossin_is _ c s _ (by repeat (first | exact hT1 | apply Tab.alloc)) hq E1).mono ?_; rintro e w2 ⟨rfl, hb2⟩
  have hT2 : Tab w2 := Tab.below (by repeat (first | exact hT1 | apply Tab.alloc)) hb2
  obtain ⟨hc2, hf2⟩ := bcell hb2
  have hs2 : w1.heap.size + 0 ≤ w2.heap.size := by have := hb2.size; first | exact this | (simp at this; omega)
  have hB2 : Below w0.heap.size w0 w2 := hB1.trans (hb2.mono (by have := hB1.size; first | omega | (simp; done) | (simp; omega)))
  go_wp2_with fail
  refine (cossin_is _ c (-s) _ (by repeat (first | exact hT2 | apply Tab.alloc)) (by omega) E2).mono ?_; rintro e w3 ⟨rfl, hb3⟩
  have hT3 : Tab w3 := Tab.below (by repeat (first | exact hT2 | apply Tab.alloc)) hb3
  obtain ⟨hc3, hf3⟩ := bcell hb3
  have hs3 : w2.heap.size + 0 ≤ w3.heap.size := by have := hb3.size; first | exact this | (simp at this; omega)
  have hB3 : Below w0.heap.size w0 w3 := hB2.trans (hb3.mono (by have := hB2.size; first | omega | (simp; done) | (simp; omega)))
  go_wp2_with fail
  refine (compose_is 1 0 0 _ g h _ (by repeat (first | exact hT3 | apply Tab.alloc)) (by decide) (by decide) (by omega) E3 E4).mono ?_; rintro e w4 ⟨rfl, hb4⟩
  have hT4 : Tab w4 := Tab.below (by repeat (first | exact hT3 | apply Tab.alloc)) hb4
  obtain ⟨hc4, hf4⟩ := bcell hb4
  have hs4 : w3.heap.size + 0 ≤ w4.heap.size := by have := hb4.size; first | exact this | (simp at this; omega)
  have hB4 : Below w0.heap.size w0 w4 := hB3.trans (hb4.mono (by have := hB3.size; first | omega | (simp; done) | (simp; omega)))
  go_wp2_with fail
  refine (compose_is g h 1 _ U V _ (by repeat (first | exact hT4 | apply Tab.alloc)) V1.out (by decide) hq E5 E6).mono ?_; rintro e w5 ⟨rfl, hb5⟩
  have hT5 : Tab w5 := Tab.below (by repeat (first | exact hT4 | apply Tab.alloc)) hb5
  obtain ⟨hc5, hf5⟩ := bcell hb5
  have hs5 : w4.heap.size + 0 ≤ w5.heap.size := by have := hb5.size; first | exact this | (simp at this; omega)
  have hB5 : Below w0.heap.size w0 w5 := hB4.trans (hb5.mono (by have := hB4.size; first | omega | (simp; done) | (simp; omega)))
  go_wp2_with fail
  refine (compose_is U V 2 _ (4225 * g) (4225 * h) _ (by repeat (first | exact hT5 | apply Tab.alloc)) V2.out (by decide) (by omega) E7 E8).mono ?_; rintro e w6 ⟨rfl, hb6⟩
  have hT6 : Tab w6 := Tab.below (by repeat (first | exact hT5 | apply Tab.alloc)) hb6
  obtain ⟨hc6, hf6⟩ := bcell hb6
  have hs6 : w5.heap.size + 0 ≤ w6.heap.size := by have := hb6.size; first | exact this | (simp at this; omega)
  have hB6 : Below w0.heap.size w0 w6 := hB5.trans (hb6.mono (by have := hB5.size; first | omega | (simp; done) | (simp; omega)))
  go_wp2_with fail
  refine (cossin_is _ g h _ (by repeat (first | exact hT6 | apply Tab.alloc)) (by omega) E9).mono ?_; rintro e w7 ⟨rfl, hb7⟩
  have hT7 : Tab w7 := Tab.below (by repeat (first | exact hT6 | apply Tab.alloc)) hb7
  obtain ⟨hc7, hf7⟩ := bcell hb7
  have hs7 : w6.heap.size + 1 ≤ w7.heap.size := by have := hb7.size; first | exact this | (simp at this; omega)
  have hB7 : Below w0.heap.size w0 w7 := (hB6.alloc (by have := hB6.size; first | omega | (simp; done) | (simp; omega)) _).trans (hb7.mono (by have := hB6.size; first | omega | (simp; done) | (simp; omega)))
  have hz6_0_7 : w6.heap.size < w7.heap.size := by omega
  go_wp2_with fail
  refine (inverse_is _ r _ (by omega) E10).mono ?_; rintro e w' ⟨rfl, rfl⟩
  go_wp2_with fail
  go_ret
  exact ⟨rfl, hB7⟩

set_option maxRecDepth 100000 in
theorem lifted (os : Os) (started : os.Started) (H : Type) (enc : TypeId × Value → H) :
    ReturnsInHanded {} Tryd.checked os 6 .any (fun w args => (Rows.rotationInverseSpec.pre enc Tryd.prog Tryd.f6 [] false w args ∧ laidMetH Tryd.prog Rows.rotationInverseRow.laid w) ∧ sizedMet enc Tryd.prog Tryd.f6 (OpenSpec.ofChange Rows.rotationInverseSpec) false w args)
      (Rows.rotationInverseSpec.post enc Tryd.prog Tryd.f6 false true false false) := by
  refine returnsInHanded_of_change_and (C := Tryd.checked) (X := fun w _ => laidMetH Tryd.prog Rows.rotationInverseRow.laid w) (fun _ _ _ hh h => h.of_heap hh) own started (by kernel_rfl) Tryd.func6
    (ChangeSpec.witness_shaped (enc := enc) (C := Tryd.checked) (os := os) (X := fun w _ => laidMetH Tryd.prog Rows.rotationInverseRow.laid w) false (World.doorLaid Tryd.prog 600 os) #[.int .i64 0, .int .i16 0] 8 rfl (World.shaped_of_RefB (by kernel_rfl) (by kernel_rfl)) (by kernel_rfl) (by kernel_rfl) (by kernel_rfl) (show laidMetH Tryd.prog [(qn, Rows.laid_ambidexter_rotation_quadrant)] _ from door_met os _)) ?_
  intro W base args ds gs before hval0 hW _ _ hL _
  have hval : ∀ (j : Nat) t v, Tryd.f6.params[j]? = some t → args[j]? = some v → Value.okWide Tryd.prog W .any base t v := hval0
  have hW' := hW
  obtain ⟨p, q, hA0, hV, rfl, hfz, hnd⟩ := hW
  have hA : DataW.TrodAll enc Tryd.prog W 0 (fun _ => true) true Tryd.f6.params.toList args.toList ds p := hA0
  rw [Tryd.params6] at hA hval
  obtain ⟨v0, vs0, d0, ds0, p0, q0, hargs, rfl, rfl, h0, r0⟩ := trodAll_cons hA
  obtain ⟨v1, vs1, d1, ds1, p1, q1, rfl, rfl, rfl, h1, r1⟩ := trodAll_cons r0
  obtain ⟨rfl, rfl, rfl⟩ := trodAll_nil r1
  obtain rfl : args = #[v0, v1] := by cases args; simp_all
  obtain ⟨rfl, rfl⟩ := trodVars_none hV
  obtain ⟨a0, rfl, rfl, rfl, w0⟩ := open_int Tryd.underlying3 (hval 0 3 v0 rfl rfl) h0
  obtain ⟨a1, rfl, rfl, rfl, w1⟩ := open_int Tryd.underlying41 (hval 1 41 v1 rfl rfl) h1
  clear hA0 hval0
  simp only [List.append_nil] at hW'
  refine (walk a0 w0 a1 w1 W (tab_of_laid hL)).mono fun e W' ⟨he, hg⟩ => ?_
  subst he
  exact ⟨_, rfl, _, _, _, [], _, [], hW', trodAll_mk1 (shut_bool Tryd.underlying4 _), (trodAll_cons_mk (shut_int Tryd.underlying3 w0) (trodAll_cons_mk (shut_int Tryd.underlying41 w1) trodAll_mk0)), rfl, hg.frame _, fun h => by cases h⟩

theorem holds : Rows.RotationInverseSaid :=
  OpenClaim.holds_of_wide 6 Tryd.f6 rfl rfl rfl rfl rfl rfl rfl ⟨rfl, rfl, rfl, rfl, rfl⟩ rfl rfl rfl rfl rfl (by kernel_rfl) Tryd.func6 (by kernel_rfl)
    (of_decide_eq_true (by kernel_rfl)) (by unfold Func.isWrapper; first | (rw [if_pos (by decide +kernel)]; kernel_rfl) | (rw [if_neg (by decide +kernel)]; exact ⟨rfl, rfl⟩))
    (fun os started H enc _ => lifted os started H enc)

/-- THE STATEMENT: the tied card. -/
theorem card_holds : Rows.RotationInverseCardSaid :=
  Claim7.holds_tied_plain_at .later [] [.data] true Rows.rotationInverseCard.stood.harness false
    holds (fun _ h => by cases h) (by kernel_rfl) (fun _ h => by cases h) rotationInverse_row_tie rfl ⟨rfl, rfl⟩ (by kernel_rfl) rfl
    (fun f fn hf hfn => by
      obtain rfl : f = 6 := Option.some.inj ((show Tryd.prog.funcNamed Rows.rotationInverseRow.func = some 6 by kernel_rfl).symm.trans hf) |>.symm
      obtain rfl : fn = Tryd.f6 := (Option.some.inj (Tryd.func6.symm.trans hfn)).symm
      exact ⟨by kernel_rfl, fun j t ht => by
        rw [Tryd.params6] at ht
        have hm : t ∈ [3, 41] := by have := Array.mem_of_getElem? ht; simp only [List.mem_toArray, List.mem_cons, List.not_mem_nil, or_false] at this ⊢; grind
        have hall : ([3, 41].all fun u => !Tryd.prog.wantsStandIn u) = true := by kernel_rfl
        exact (show Tryd.prog.wantsStandIn t = false by simpa using List.all_eq_true.1 hall t hm)⟩)
    (by kernel_rfl)
#print axioms card_holds
end Go.Proofs.YtedhbcjlcgkocaaDoor.rotationInverse
