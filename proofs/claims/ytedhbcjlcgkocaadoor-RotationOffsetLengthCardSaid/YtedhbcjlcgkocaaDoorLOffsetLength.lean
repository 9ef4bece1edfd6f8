/- Proved: offsets along a valid direction have the right length and sign (the law RotationOffsetLength returns true).
Conditions: none on the arguments: for every slice of ints and every int8. The table of package rotation lies as the program text lays it (the card ties it). -/
import Derived.Test.YtedhbcjlcgkocaaDoorDirFn
import Derived.Test.YtedhbcjlcgkocaaDoorTie
import Derived.Test.YtedhbcjlcgkocaaDoorCards
import Derived.SevenTiedAt
namespace Go.Proofs.YtedhbcjlcgkocaaDoor.rotationOffsetLength
open Go.ChangeShapes Go.WideShapes Go.ChangeAt Go.RowKit
set_option linter.unusedVariables false

theorem laidOut : laidOutB Tryd.prog = true := by kernel_rfl
theorem offset_is (X Y N n U V : Int) (w : World) (h : vdB X Y N = true) (hn : -200 ≤ n ∧ n ≤ 200) (hU : Hid (n * 16 * p65 (3 - N) * X = U)) (hV : Hid (n * 16 * p65 (3 - N) * Y = V)) :
    Calls Tryd.prog 23 #[.agg #[.int .i64 X, .int .i64 Y, .int .i64 N], .int .i64 n] w fun e w' => e = .returned (.agg #[.int .i64 U, .int .i64 V]) ∧ Below w.heap.size w w' := by
  have := offset_ok X Y N n w h hn
  rw [hU.out, hV.out] at this
  exact this
theorem half_bd {a : Int} (h : -600000000 ≤ a ∧ a ≤ 600000000) : -439400000 ≤ a.tdiv 2 ∧ a.tdiv 2 ≤ 439400000 := by
  have e := Int.mul_tdiv_add_tmod a 2
  have := Int.tmod_eq_emod (a := a) (b := 2)
  split at this <;> omega
theorem off_facts (X Y N n : Int) (h : vdB X Y N = true) (hn : -128 ≤ n ∧ n ≤ 127) : ∃ A B : Int, Hid (n * 16 * p65 (3 - N) * X = A) ∧ Hid (n * 16 * p65 (3 - N) * Y = B) ∧ Hid (A * A + B * B = n * 4394000 * (n * 4394000)) ∧ Hid (A.tmod 16 = 0 ∧ B.tmod 16 = 0) ∧
    Hid (-600000000 ≤ A ∧ A ≤ 600000000) ∧ Hid (-600000000 ≤ B ∧ B ≤ 600000000) ∧ Hid (-n * 16 * p65 (3 - N) * X = -A) ∧ Hid (-n * 16 * p65 (3 - N) * Y = -B) ∧ Hid (Hid (0 * 16 * p65 (3 - N) * X = 0) ∧ Hid (0 * 16 * p65 (3 - N) * Y = 0)) := by
  obtain ⟨⟨h0, h3⟩, _⟩ := vd_bd h
  have hl := vd_len h
  have e1 : n * 16 * p65 (3 - N) * X * (n * 16 * p65 (3 - N) * X) + n * 16 * p65 (3 - N) * Y * (n * 16 * p65 (3 - N) * Y) = n * 4394000 * (n * 4394000) := by
    have : n * 16 * p65 (3 - N) * X * (n * 16 * p65 (3 - N) * X) + n * 16 * p65 (3 - N) * Y * (n * 16 * p65 (3 - N) * Y) = n * n * 256 * (p65 (3 - N) * p65 (3 - N) * (X * X + Y * Y)) := by grind
    rw [this, hl]
    have k : p65 (3 - N) * p65 (3 - N) * p65 (2 * N) = 75418890625 := by
      have : N = 0 ∨ N = 1 ∨ N = 2 ∨ N = 3 := by omega
      rcases this with rfl | rfl | rfl | rfl <;> decide
    rw [k]; grind
  have nn := sq_bd (x := n) (B := 128) (by omega)
  have bound : ∀ a b : Int, a * a + b * b = n * 4394000 * (n * 4394000) → -600000000 ≤ a ∧ a ≤ 600000000 := fun a b e => by
    have h2 := sq_nn b
    have e2 : n * 4394000 * (n * 4394000) = n * n * 19307236000000 := by grind
    exact sq_le (by omega) (by omega)
  refine ⟨_, _, Lib.hid rfl, Lib.hid rfl, Lib.hid e1, Lib.hid ⟨?_, ?_⟩, Lib.hid (bound _ _ e1), Lib.hid (bound _ (n * 16 * p65 (3 - N) * X) (by rw [← e1]; grind)), Lib.hid (by grind), Lib.hid (by grind), Lib.hid ⟨Lib.hid (by grind), Lib.hid (by grind)⟩⟩
  · rw [show n * 16 * p65 (3 - N) * X = 16 * (n * p65 (3 - N) * X) by grind]; exact Int.mul_tmod_right _ _
  · rw [show n * 16 * p65 (3 - N) * Y = 16 * (n * p65 (3 - N) * Y) by grind]; exact Int.mul_tmod_right _ _

set_option maxRecDepth 100000 in
set_option maxHeartbeats 2000000 in
theorem walk {w0 : World} (a0 : Option Addr) (len0 cap0 : Nat) (z0 : List Int) (hr : IsRow .i64 w0 a0 len0 cap0 z0) (n : Int) (v1 : (Lit.int .i8 n).wf = true) (hT0 : Tab w0) :
    Calls Tryd.prog 8 #[.slice a0 len0 cap0, .int .i8 n] w0 fun e w' => e = .returned (.bool true) ∧ Below w0.heap.size w0 w' := by
  have rn := wf8 v1
  obtain ⟨rn1, rn2⟩ := rn
  have rn : -128 ≤ n ∧ n ≤ 127 := ⟨rn1, rn2⟩
  have hcap : len0 ≤ maxLen := by
    rcases hr with ⟨_, h2, _⟩ | ⟨x, _, h2, h3, _⟩
    · omega
    · omega
  have hcap2 := hcap
  unfold maxLen at hcap2
  have hB0 : Below w0.heap.size w0 w0 := Below.refl _ _
  by_cases hl : len0 ≤ 10
  · go_enter Tryd.func8, Tryd.ntmps8
    go_wp2_with fail
    refine (head_any _ (by repeat (first | exact hT0 | apply Tab.alloc))).mono ?_; rintro e w1 ⟨rfl, hb1⟩
    have hT1 : Tab w1 := Tab.below (by repeat (first | exact hT0 | apply Tab.alloc)) hb1
    obtain ⟨hc1, hf1⟩ := bcell hb1
    have hs1 : w0.heap.size + 0 ≤ w1.heap.size := by have := hb1.size; first | exact this | (simp at this; omega)
    have hB1 : Below w0.heap.size w0 w1 := hB0.trans (hb1.mono (by have := hB0.size; first | omega | (simp; done) | (simp; omega)))
    go_wp2_with fail
    refine (dir_short a0 len0 cap0 z0 _ (hr.below hB1) (by unfold maxLen; omega)).mono ?_; rintro e w2 ⟨X, Y, N, rfl, HV, hb2⟩
    have hT2 : Tab w2 := Tab.below (by repeat (first | exact hT1 | apply Tab.alloc)) hb2
    obtain ⟨hc2, hf2⟩ := bcell hb2
    have hs2 : w1.heap.size + 0 ≤ w2.heap.size := by have := hb2.size; first | exact this | (simp at this; omega)
    have hB2 : Below w0.heap.size w0 w2 := hB1.trans (hb2.mono (by have := hB1.size; first | omega | (simp; done) | (simp; omega)))
    obtain ⟨A, B, EA, EB, EL, ET, bA, bB, EM, EN, EZ⟩ := off_facts X Y N n HV rn
    have hv := Lib.hid HV
    clear HV
    obtain ⟨ha1, ha2⟩ := half_bd bA.out
    obtain ⟨ha3, ha4⟩ := half_bd bB.out
    obtain ⟨a1, a2⟩ := bA.out
    obtain ⟨b1, b2⟩ := bB.out
    go_wp2_with fail
    refine (offset_is X Y N n A B _ hv.out (by omega) EA EB).mono ?_; rintro e w3 ⟨rfl, hb3⟩
    have hT3 : Tab w3 := Tab.below (by repeat (first | exact hT2 | apply Tab.alloc)) hb3
    obtain ⟨hc3, hf3⟩ := bcell hb3
    have hs3 : w2.heap.size + 1 ≤ w3.heap.size := by have := hb3.size; first | exact this | (simp at this; omega)
    have hB3 : Below w0.heap.size w0 w3 := (hB2.alloc (by have := hB2.size; first | omega | (simp; done) | (simp; omega)) _).trans (hb3.mono (by have := hB2.size; first | omega | (simp; done) | (simp; omega)))
    have hz2_0_3 : w2.heap.size < w3.heap.size := by omega
    go_wp2_with fail
    refine (offset_is X Y N (-n) (-A) (-B) _ hv.out (by omega) EM EN).mono ?_; rintro e w4 ⟨rfl, hb4⟩
    have hT4 : Tab w4 := Tab.below (by repeat (first | exact hT3 | apply Tab.alloc)) hb4
    obtain ⟨hc4, hf4⟩ := bcell hb4
    have hs4 : w3.heap.size + 1 ≤ w4.heap.size := by have := hb4.size; first | exact this | (simp at this; omega)
    have hB4 : Below w0.heap.size w0 w4 := (hB3.alloc (by have := hB3.size; first | omega | (simp; done) | (simp; omega)) _).trans (hb4.mono (by have := hB3.size; first | omega | (simp; done) | (simp; omega)))
    have hz2_0_4 : w2.heap.size < w4.heap.size := by omega
    have hz3_0_4 : w3.heap.size < w4.heap.size := by omega
    go_wp2_with fail
    refine (offset_is X Y N 0 0 0 _ hv.out (by omega) EZ.out.1 EZ.out.2).mono ?_; rintro e w5 ⟨rfl, hb5⟩
    have hT5 : Tab w5 := Tab.below (by repeat (first | exact hT4 | apply Tab.alloc)) hb5
    obtain ⟨hc5, hf5⟩ := bcell hb5
    have hs5 : w4.heap.size + 1 ≤ w5.heap.size := by have := hb5.size; first | exact this | (simp at this; omega)
    have hB5 : Below w0.heap.size w0 w5 := (hB4.alloc (by have := hB4.size; first | omega | (simp; done) | (simp; omega)) _).trans (hb5.mono (by have := hB4.size; first | omega | (simp; done) | (simp; omega)))
    have hz2_0_5 : w2.heap.size < w5.heap.size := by omega
    have hz3_0_5 : w3.heap.size < w5.heap.size := by omega
    have hz4_0_5 : w4.heap.size < w5.heap.size := by omega
    go_wp2_with fail
    refine (may_yes _ _ _ ⟨ha1, ha2⟩ ⟨ha3, ha4⟩).mono ?_; rintro e w6 ⟨rfl, hb6⟩
    have hT6 : Tab w6 := Tab.below (by repeat (first | exact hT5 | apply Tab.alloc)) hb6
    obtain ⟨hc6, hf6⟩ := bcell hb6
    have hs6 : w5.heap.size + 1 ≤ w6.heap.size := by have := hb6.size; first | exact this | (simp at this; omega)
    have hB6 : Below w0.heap.size w0 w6 := (hB5.alloc (by have := hB5.size; first | omega | (simp; done) | (simp; omega)) _).trans (hb6.mono (by have := hB5.size; first | omega | (simp; done) | (simp; omega)))
    have hz2_0_6 : w2.heap.size < w6.heap.size := by omega
    have hz3_0_6 : w3.heap.size < w6.heap.size := by omega
    have hz4_0_6 : w4.heap.size < w6.heap.size := by omega
    have hz5_0_6 : w5.heap.size < w6.heap.size := by omega
    obtain ⟨i1, i2⟩ := sq_bd (x := A) (B := 600000000) ⟨a1, a2⟩
    obtain ⟨i3, i4⟩ := sq_bd (x := B) (B := 600000000) ⟨b1, b2⟩
    obtain ⟨i5, i6⟩ := sq_bd (x := n * 4394000) (B := 600000000) (by omega)
    have e1 : (A * A + B * B == n * 4394000 * (n * 4394000)) = true := by rw [EL.out]; simp
    obtain ⟨t1, t2⟩ := ET.out
    go_wp2_with fail
    go_ret
    exact ⟨rfl, hB6⟩
  · go_enter Tryd.func8, Tryd.ntmps8
    go_wp2_with fail
    refine (head_any _ (by repeat (first | exact hT0 | apply Tab.alloc))).mono ?_; rintro e w1 ⟨rfl, hb1⟩
    have hT1 : Tab w1 := Tab.below (by repeat (first | exact hT0 | apply Tab.alloc)) hb1
    obtain ⟨hc1, hf1⟩ := bcell hb1
    have hs1 : w0.heap.size + 0 ≤ w1.heap.size := by have := hb1.size; first | exact this | (simp at this; omega)
    have hB1 : Below w0.heap.size w0 w1 := hB0.trans (hb1.mono (by have := hB0.size; first | omega | (simp; done) | (simp; omega)))
    go_wp2_with fail
    go_ret
    exact ⟨rfl, hB1⟩

set_option maxRecDepth 100000 in
theorem lifted (os : Os) (started : os.Started) (H : Type) (enc : TypeId × Value → H) :
    ReturnsInHanded {} Tryd.checked os 8 .any (fun w args => (Rows.rotationOffsetLengthSpec.pre enc Tryd.prog Tryd.f8 [] false w args ∧ laidMetH Tryd.prog Rows.rotationOffsetLengthRow.laid w) ∧ sizedMet enc Tryd.prog Tryd.f8 (OpenSpec.ofChange Rows.rotationOffsetLengthSpec) false w args)
      (Rows.rotationOffsetLengthSpec.post enc Tryd.prog Tryd.f8 false true false false) := by
  refine returnsInHanded_of_change_and (C := Tryd.checked) (X := fun w _ => laidMetH Tryd.prog Rows.rotationOffsetLengthRow.laid w) (fun _ _ _ hh h => h.of_heap hh) own started (by kernel_rfl) Tryd.func8
    (ChangeSpec.witness_shaped (enc := enc) (C := Tryd.checked) (os := os) (X := fun w _ => laidMetH Tryd.prog Rows.rotationOffsetLengthRow.laid w) false (World.doorLaid Tryd.prog 600 os) #[.slice none 0 0, .int .i8 0] 8 rfl (World.shaped_of_RefB (by kernel_rfl) (by kernel_rfl)) (by kernel_rfl) (by kernel_rfl) (by kernel_rfl) (show laidMetH Tryd.prog [(qn, Rows.laid_ambidexter_rotation_quadrant)] _ from door_met os _)) ?_
  intro W base args ds gs before hval0 hW _ _ hL _
  have hval : ∀ (j : Nat) t v, Tryd.f8.params[j]? = some t → args[j]? = some v → Value.okWide Tryd.prog W .any base t v := hval0
  have hW' := hW
  obtain ⟨p, q, hA0, hV, rfl, hfz, hnd⟩ := hW
  have hA : DataW.TrodAll enc Tryd.prog W 0 (fun _ => true) true Tryd.f8.params.toList args.toList ds p := hA0
  rw [Tryd.params8] at hA hval
  obtain ⟨v0, vs0, d0, ds0, p0, q0, hargs, rfl, rfl, h0, r0⟩ := trodAll_cons hA
  obtain ⟨v1, vs1, d1, ds1, p1, q1, rfl, rfl, rfl, h1, r1⟩ := trodAll_cons r0
  obtain ⟨rfl, rfl, rfl⟩ := trodAll_nil r1
  obtain rfl : args = #[v0, v1] := by cases args; simp_all
  obtain ⟨rfl, rfl⟩ := trodVars_none hV
  obtain ⟨a0, len0, cap0, rfl⟩ := okWide_slice Tryd.underlying24 (hval 0 24 v0 rfl rfl)
  have k0 := h0
  have lt0 : ∀ x ∈ p0, x.block < W.heap.size := by obtain ⟨m, hm⟩ := k0; exact DataW.trod_lt m _ _ _ hm
  obtain ⟨z0, w0⟩ : ∃ zs, IsRow .i64 W a0 len0 cap0 zs := by
    obtain ⟨fuel, hf⟩ := h0
    rcases open_ints Tryd.underlying24 Tryd.underlying3 (by kernel_rfl) hf with ⟨hcs, _⟩ | ⟨x, l, c, zs, hcs, _, hl, hm, hz, _, hcell, hwz⟩
    · simp [Value.cells] at hcs
      obtain ⟨rfl, rfl, rfl⟩ := hcs
      exact ⟨[], .inl ⟨rfl, rfl, rfl, rfl⟩⟩
    · simp [Value.cells] at hcs
      obtain ⟨rfl, rfl, rfl⟩ := hcs
      exact ⟨zs, .inr ⟨_, rfl, hl, hm, by simpa using hz, hcell, hwz⟩⟩
  obtain ⟨a1, rfl, rfl, rfl, w1⟩ := open_int Tryd.underlying25 (hval 1 25 v1 rfl rfl) h1
  clear hA0 hval0
  simp only [List.append_nil] at hW'
  refine (walk a0 len0 cap0 z0 w0 a1 w1 (tab_of_laid hL)).mono fun e W' ⟨he, hg⟩ => ?_
  subst he
  exact ⟨_, rfl, _, _, _, [], _, [], hW', trodAll_mk1 (shut_bool Tryd.underlying4 _), (trodAll_cons_mk (Below.trod laidOut (by kernel_rfl) (of_decide_eq_true (by kernel_rfl)) k0 hg lt0) (trodAll_cons_mk (shut_int Tryd.underlying25 w1) trodAll_mk0)), rfl, hg.frame _, fun h => by cases h⟩

theorem holds : Rows.RotationOffsetLengthSaid :=
  OpenClaim.holds_of_wide 8 Tryd.f8 rfl rfl rfl rfl rfl rfl rfl ⟨rfl, rfl, rfl, rfl, rfl⟩ rfl rfl rfl rfl rfl (by kernel_rfl) Tryd.func8 (by kernel_rfl)
    (of_decide_eq_true (by kernel_rfl)) (by unfold Func.isWrapper; first | (rw [if_pos (by decide +kernel)]; kernel_rfl) | (rw [if_neg (by decide +kernel)]; exact ⟨rfl, rfl⟩))
    (fun os started H enc _ => lifted os started H enc)

/-- THE STATEMENT: the tied card. -/
theorem card_holds : Rows.RotationOffsetLengthCardSaid :=
  Claim7.holds_tied_plain_at .later [] [.data] true Rows.rotationOffsetLengthCard.stood.harness false
    holds (fun _ h => by cases h) (by kernel_rfl) (fun _ h => by cases h) rotationOffsetLength_row_tie rfl ⟨rfl, rfl⟩ (by kernel_rfl) rfl
    (fun f fn hf hfn => by
      obtain rfl : f = 8 := Option.some.inj ((show Tryd.prog.funcNamed Rows.rotationOffsetLengthRow.func = some 8 by kernel_rfl).symm.trans hf) |>.symm
      obtain rfl : fn = Tryd.f8 := (Option.some.inj (Tryd.func8.symm.trans hfn)).symm
      exact ⟨by kernel_rfl, fun j t ht => by
        rw [Tryd.params8] at ht
        have hm : t ∈ [24, 25] := by have := Array.mem_of_getElem? ht; simp only [List.mem_toArray, List.mem_cons, List.not_mem_nil, or_false] at this ⊢; grind
        have hall : ([24, 25].all fun u => !Tryd.prog.wantsStandIn u) = true := by kernel_rfl
        exact (show Tryd.prog.wantsStandIn t = false by simpa using List.all_eq_true.1 hall t hm)⟩)
    (by kernel_rfl)
#print axioms card_holds
end Go.Proofs.YtedhbcjlcgkocaaDoor.rotationOffsetLength
