/- Proved: the 36 rotations are just the integer points on the circle of radius 65 (the law RotationAllPairs returns true).
Conditions: none on the arguments: for all two int8. The table of package rotation lies as the program text lays it (the card ties it). -/
import Derived.Test.YtedhbcjlcgkocaaDoorLaw
import Derived.Test.YtedhbcjlcgkocaaDoorTie
import Derived.Test.YtedhbcjlcgkocaaDoorCards
import Derived.SevenTiedAt
namespace Go.Proofs.YtedhbcjlcgkocaaDoor.rotationAllPairs
open Go.ChangeShapes Go.WideShapes Go.ChangeAt Go.RowKit
set_option linter.unusedVariables false

/-- How many of the first n rotations are the pair (c, s). -/
def cnt (c s : Int) : Nat → Nat
  | 0 => 0
  | n + 1 => cnt c s n + if (csF n).1 = c ∧ (csF n).2 = s then 1 else 0
theorem cnt_succ (c s : Int) (n : Nat) : cnt c s (n + 1) = cnt c s n + if (csF n).1 = c ∧ (csF n).2 = s then 1 else 0 := rfl
theorem cnt_le (c s : Int) (n : Nat) : cnt c s n ≤ n := by
  induction n with
  | zero => exact Nat.le_refl _
  | succ n ih => unfold cnt; split <;> omega
theorem cnt_no (c s : Int) (h : ¬ c * c + s * s = 4225) : ∀ n, n ≤ 36 → cnt c s n = 0 := by
  intro n
  induction n with
  | zero => intro _; rfl
  | succ n ih =>
    intro hn
    unfold cnt
    rw [ih (by omega), if_neg (fun ⟨h1, h2⟩ => h (by rw [← h1, ← h2]; exact len65 n (by omega)))]
theorem all_pairs : ∀ i : Nat, i < 131 → ∀ j : Nat, j < 131 → ((i : Int) - 65) * ((i : Int) - 65) + ((j : Int) - 65) * ((j : Int) - 65) = 4225 → cnt ((i : Int) - 65) ((j : Int) - 65) 36 = 1 := by decide +kernel
theorem cnt_yes (c s : Int) (h : c * c + s * s = 4225) : cnt c s 36 = 1 := by
  have h1 := sq_nn c
  have h2 := sq_nn s
  have hc := sq_le (c := c) (B := 65) (by omega) (by omega)
  have hs := sq_le (c := s) (B := 65) (by omega) (by omega)
  have e1 : (((c + 65).toNat : Nat) : Int) - 65 = c := by omega
  have e2 : (((s + 65).toNat : Nat) : Int) - 65 = s := by omega
  have := all_pairs (c + 65).toNat (by omega) (s + 65).toNat (by omega)
  rw [e1, e2] at this
  exact this h

set_option maxHeartbeats 1000000 in
theorem walk (a0 : Int) (v0 : (Lit.int .i8 a0).wf = true) (a1 : Int) (v1 : (Lit.int .i8 a1).wf = true) (w0 : World) (hT0 : Tab w0) :
    Calls Tryd.prog 5 #[.int .i8 a0, .int .i8 a1] w0 fun e w' => e = .returned (.bool true) ∧ Below w0.heap.size w0 w' := by
  have hr : -128 ≤ a0 ∧ a0 ≤ 127 := by simp [Lit.wf, IntKind.min, IntKind.max, IntKind.bits, IntKind.signed] at v0; omega
  have hr' : -128 ≤ a1 ∧ a1 ≤ 127 := by simp [Lit.wf, IntKind.min, IntKind.max, IntKind.bits, IntKind.signed] at v1; omega
  obtain ⟨r1, r2⟩ := hr
  obtain ⟨r3, r4⟩ := hr'
  obtain ⟨m1, m2⟩ := mul_bd2 (x := a0) (c := a0) (B := 128) (C := 128) (by omega) (by omega)
  obtain ⟨m3, m4⟩ := mul_bd2 (x := a1) (c := a1) (B := 128) (C := 128) (by omega) (by omega)
  have hB0 : Below w0.heap.size w0 w0 := Below.refl _ _
  go_enter Tryd.func5, Tryd.ntmps5
  go_wp2_with fail
  refine (head_any _ (by repeat (first | exact hT0 | apply Tab.alloc))).mono ?_; rintro e w1 ⟨rfl, hb1⟩
  have hT1 : Tab w1 := Tab.below (by repeat (first | exact hT0 | apply Tab.alloc)) hb1
  have hB1 : Below w0.heap.size w0 w1 := hB0.trans (hb1.mono hB0.size)
  go_wp2_with fail
  go_loopw [6, 7] (fun m i wr => ∃ k : Nat, k ≤ 36 ∧ i = .int .i64 k ∧ m = .int .i64 (cnt a0 a1 k) ∧ Tab wr ∧ Below w0.heap.size w0 wr) (fun _ i _ => 36 - (intOf i).toNat)
  case atStart => exact ⟨0, by omega, rfl, rfl, hT1, hB1⟩
  case round =>
    obtain ⟨k, hk, rfl, rfl, hT2, hB2⟩ := hrel
    have hcl := cnt_le a0 a1 k
    by_cases hlt : k < 36
    · obtain ⟨c, s, E0⟩ : ∃ c s : Int, Hid (csF k = (c, s)) := ⟨_, _, Lib.hid rfl⟩
      have E : Hid (csF ((k : Int) % 36).toNat = (c, s)) := Lib.hid (by rw [show ((k : Int) % 36).toNat = k by omega]; exact E0.out)
      by_cases h1 : c = a0
      · by_cases h2 : s = a1
        · have N : Hid (cnt a0 a1 (k + 1) = cnt a0 a1 k + 1) := Lib.hid (by rw [cnt_succ, E0.out, if_pos ⟨h1, h2⟩])
          subst h1 h2
          go_wp2_with fail
          refine (cossin_is _ c s _ hT2 (by omega) E).mono ?_; rintro e w3 ⟨rfl, hb3⟩
          have hT3 : Tab w3 := Tab.below hT2 hb3
          have hB3 : Below w0.heap.size w0 w3 := hB2.trans (hb3.mono hB2.size)
          go_wp2_with fail
          go_roundw
          case rel => exact ⟨k + 1, by omega, by go_num, by rw [N.out]; go_num, hT3, hB3⟩
          case measure => simp [intOf]; omega
        · have N : Hid (cnt a0 a1 (k + 1) = cnt a0 a1 k) := Lib.hid (by rw [cnt_succ, E0.out, if_neg (fun h => h2 h.2), Nat.add_zero])
          have b2 : (s == a1) = false := by simpa using h2
          subst h1
          clear h2
          go_wp2_with fail
          refine (cossin_is _ c s _ hT2 (by omega) E).mono ?_; rintro e w3 ⟨rfl, hb3⟩
          have hT3 : Tab w3 := Tab.below hT2 hb3
          have hB3 : Below w0.heap.size w0 w3 := hB2.trans (hb3.mono hB2.size)
          go_wp2_with fail
          go_roundw
          case rel => exact ⟨k + 1, by omega, by go_num, by rw [N.out], hT3, hB3⟩
          case measure => simp [intOf]; omega
      · have N : Hid (cnt a0 a1 (k + 1) = cnt a0 a1 k) := Lib.hid (by rw [cnt_succ, E0.out, if_neg (fun h => h1 h.1), Nat.add_zero])
        have b1 : (c == a0) = false := by simpa using h1
        clear h1
        go_wp2_with fail
        refine (cossin_is _ c s _ hT2 (by omega) E).mono ?_; rintro e w3 ⟨rfl, hb3⟩
        have hT3 : Tab w3 := Tab.below hT2 hb3
        have hB3 : Below w0.heap.size w0 w3 := hB2.trans (hb3.mono hB2.size)
        go_wp2_with fail
        go_roundw
        case rel => exact ⟨k + 1, by omega, by go_num, by rw [N.out], hT3, hB3⟩
        case measure => simp [intOf]; omega
    · obtain rfl : k = 36 := by omega
      by_cases h4 : a0 * a0 + a1 * a1 = 4225
      · have hy := cnt_yes a0 a1 h4
        have b4 : (a0 * a0 + a1 * a1 == 4225) = true := by simpa using h4
        rw [hy]
        clear hy h4 hcl
        go_wp2_with fail
        go_ret
        exact ⟨rfl, hB2⟩
      · have hy := cnt_no a0 a1 h4 36 (by omega)
        have b4 : (a0 * a0 + a1 * a1 == 4225) = false := by simpa using h4
        rw [hy]
        clear hy h4 hcl
        go_wp2_with fail
        go_ret
        exact ⟨rfl, hB2⟩

set_option maxRecDepth 100000 in
theorem lifted (os : Os) (started : os.Started) (H : Type) (enc : TypeId × Value → H) :
    ReturnsInHanded {} Tryd.checked os 5 .any (fun w args => (Rows.rotationAllPairsSpec.pre enc Tryd.prog Tryd.f5 [] false w args ∧ laidMetH Tryd.prog Rows.rotationAllPairsRow.laid w) ∧ sizedMet enc Tryd.prog Tryd.f5 (OpenSpec.ofChange Rows.rotationAllPairsSpec) false w args)
      (Rows.rotationAllPairsSpec.post enc Tryd.prog Tryd.f5 false true false false) := by
  refine returnsInHanded_of_change_and (C := Tryd.checked) (X := fun w _ => laidMetH Tryd.prog Rows.rotationAllPairsRow.laid w) (fun _ _ _ hh h => h.of_heap hh) own started (by kernel_rfl) Tryd.func5
    (ChangeSpec.witness_shaped (enc := enc) (C := Tryd.checked) (os := os) (X := fun w _ => laidMetH Tryd.prog Rows.rotationAllPairsRow.laid w) false (World.doorLaid Tryd.prog 600 os) #[.int .i8 0, .int .i8 0] 8 rfl (World.shaped_of_RefB (by kernel_rfl) (by kernel_rfl)) (by kernel_rfl) (by kernel_rfl) (by kernel_rfl) (show laidMetH Tryd.prog [(qn, Rows.laid_ambidexter_rotation_quadrant)] _ from door_met os _)) ?_
  intro W base args ds gs before hval0 hW _ _ hL _
  have hval : ∀ (j : Nat) t v, Tryd.f5.params[j]? = some t → args[j]? = some v → Value.okWide Tryd.prog W .any base t v := hval0
  have hW' := hW
  obtain ⟨p, q, hA0, hV, rfl, hfz, hnd⟩ := hW
  have hA : DataW.TrodAll enc Tryd.prog W 0 (fun _ => true) true Tryd.f5.params.toList args.toList ds p := hA0
  rw [Tryd.params5] at hA hval
  obtain ⟨v0, vs0, d0, ds0, p0, q0, hargs, rfl, rfl, h0, r0⟩ := trodAll_cons hA
  obtain ⟨v1, vs1, d1, ds1, p1, q1, rfl, rfl, rfl, h1, r1⟩ := trodAll_cons r0
  obtain ⟨rfl, rfl, rfl⟩ := trodAll_nil r1
  obtain rfl : args = #[v0, v1] := by cases args; simp_all
  obtain ⟨rfl, rfl⟩ := trodVars_none hV
  obtain ⟨a0, rfl, rfl, rfl, w0⟩ := open_int Tryd.underlying25 (hval 0 25 v0 rfl rfl) h0
  obtain ⟨a1, rfl, rfl, rfl, w1⟩ := open_int Tryd.underlying25 (hval 1 25 v1 rfl rfl) h1
  clear hA0 hval0
  simp only [List.append_nil] at hW'
  refine (walk a0 w0 a1 w1 W (tab_of_laid hL)).mono fun e W' ⟨he, hg⟩ => ?_
  subst he
  exact ⟨_, rfl, _, _, _, [], _, [], hW', trodAll_mk1 (shut_bool Tryd.underlying4 _), (trodAll_cons_mk (shut_int Tryd.underlying25 w0) (trodAll_cons_mk (shut_int Tryd.underlying25 w1) trodAll_mk0)), rfl, hg.frame _, fun h => by cases h⟩

theorem holds : Rows.RotationAllPairsSaid :=
  OpenClaim.holds_of_wide 5 Tryd.f5 rfl rfl rfl rfl rfl rfl rfl ⟨rfl, rfl, rfl, rfl, rfl⟩ rfl rfl rfl rfl rfl (by kernel_rfl) Tryd.func5 (by kernel_rfl)
    (of_decide_eq_true (by kernel_rfl)) (by unfold Func.isWrapper; first | (rw [if_pos (by decide +kernel)]; kernel_rfl) | (rw [if_neg (by decide +kernel)]; exact ⟨rfl, rfl⟩))
    (fun os started H enc _ => lifted os started H enc)

/-- THE STATEMENT: the tied card. -/
theorem card_holds : Rows.RotationAllPairsCardSaid :=
  Claim7.holds_tied_plain_at .later [] [.data] true Rows.rotationAllPairsCard.stood.harness false
    holds (fun _ h => by cases h) (by kernel_rfl) (fun _ h => by cases h) rotationAllPairs_row_tie rfl ⟨rfl, rfl⟩ (by kernel_rfl) rfl
    (fun f fn hf hfn => by
      obtain rfl : f = 5 := Option.some.inj ((show Tryd.prog.funcNamed Rows.rotationAllPairsRow.func = some 5 by kernel_rfl).symm.trans hf) |>.symm
      obtain rfl : fn = Tryd.f5 := (Option.some.inj (Tryd.func5.symm.trans hfn)).symm
      exact ⟨by kernel_rfl, fun j t ht => by
        rw [Tryd.params5] at ht
        have hm : t ∈ [25] := by have := Array.mem_of_getElem? ht; simp only [List.mem_toArray, List.mem_cons, List.not_mem_nil, or_false] at this ⊢; grind
        have hall : ([25].all fun u => !Tryd.prog.wantsStandIn u) = true := by kernel_rfl
        exact (show Tryd.prog.wantsStandIn t = false by simpa using List.all_eq_true.1 hall t hm)⟩)
    (by kernel_rfl)
#print axioms card_holds
end Go.Proofs.YtedhbcjlcgkocaaDoor.rotationAllPairs
