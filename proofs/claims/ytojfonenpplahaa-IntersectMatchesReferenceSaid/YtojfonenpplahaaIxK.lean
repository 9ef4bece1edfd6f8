/- Contracts of the reference of layer 5: Holds, Apart. Conditions: the slices read as the lists say; the coordinates are bounded as a valid polygon's. -/
import Derived.Test.YtojfonenpplahaaIxJ
namespace Go.Proofs.Ytojfonenpplahaa
open Go.ChangeShapes Go.WideShapes Go.ChangeAt Go.RowKit
set_option linter.unusedVariables false
set_option linter.unusedSimpArgs false

set_option maxHeartbeats 8000000 in
theorem holds_is (ao bo : Option Addr) (n m ca cb : Nat) (a b : List (Int × Int)) (o e : Int) (t : Bool) (w : World) (hn : a.length = n) (hm : b.length = m) (ht : Hid (isSepB a b o e = t)) (hle : n ≤ 12) (hle' : m ≤ 12) (hA : PRow w ao a) (hB : PRow w bo b) (va : AllV a) (vb : AllV b) :
    Calls Try.prog 30 #[.slice ao n ca, .slice bo m cb, .agg #[.int .i64 o, .int .i64 e]] w fun e w' => e = .returned (.bool t) ∧ Below w.heap.size w w' := by
  subst hn hm
  have PA := Lib.hid hA
  have PB := Lib.hid hB
  have VA := Lib.hid va
  have VB := Lib.hid vb
  clear hA hB va vb
  have ht' := ht.out
  clear ht
  unfold isSepB at ht'
  by_cases g0 : o = 0
  · subst g0
    rw [if_pos rfl] at ht'
    by_cases g1 : 0 ≤ e
    · by_cases g2 : e < (a.length : Int)
      · rw [decide_eq_true ⟨g1, g2⟩, Bool.true_and] at ht'
        obtain ⟨i, rfl⟩ := Int.eq_ofNat_of_zero_le g1
        have hi : i < a.length := by omega
        rw [show ((i : Nat) : Int).toNat = i by omega] at ht'
        have HT := Lib.hid ht'
        clear ht'
        go_enter Try.func30, Try.ntmps30
        go_wp2_with (go_at_call 66; refine (beyond_is ao bo a.length b.length ca cb i a b t _ rfl rfl HT hi hle hle' (prow_alloc PA.out _) (prow_alloc PB.out _) VA.out VB.out).mono ?_; rintro e w1 ⟨rfl, hb1⟩)
        go_ret
        exact ⟨rfl, belT (belA (Below.refl _ _) _) hb1⟩
      · rw [decide_eq_false (fun h => g2 h.2), Bool.false_and] at ht'
        subst ht'
        go_enter Try.func30, Try.ntmps30
        go_wp2_with fail
        go_ret
        exact ⟨rfl, belA (Below.refl _ _) _⟩
    · rw [decide_eq_false (fun h => g1 h.1), Bool.false_and] at ht'
      subst ht'
      go_enter Try.func30, Try.ntmps30
      go_wp2_with fail
      go_ret
      exact ⟨rfl, belA (Below.refl _ _) _⟩
  · rw [if_neg g0] at ht'
    have gb : (o == 0) = false := by rw [beq_eq_false_iff_ne]; exact g0
    by_cases g3 : o = 1
    · subst g3
      rw [if_pos rfl] at ht'
      clear g0 gb
      by_cases g1 : 0 ≤ e
      · by_cases g2 : e < (b.length : Int)
        · rw [decide_eq_true ⟨g1, g2⟩, Bool.true_and] at ht'
          obtain ⟨i, rfl⟩ := Int.eq_ofNat_of_zero_le g1
          have hi : i < b.length := by omega
          rw [show ((i : Nat) : Int).toNat = i by omega] at ht'
          have HT := Lib.hid ht'
          clear ht'
          go_enter Try.func30, Try.ntmps30
          go_wp2_with (go_at_call 66; refine (beyond_is bo ao b.length a.length cb ca i b a t _ rfl rfl HT hi hle' hle (prow_alloc PB.out _) (prow_alloc PA.out _) VB.out VA.out).mono ?_; rintro e w1 ⟨rfl, hb1⟩)
          go_ret
          exact ⟨rfl, belT (belA (Below.refl _ _) _) hb1⟩
        · rw [decide_eq_false (fun h => g2 h.2), Bool.false_and] at ht'
          subst ht'
          go_enter Try.func30, Try.ntmps30
          go_wp2_with fail
          go_ret
          exact ⟨rfl, belA (Below.refl _ _) _⟩
      · rw [decide_eq_false (fun h => g1 h.1), Bool.false_and] at ht'
        subst ht'
        go_enter Try.func30, Try.ntmps30
        go_wp2_with fail
        go_ret
        exact ⟨rfl, belA (Below.refl _ _) _⟩
    · rw [if_neg g3] at ht'
      have gc : (o == 1) = false := by rw [beq_eq_false_iff_ne]; exact g3
      subst ht'
      go_enter Try.func30, Try.ntmps30
      go_wp2_with fail
      go_ret
      exact ⟨rfl, belA (Below.refl _ _) _⟩
end Go.Proofs.Ytojfonenpplahaa
