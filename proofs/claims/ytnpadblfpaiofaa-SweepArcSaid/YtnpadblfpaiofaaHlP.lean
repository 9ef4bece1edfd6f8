/- Contracts of the reference's May; of fits and has. -/
import Derived.Test.YtnpadblfpaiofaaHlO
namespace Go.Proofs.Ytnpadblfpaiofaa
open Go.ChangeShapes Go.WideShapes Go.ChangeAt Go.RowKit
set_option linter.unusedVariables false
set_option linter.unusedSimpArgs false

def ptV (q : Int × Int) : Bool := decide (-439400000 ≤ q.1 ∧ q.1 ≤ 439400000 ∧ -439400000 ≤ q.2 ∧ q.2 ≤ 439400000)
def mayL (l : List (Int × Int)) : Bool := l.all ptV
theorem mayL_iff (l : List (Int × Int)) : mayL l = true ↔ AllV l := by
  rw [allV_iff]
  unfold mayL
  rw [List.all_eq_true]
  constructor
  · intro h q hq
    have := h q hq
    unfold ptV at this
    rw [decide_eq_true_eq] at this
    unfold InV; omega
  · intro h q hq
    have := h q hq
    unfold InV at this
    unfold ptV
    rw [decide_eq_true_eq]; omega
set_option maxHeartbeats 2000000 in
theorem may_is (ao : Option Addr) (n cap : Nat) (l : List (Int × Int)) (t : Bool) (w : World) (hn : l.length = n) (ht : Hid (mayL l = t)) (hle : n ≤ 9223372036854775807) (hP : PRow w ao l) :
    Calls Try.prog 38 #[.slice ao n cap] w fun e w' => e = .returned (.bool t) ∧ w = w' := by
  subst hn
  have HN := Lib.hid (fun (k : Nat) (hk : k < l.length) (h : ptV (cx l k, cy l k) = false) => (by
    rw [← ht.out]
    unfold mayL
    rw [List.all_eq_false]
    exact ⟨_, gp_mem hk, by rw [Bool.not_eq_true]; exact h⟩ : t = false))
  have HY := Lib.hid (fun (h : ∀ k, k < l.length → ptV (cx l k, cy l k) = true) => (by
    rw [← ht.out]
    exact List.all_eq_true.2 fun q hq => by
      obtain ⟨i, hi, e⟩ := mem_gp hq
      rw [← e]; exact h i hi : t = true))
  have HP := Lib.hid hP
  clear ht hP
  go_enter Try.func38, Try.ntmps38
  go_wp2
  go_loopw [4] (fun i wr => ∃ k : Nat, k ≤ l.length ∧ i = .int .i64 k ∧ (∀ j, j < k → ptV (cx l j, cy l j) = true) ∧ w = wr) (fun i _ => l.length - (intOf i).toNat)
  case atStart => exact ⟨0, Nat.zero_le _, rfl, fun j hj => by omega, rfl⟩
  case round =>
    obtain ⟨k, hk, rfl, hE, hw⟩ := hrel
    subst hw
    have HE := Lib.hid hE
    clear hE
    by_cases hlt : k < l.length
    · obtain ⟨b, o, rfl, c1, c2⟩ := prow_at HP.out hlt
      have HNK := Lib.hid (HN.out k hlt)
      have HIX := Lib.hid (show ∀ j, j < k + 1 → j ≠ k → ptV (cx l j, cy l j) = true from fun j hj hne => HE.out j (by omega))
      have hkl : (k : Int) < l.length := by omega
      have HPT : Hid (∀ x y, cx l k = x → cy l k = y → ptV (cx l k, cy l k) = decide (-439400000 ≤ x ∧ x ≤ 439400000 ∧ -439400000 ≤ y ∧ y ≤ 439400000)) := Lib.hid (fun x y hx hy => by rw [hx, hy]; rfl)
      obtain ⟨x, hx⟩ : ∃ x, cx l k = x := ⟨_, rfl⟩
      obtain ⟨y, hy⟩ : ∃ y, cy l k = y := ⟨_, rfl⟩
      have HV := Lib.hid (HPT.out x y hx hy)
      rw [hx] at c1
      rw [hy] at c2
      clear hx hy
      by_cases h1 : x < -439400000
      · have HF := Lib.hid (HNK.out (by rw [HV.out]; exact decide_eq_false (by omega)))
        go_wp2
        go_ret
        exact ⟨ret_bool HF.out.symm, rfl⟩
      by_cases h2 : 439400000 < x
      · have HF := Lib.hid (HNK.out (by rw [HV.out]; exact decide_eq_false (by omega)))
        go_wp2
        go_ret
        exact ⟨ret_bool HF.out.symm, rfl⟩
      by_cases h3 : y < -439400000
      · have HF := Lib.hid (HNK.out (by rw [HV.out]; exact decide_eq_false (by omega)))
        go_wp2
        go_ret
        exact ⟨ret_bool HF.out.symm, rfl⟩
      by_cases h4 : 439400000 < y
      · have HF := Lib.hid (HNK.out (by rw [HV.out]; exact decide_eq_false (by omega)))
        go_wp2
        go_ret
        exact ⟨ret_bool HF.out.symm, rfl⟩
      have HT := Lib.hid (show ptV (cx l k, cy l k) = true by rw [HV.out]; exact decide_eq_true (by omega))
      go_wp2
      go_roundw
      case rel => exact ⟨k + 1, by omega, by go_num, fun j hj => by
        by_cases e : j = k
        · rw [e]; exact HT.out
        · exact HIX.out j hj e, trivial⟩
      case measure => simp [intOf]; omega
    · have HF := Lib.hid (HY.out fun j hj => HE.out j (by omega))
      have hkl : ¬ (k : Int) < l.length := by omega
      go_wp2
      go_ret
      exact ⟨ret_bool HF.out.symm, rfl⟩

def fitsL (l : List (Int × Int)) : Bool := decide (l.length ≤ 40) && mayL l
theorem fitsL_iff (l : List (Int × Int)) : fitsL l = true ↔ l.length ≤ 40 ∧ AllV l := by unfold fitsL; rw [Bool.and_eq_true, decide_eq_true_eq, mayL_iff]
set_option maxHeartbeats 1000000 in
theorem fits_is (ao : Option Addr) (n cap : Nat) (l : List (Int × Int)) (t : Bool) (w : World) (hn : l.length = n) (ht : Hid (fitsL l = t)) (hle : n ≤ 9223372036854775807) (hP : PRow w ao l) :
    Calls Try.prog 11 #[.slice ao n cap] w fun e w' => e = .returned (.bool t) ∧ w = w' := by
  subst hn
  obtain ⟨s, hs⟩ : ∃ s, mayL l = s := ⟨_, rfl⟩
  have C := Lib.hid (may_is ao l.length cap l s w rfl (Lib.hid hs) hle hP)
  have ht' : Hid ((decide (l.length ≤ 40) && s) = t) := Lib.hid (by rw [← ht.out, ← hs]; rfl)
  clear hs ht hP
  by_cases h : l.length ≤ 40
  · have h' : (l.length : Int) ≤ 40 := by omega
    have E : Hid (s = t) := Lib.hid (by rw [← ht'.out, decide_eq_true h]; rfl)
    go_enter Try.func11, Try.ntmps11
    go_wp2_with (go_at_call 38; refine C.out.mono ?_; rintro e w1 ⟨rfl, rfl⟩)
    go_ret
    exact ⟨ret_bool E.out, rfl⟩
  · have h' : ¬ (l.length : Int) ≤ 40 := by omega
    have E : Hid (false = t) := Lib.hid (by rw [← ht'.out, decide_eq_false h]; rfl)
    go_enter Try.func11, Try.ntmps11
    go_wp2_with (go_at_call 38; refine C.out.mono ?_; rintro e w1 ⟨rfl, rfl⟩)
    go_ret
    exact ⟨ret_bool E.out, rfl⟩
end Go.Proofs.Ytnpadblfpaiofaa
