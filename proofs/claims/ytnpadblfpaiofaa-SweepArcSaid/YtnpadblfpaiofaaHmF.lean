/- The reference's Of answers as the hull. -/
import Derived.Test.YtnpadblfpaiofaaHmE
namespace Go.Proofs.Ytnpadblfpaiofaa
open Go.ChangeShapes Go.WideShapes Go.ChangeAt Go.RowKit
set_option linter.unusedVariables false
set_option linter.unusedSimpArgs false

theorem pigeon : ∀ (R l : List (Int × Int)), R.Pairwise (· ≠ ·) → (∀ q ∈ R, q ∈ l) → R.length ≤ l.length
  | [], _, _, _ => Nat.zero_le _
  | r :: R, l, hp, hm => by
    rw [List.pairwise_cons] at hp
    have hr := hm r (by simp)
    have := pigeon R (l.erase r) hp.2 fun q hq => (List.mem_erase_of_ne fun e => hp.1 q hq e.symm).2 (hm q (by simp [hq]))
    rw [List.length_erase_of_mem hr] at this
    have := List.length_pos_of_mem hr
    simp only [List.length_cons]
    omega
theorem conv_nodup {h : List (Int × Int)} (hC : Conv h) : h.Pairwise (· ≠ ·) := List.pairwise_iff_getElem.2 fun i j hi hj hij e => by
  have := conv_inj hC hi hj (by rw [gp_lt hi, gp_lt hj]; exact e)
  omega
theorem low_ex : ∀ l : List (Int × Int), l ≠ [] → ∃ m ∈ l, ∀ q ∈ l, lle m q
  | [], h => absurd rfl h
  | [a], _ => ⟨a, by simp, fun q hq => by rw [List.mem_singleton.1 hq]; exact lle_refl _⟩
  | a :: b :: l, _ => by
    obtain ⟨m, hm, h⟩ := low_ex (b :: l) (by simp)
    rcases lle_total a m with g | g
    · refine ⟨a, by simp, fun q hq => ?_⟩
      rcases List.mem_cons.1 hq with rfl | hq
      · exact lle_refl _
      · exact lle_trans g (h q hq)
    · refine ⟨m, by simp only [List.mem_cons] at hm ⊢; exact .inr hm, fun q hq => ?_⟩
      rcases List.mem_cons.1 hq with rfl | hq
      · exact g
      · exact h q hq
theorem high_ex : ∀ l : List (Int × Int), l ≠ [] → ∃ m ∈ l, ∀ q ∈ l, lle q m
  | [], h => absurd rfl h
  | [a], _ => ⟨a, by simp, fun q hq => by rw [List.mem_singleton.1 hq]; exact lle_refl _⟩
  | a :: b :: l, _ => by
    obtain ⟨m, hm, h⟩ := high_ex (b :: l) (by simp)
    rcases lle_total m a with g | g
    · refine ⟨a, by simp, fun q hq => ?_⟩
      rcases List.mem_cons.1 hq with rfl | hq
      · exact lle_refl _
      · exact lle_trans (h q hq) g
    · refine ⟨m, by simp only [List.mem_cons] at hm ⊢; exact .inr hm, fun q hq => ?_⟩
      rcases List.mem_cons.1 hq with rfl | hq
      · exact g
      · exact h q hq
theorem conv_short {R : List (Int × Int)} (h : R.length < 3) : convB R = false := by unfold convB; rw [decide_eq_false (by omega)]; rfl
theorem ring_ex {l : List (Int × Int)} (h3 : 3 ≤ l.length) : ∃ R, Ring l R ∧ ∃ t, convB R = t ∧ hullL l = (if t then R else []) ∧ decide (hullL l ≠ []) = t := by
  have hne : l ≠ [] := fun e => by rw [e] at h3; simp at h3
  rcases hull_cases l with ⟨h0, hf⟩ | ⟨h0, hH⟩
  · obtain ⟨m, hm, hl⟩ := low_ex l hne
    obtain ⟨M, hM, hg⟩ := high_ex l hne
    by_cases e : m = M
    · subst e
      have hall : ∀ q ∈ l, q = m := fun q hq => lle_anti (hg q hq) (hl q hq)
      refine ⟨[m], ⟨by simp, by simp; omega, fun q hq => by rw [List.mem_singleton.1 hq]; exact hm, hl, fun i hi => ?_⟩, false, conv_short (by simp), by rw [h0]; rfl, by rw [h0]; rfl⟩
      obtain rfl : i = 0 := by simp at hi; omega
      exact ⟨by rw [show nx [m].length 0 = 0 by show nx 1 0 = 0; decide]; exact same_next hall, fun h => by omega⟩
    · obtain ⟨n1, n2⟩ := flat_next hf hm hM hl hg e
      refine ⟨[m, M], ⟨by simp, by simp; omega, fun q hq => by simp at hq; rcases hq with rfl | rfl; exact hm; exact hM, hl, fun i hi => ?_⟩, false, conv_short (by simp), by rw [h0]; rfl, by rw [h0]; rfl⟩
      have hi2 : i < 2 := hi
      rcases (by omega : i = 0 ∨ i = 1) with rfl | rfl
      · exact ⟨by rw [show nx [m, M].length 0 = 1 by show nx 2 0 = 1; decide]; exact n1, fun h => by omega⟩
      · exact ⟨by rw [show nx [m, M].length 1 = 0 by show nx 2 1 = 0; decide]; exact n2, fun _ h => e h.symm⟩
  · have hC := hH.1
    refine ⟨hullL l, ⟨by have := hC.1; omega, pigeon _ _ (conv_nodup hC) fun q hq => by obtain ⟨i, hi, e⟩ := mem_gp hq; rw [← e]; exact hH.2.1 i hi, fun q hq => by obtain ⟨i, hi, e⟩ := mem_gp hq; rw [← e]; exact hH.2.1 i hi, hull_first hH, fun i hi => ⟨hull_next hH hi, fun h e => by have := conv_inj hC hi (by omega) e; omega⟩⟩, true, (convB_iff _).2 hC, rfl, decide_eq_true h0⟩

theorem of4_is (ao : Option Addr) (n cap : Nat) (l us : List (Int × Int)) (t : Bool) (w : World) (hn : l.length = n) (hu : Hid (hullL l = us)) (ht : Hid (decide (us ≠ []) = t)) (h3 : 3 ≤ n) (hle : n ≤ 1000) (hP : PRow w ao l) (hV : AllV l) :
    Calls Try.prog 13 #[.slice ao n cap] w fun e w' => (∃ a c, e = .returned (.tuple #[.slice a us.length c, .bool t]) ∧ PRow w' a us) ∧ Below w.heap.size w w' := by
  obtain ⟨R, hR, s, h1, h2, h4⟩ := ring_ex (l := l) (by omega)
  have e := hu.out
  subst e
  obtain rfl : s = t := by rw [← ht.out, ← h4]
  exact of4_ring ao n cap l R (hullL l) s w hn hR (Lib.hid h1) (Lib.hid h2) h3 hle hP hV
set_option maxHeartbeats 1000000 in
theorem of4_small (ao : Option Addr) (n cap : Nat) (w : World) (h3 : n < 3) :
    Calls Try.prog 13 #[.slice ao n cap] w fun e w' => e = .returned (.tuple #[.slice none 0 0, .bool false]) ∧ Below w.heap.size w w' := by
  have h3i : (n : Int) < 3 := by omega
  go_enter Try.func13, Try.ntmps13
  go_wp2_with fail
  refine bodyPost_ret (v := .tuple #[.slice none 0 0, .bool false]) (by simp [results, Try.results13, go_sem]) rfl ?_
  exact ⟨rfl, Below.refl _ _⟩
end Go.Proofs.Ytnpadblfpaiofaa
