/- Polygons meet exactly if some of their convex parts meet. Mathematics alone. -/
import Derived.Test.YtojfonenpplahaaIyA
namespace Go.Proofs.Ytojfonenpplahaa
open Go.ChangeShapes Go.WideShapes Go.ChangeAt Go.RowKit
set_option linter.unusedVariables false
set_option linter.unusedSimpArgs false

theorem dec_parts {ps : List (Int × Int)} (h : validP ps = true) : 0 < (decL ps).length ∧ (decL ps).length ≤ 12 ∧ (∀ t, t ∈ decL ps → Conv t ∧ t.length ≤ 12 ∧ AllV t) ∧ ∀ N p q : Int, 0 < N → (0 ≤ locE (scL N ps) p q ↔ ∃ t, t ∈ decL ps ∧ 0 ≤ locE (scL N t) p q) := by
  obtain ⟨h3, h12, hV⟩ := vparts h
  have hG : Good ps := (ccw_valid h).good
  cases hc : convB ps with
  | true =>
    rw [dec_conv hc]
    refine ⟨by simp, by simp, fun t ht => ?_, fun N p q hN => ⟨fun k => ⟨_, List.mem_singleton.2 rfl, k⟩, fun ⟨t, ht, k⟩ => by rw [List.mem_singleton.1 ht] at k; exact k⟩⟩
    rw [List.mem_singleton.1 ht]
    exact ⟨(convB_iff ps).1 hc, h12, hV⟩
  | false =>
    have hcl := dec_clips h hc
    have hl := clips_len hcl
    refine ⟨by omega, by omega, fun t ht => ?_, fun N p q hN => hcl.locN hG hN p q⟩
    obtain ⟨q1, q2, q3⟩ := hcl.part hG ht
    exact ⟨tri_conv3 q1 q2, by omega, allV_sub hV q3⟩
def pT (us vs : List (List (Int × Int))) (i k : Nat) : Bool := touchB (us.getD i []) (vs.getD k [])
def tR (us vs : List (List (Int × Int))) (i : Nat) : Bool := (List.range i).any fun i => (List.range vs.length).any (pT us vs i)
def tJ (us vs : List (List (Int × Int))) (i k : Nat) : Bool := tR us vs i || (List.range k).any (pT us vs i)
theorem tJ_zero (us vs : List (List (Int × Int))) (i : Nat) : tJ us vs i 0 = tR us vs i := by unfold tJ; simp
theorem tJ_succ (us vs : List (List (Int × Int))) (i k : Nat) : tJ us vs i (k + 1) = (tJ us vs i k || pT us vs i k) := by unfold tJ; rw [List.range_succ, List.any_append]; simp [Bool.or_assoc]
theorem tJ_all (us vs : List (List (Int × Int))) (i : Nat) : tJ us vs i vs.length = tR us vs (i + 1) := by unfold tJ tR; rw [List.range_succ, List.any_append]; simp
theorem mem_getD {l : List (List (Int × Int))} {k : Nat} (h : k < l.length) : l.getD k [] ∈ l := getD_mem' h
theorem getD_mem2 {l : List (List (Int × Int))} {t : List (Int × Int)} (h : t ∈ l) : ∃ k, k < l.length ∧ l.getD k [] = t := by
  obtain ⟨k, hk, e⟩ := List.mem_iff_getElem.1 h
  exact ⟨k, hk, by rw [List.getD_eq_getElem?_getD, List.getElem?_eq_getElem hk]; exact e⟩
theorem dec_touch {a b : List (Int × Int)} (hA : validP a = true) (hB : validP b = true) : touchB a b = tR (decL a) (decL b) (decL a).length := by
  obtain ⟨_, _, pa, la⟩ := dec_parts hA
  obtain ⟨_, _, pb, lb⟩ := dec_parts hB
  have gA := (ccw_valid hA).good
  have gB := (ccw_valid hB).good
  have hR : tR (decL a) (decL b) (decL a).length = true ↔ ∃ s, s ∈ decL a ∧ ∃ t, t ∈ decL b ∧ touchB s t = true := by
    unfold tR pT
    simp only [List.any_eq_true, List.mem_range]
    constructor
    · rintro ⟨i, hi, k, hk, e⟩
      exact ⟨_, mem_getD hi, _, mem_getD hk, e⟩
    · rintro ⟨s, hs, t, ht, e⟩
      obtain ⟨i, hi, rfl⟩ := getD_mem2 hs
      obtain ⟨k, hk, rfl⟩ := getD_mem2 ht
      exact ⟨i, hi, k, hk, e⟩
  rw [Bool.eq_iff_iff, hR, touch_both gA gB]
  constructor
  · rintro ⟨N, X, Y, hN, k1, k2⟩
    obtain ⟨s, hs, e1⟩ := (la N X Y hN).1 k1
    obtain ⟨t, ht, e2⟩ := (lb N X Y hN).1 k2
    exact ⟨s, hs, t, ht, touch_of (conv_good (pa s hs).1) (conv_good (pb t ht).1) ⟨N, X, Y, hN, e1, e2⟩⟩
  · rintro ⟨s, hs, t, ht, e⟩
    obtain ⟨N, X, Y, hN, e1, e2⟩ := both_of e
    exact ⟨N, X, Y, hN, (la N X Y hN).2 ⟨s, hs, e1⟩, (lb N X Y hN).2 ⟨t, ht, e2⟩⟩
end Go.Proofs.Ytojfonenpplahaa
