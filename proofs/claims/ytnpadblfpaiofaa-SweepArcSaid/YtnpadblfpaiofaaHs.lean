/- Helpers, merged: PolS PolV PolW -/
import Derived.Test.YtnpadblfpaiofaaHp
import Derived.Test.YtnpadblfpaiofaaHb
/- Contracts of the reference ambidexterref03: Cross, sign, between, On, Cut, At, Area2. The coordinates are bounded. -/
namespace Go.Proofs.Ytnpadblfpaiofaa
open Go.ChangeShapes Go.WideShapes Go.ChangeAt Go.RowKit
set_option linter.unusedVariables false
set_option linter.unusedSimpArgs false

theorem vdif {x y : Int} (hx : InV x) (hy : InV y) : -878800000 ≤ x - y ∧ x - y ≤ 878800000 := by unfold InV at *; omega
theorem vprod {x y : Int} (hx : -878800000 ≤ x ∧ x ≤ 878800000) (hy : -878800000 ≤ y ∧ y ≤ 878800000) : -772289440000000000 ≤ x * y ∧ x * y ≤ 772289440000000000 := by
  have := mul_bd hx hy
  omega
theorem ori_cmp (a b c d p q : Int) : ori a b c d p q = cmpI (det a b c d p q) 0 := by
  unfold ori det
  exact cmpI_same (by omega)

end Go.Proofs.Ytnpadblfpaiofaa


/- Contracts of the reference ambidexterref03: Area2, Right; and of little. Condition: the slice reads as the list says. -/
namespace Go.Proofs.Ytnpadblfpaiofaa
open Go.ChangeShapes Go.WideShapes Go.ChangeAt Go.RowKit
set_option linter.unusedVariables false
set_option linter.unusedSimpArgs false

theorem sum_bd {ps : List (Int × Int)} (hv : AllV ps) : ∀ k, k ≤ ps.length → -(386144720000000000 * (k : Int)) ≤ sumE (crossE ps) (List.range k) ∧ sumE (crossE ps) (List.range k) ≤ 386144720000000000 * (k : Int)
  | 0, _ => by simp [sumE]
  | k + 1, h => by
    have a := sum_bd hv k (by omega)
    have b := crossE_bd hv (i := k) (by omega)
    rw [List.range_succ, sumE_snoc]
    omega
theorem sum_next (ps : List (Int × Int)) (k : Nat) : sumE (crossE ps) (List.range (k + 1)) = sumE (crossE ps) (List.range k) + crossE ps k := by rw [List.range_succ, sumE_snoc]
theorem vprd {x y : Int} (hx : InV x) (hy : InV y) : -193072360000000000 ≤ x * y ∧ x * y ≤ 193072360000000000 := by
  have := mul_bd hx hy
  omega

theorem meet_small {ps : List (Int × Int)} {i k : Nat} (h : k ≤ i + 1) : meetB ps i k = false := by unfold meetB skipE; rw [decide_eq_true h]; rfl
theorem meet_skip {ps : List (Int × Int)} {i k : Nat} (h : nx ps.length k = i) : meetB ps i k = false := by unfold meetB skipE; rw [h]; simp
theorem meet_seg {ps : List (Int × Int)} {i k : Nat} (h1 : ¬ k ≤ i + 1) (h2 : nx ps.length k ≠ i) : meetB ps i k = segE ps i k := by
  unfold meetB skipE
  rw [decide_eq_false h1, show (nx ps.length k == i) = false by rw [beq_eq_false_iff_ne]; exact h2]
  rfl
theorem valid_no0 {ps : List (Int × Int)} (h : validC ps = false) : validP ps = false := by unfold validP; rw [h]; rfl
theorem valid_no1 {ps : List (Int × Int)} {i : Nat} (hi : i < ps.length) (h : oriE ps i = 0) : validP ps = false := by
  have : bendsB ps = false := by
    unfold bendsB
    rw [List.all_eq_false]
    exact ⟨i, List.mem_range.2 hi, by rw [h]; decide⟩
  unfold validP
  rw [this]
  simp
theorem valid_no2 {ps : List (Int × Int)} {i k : Nat} (hi : i < ps.length) (hk : k < ps.length) (h : meetB ps i k = true) : validP ps = false := by
  have : simpleB ps = false := by
    unfold simpleB
    rw [List.all_eq_false]
    refine ⟨i, List.mem_range.2 hi, ?_⟩
    rw [Bool.not_eq_true, List.all_eq_false]
    exact ⟨k, List.mem_range.2 hk, by rw [h]; decide⟩
  unfold validP
  rw [this]
  simp
theorem valid_area {ps : List (Int × Int)} (h1 : 3 ≤ ps.length) (h2 : ps.length ≤ 12) (h3 : AllV ps) (h4 : ∀ i, i < ps.length → oriE ps i ≠ 0 ∧ ∀ k, k < ps.length → meetB ps i k = false) : validP ps = decide (0 < area2 ps) := by
  unfold validP
  rw [(validC_iff ps).2 ⟨h1, h2, h3⟩, show bendsB ps = true from List.all_eq_true.2 fun i hi => by simpa using (h4 i (List.mem_range.1 hi)).1, show simpleB ps = true from List.all_eq_true.2 fun i hi => List.all_eq_true.2 fun k hk => by rw [(h4 i (List.mem_range.1 hi)).2 k (List.mem_range.1 hk)]; rfl]
  rfl

/-- Are all coordinates within 30 units? -/
def smallE (ps : List (Int × Int)) (i : Nat) : Bool := decide (131820000 < mxI (cx ps i) (cy ps i)) || decide (mnI (cx ps i) (cy ps i) < -131820000)
def littleB (ps : List (Int × Int)) : Bool := validP ps && !(List.range ps.length).any (smallE ps)
theorem littleB_iff (ps : List (Int × Int)) : littleB ps = true ↔ validP ps = true ∧ AllS ps := by
  have e : ∀ i, smallE ps i = false ↔ InS (cx ps i) ∧ InS (cy ps i) := fun i => by
    have a := mxI_bd (cx ps i) (cy ps i)
    have b := mnI_bd (cx ps i) (cy ps i)
    unfold smallE InS
    rw [Bool.or_eq_false_iff, decide_eq_false_iff_not, decide_eq_false_iff_not]
    omega
  unfold littleB AllS
  rw [Bool.and_eq_true, Bool.not_eq_true', List.any_eq_false]
  constructor
  · rintro ⟨h2, h3⟩
    exact ⟨h2, fun i hi => (e i).1 (by simpa using h3 i (List.mem_range.2 hi))⟩
  · rintro ⟨h2, h3⟩
    exact ⟨h2, fun i hi => by simpa using (e i).2 (h3 i (List.mem_range.1 hi))⟩

end Go.Proofs.Ytnpadblfpaiofaa


/- round of the laws of layer 3 once more: with the bounds of the capacity. -/
namespace Go.Proofs.Ytnpadblfpaiofaa
open Go.ChangeShapes Go.WideShapes Go.ChangeAt Go.RowKit
set_option linter.unusedVariables false
set_option linter.unusedSimpArgs false

theorem prow_own2 {w : World} {base : Nat} {e : TypeId} {v : Value} {l : List (Int × Int)} (hl : 0 < l.length) (h : w.ownsRow base e 2 v l.length (flat l)) : ∃ g cap, v = .slice (some ⟨g, 0, none⟩) l.length cap ∧ l.length ≤ cap ∧ cap ≤ maxLen ∧ PRow w (some ⟨g, 0, none⟩) l := by
  have h0 := h
  obtain ⟨_, ⟨rfl, hn⟩ | ⟨g, cap, cur, rfl, _, _, hc1, hc2, _⟩⟩ := h
  · omega
  · refine ⟨g, cap, rfl, hc1, hc2, fun i hi => ⟨g, 0, rfl, ?_, ?_⟩⟩
    · rw [Nat.zero_add, h0.cellAt (i * 2) (by omega)]; exact (flat_get l i hi).1
    · rw [Nat.zero_add, h0.cellAt (i * 2 + 1) (by omega)]; exact (flat_get l i hi).2
theorem prow_flat {w : World} {g o : Nat} {l : List (Int × Int)} (h : PRow w (some ⟨g, o, none⟩) l) : ∀ j u, (flat l)[j]? = some u → w.cell? ((⟨g, o, none⟩ : Addr).add j) = some u := fun j u hu => by
  have hj : j < (flat l).length := by
    rcases Nat.lt_or_ge j (flat l).length with k | k
    · exact k
    · rw [List.getElem?_eq_none k] at hu; cases hu
  rw [flat_len] at hj
  have ad : (⟨g, o, none⟩ : Addr).add j = ⟨g, o + j, none⟩ := by
    unfold Addr.add
    split
    · rename_i e; subst e; rfl
    · rfl
  rw [ad]
  obtain ⟨i, hi⟩ : ∃ i, i = j / 2 := ⟨_, rfl⟩
  obtain ⟨b, o', e, c1, c2⟩ := h i (by omega)
  cases e
  have fg := flat_get l i (by omega)
  by_cases k : j = i * 2
  · subst k
    rw [fg.1] at hu
    rw [c1]; exact hu
  · obtain rfl : j = i * 2 + 1 := by omega
    rw [fg.2] at hu
    rw [show o + (i * 2 + 1) = o + i * 2 + 1 by omega, c2]; exact hu
theorem prow_drop {w : World} {g o : Nat} {l : List (Int × Int)} (h : PRow w (some ⟨g, o, none⟩) l) (k : Nat) : PRow w (some ⟨g, o + k * 2, none⟩) (l.drop k) := fun i hi => by
  rw [List.length_drop] at hi
  obtain ⟨b, o', e, c1, c2⟩ := h (k + i) (by omega)
  cases e
  refine ⟨g, o + k * 2, rfl, ?_, ?_⟩
  · rw [show o + k * 2 + i * 2 = o + (k + i) * 2 by omega, c1, List.getD_eq_getElem?_getD, List.getD_eq_getElem?_getD, List.getElem?_drop]
  · rw [show o + k * 2 + i * 2 + 1 = o + (k + i) * 2 + 1 by omega, c2, List.getD_eq_getElem?_getD, List.getD_eq_getElem?_getD, List.getElem?_drop]
theorem flat_one (u : List (Int × Int)) : ∀ x ∈ flat u, x.oneCell' = true := by
  intro x hx
  unfold flat at hx
  obtain ⟨p, _, hp⟩ := List.mem_flatMap.1 hx
  simp at hp
  rcases hp with rfl | rfl <;> rfl
theorem le_of_own {a b n k : Nat} {c : Nat} (h : a ≤ b) (hk : (Value.slice (some ⟨b, 0, none⟩) n c).ownBlock = some k) : a ≤ k := by
  have : b = k := by simpa [Value.ownBlock] using hk
  omega
end Go.Proofs.Ytnpadblfpaiofaa


