/- Helpers: what the law reaches. -/
import Derived.Test.YtalhkcmlacppjaaGreatDoorZlHi
namespace Go.Proofs.YtalhkcmlacppjaaGreatDoor
open Go.ChangeShapes Go.WideShapes Go.ChangeAt Go.RowKit
set_option linter.unusedVariables false
set_option linter.unusedSimpArgs false

theorem par_sum (ps : List (Int × Int)) (p q : Int) : ∀ l : List Nat, sumE (wEi ps p q) l % 2 = bi (parE (rayE ps p q) l)
  | [] => rfl
  | i :: l => by
    have ih := par_sum ps p q l
    have e : wEi ps p q i % 2 = bi (rayE ps p q i) := by
      unfold wEi wE rayE rayB
      split
      · cases upB (cx ps (nx ps.length i)) (cy ps (nx ps.length i)) (cx ps i) (cy ps i) p q <;> rfl
      · cases upB (cx ps i) (cy ps i) (cx ps (nx ps.length i)) (cy ps (nx ps.length i)) p q <;> rfl
    simp only [sumE, parE]
    revert e ih
    generalize rayE ps p q i = u
    generalize parE (rayE ps p q) l = v
    cases u <;> cases v <;> simp [bi] <;> omega
theorem loc_is (ps : List (Int × Int)) (p q : Int) : locE ps p q = if (List.range ps.length).any (onE ps p q) then 0 else if wnd ps p q % 2 = 1 then 1 else -1 := by
  have k := par_sum ps p q (List.range ps.length)
  unfold locE
  rw [sideF_par]
  unfold wnd
  rw [k]
  cases parE (rayE ps p q) (List.range ps.length) <;> simp [bi]
/-- A simple polygon, counterclockwise. -/
def Ccw (ps : List (Int × Int)) : Prop := Simp ps ∧ 0 < area2 ps
theorem ccw_valid {ps : List (Int × Int)} (h : validP ps = true) : Ccw ps := by
  refine ⟨simp_valid h, ?_⟩
  unfold validP at h
  rw [Bool.and_eq_true, Bool.and_eq_true, Bool.and_eq_true] at h
  simpa using h.2.2.2
theorem Ccw.sc {ps : List (Int × Int)} (h : Ccw ps) {N : Int} (hN : 0 < N) : Ccw (scL N ps) := ⟨h.1.sc hN, by rw [area_sc]; exact pp hN (pp hN h.2)⟩
theorem Ccw.wnd {ps : List (Int × Int)} (h : Ccw ps) (p q : Int) : wnd ps p q = 0 ∨ wnd ps p q = 1 := simp_wnd h.1 h.2 p q
/-- Inside an edge the winding number says the edge's direction. -/
theorem Ccw.edge {ps : List (Int × Int)} (h : Ccw ps) {e : Nat} (he : e < ps.length) {p q : Int} (hin : InE ps e p q) : Go.Proofs.YtalhkcmlacppjaaGreatDoor.wnd ps p q = dnEi ps e := by
  obtain ⟨R, hR⟩ := edges_val h.1
  have k := at_edge h.1 he (N := 1) (by omega) (p := p) (q := q) (by rw [scL_one]; exact hin)
  rw [scL_one, hR e he] at k
  rcases edges_R h.1 hR with rfl | rfl
  · omega
  · exfalso
    have := area_neg (ps := ps) (by have := h.1.1; omega) (fun N p q hN => by
      have := wnd_all (h.1.sc hN) (val_sc hR hN) p q
      omega)
    have := h.2
    omega
theorem tn_neg (x y : Int) : Tn (-65) 0 x y (-1 * x) (-1 * y) := by unfold Tn; omega
theorem neg_tn (ps : List (Int × Int)) : ∀ i, i < ps.length → Tn (-65) 0 (cx ps i) (cy ps i) (cx (scL (-1) ps) i) (cy (scL (-1) ps) i) := fun i _ => by
  rw [(scL_at (-1) ps i).1, (scL_at (-1) ps i).2]
  exact tn_neg _ _
theorem Ccw.neg {ps : List (Int × Int)} (h : Ccw ps) : Ccw (scL (-1) ps) := by
  obtain ⟨⟨h1, h2, h3⟩, h4⟩ := h
  have hcs : (-65 : Int) * -65 + 0 * 0 = 4225 := by decide
  refine ⟨⟨by rw [scL_len]; exact h1, fun i hi => ?_, fun i j hi hj hap => ?_⟩, by rw [tnL_area hcs (scL_len (-1) ps) (neg_tn ps)]; exact h4⟩
  · rw [scL_len] at hi ⊢
    rw [(scL_at (-1) ps i).1, (scL_at (-1) ps i).2, (scL_at (-1) ps _).1, (scL_at (-1) ps _).2, (scL_at (-1) ps _).1, (scL_at (-1) ps _).2]
    rcases h2 i hi with k | k
    · left
      intro e
      apply k
      rw [← e]
      unfold det
      grind
    · right
      have e : ∀ a b c d e f : Int, (-1 * a - -1 * b) * (-1 * c - -1 * b) + (-1 * d - -1 * e) * (-1 * f - -1 * e) = (a - b) * (c - b) + (d - e) * (f - e) := fun a b c d e f => by grind
      rw [e]
      exact k
  · rw [scL_len] at hi hj hap
    have t := neg_tn ps
    have := h3 i j hi hj hap
    unfold segE at this ⊢
    rw [scL_len, segB_tn hcs (t i hi) (t _ (nx_lt' hi)) (t j hj) (t _ (nx_lt' hj))]
    exact this
theorem loc_neg {ps : List (Int × Int)} (h0 : 0 < ps.length) (p q : Int) : locE (scL (-1) ps) (-1 * p) (-1 * q) = locE ps p q :=
  tnL_loc (c := -65) (s := 0) (by decide) h0 (scL_len (-1) ps) (neg_tn ps) (tn_neg p q)
theorem InE.neg {ps : List (Int × Int)} {e : Nat} (he : e < ps.length) {p q : Int} (h : InE ps e p q) : InE (scL (-1) ps) e (-1 * p) (-1 * q) := by
  obtain ⟨a, b, c⟩ := h
  have t := neg_tn ps
  refine ⟨?_, ?_, ?_⟩
  · unfold onE at a ⊢
    rw [scL_len, onB_tn (c := -65) (s := 0) (by decide) (t e he) (t _ (nx_lt' he)) (tn_neg p q)]
    exact a
  · rw [(scL_at (-1) ps e).1, (scL_at (-1) ps e).2]; omega
  · rw [scL_len, (scL_at (-1) ps _).1, (scL_at (-1) ps _).2]; omega
theorem dn_neg {ps : List (Int × Int)} (hs : Simp ps) {e : Nat} (he : e < ps.length) : dnEi (scL (-1) ps) e = 1 - dnEi ps e := by
  have nd := edge_nd hs he
  unfold dnEi dnE
  rw [scL_len, (scL_at (-1) ps e).1, (scL_at (-1) ps e).2, (scL_at (-1) ps _).1, (scL_at (-1) ps _).2]
  by_cases h : cy ps (nx ps.length e) < cy ps e ∨ cy ps e = cy ps (nx ps.length e) ∧ cx ps e < cx ps (nx ps.length e)
  · rw [if_pos h, if_neg (by omega)]; rfl
  · rw [if_neg h, if_pos (by omega)]; rfl
theorem any_on_sc {N : Int} (hN : 0 < N) (ps : List (Int × Int)) (p q : Int) : (List.range (scL N ps).length).any (onE (scL N ps) (N * p) (N * q)) = (List.range ps.length).any (onE ps p q) := by
  rw [scL_len]
  exact any_congr fun i _ => onE_sc hN ps p q i
theorem loc_sc {N : Int} (hN : 0 < N) (ps : List (Int × Int)) (p q : Int) : locE (scL N ps) (N * p) (N * q) = locE ps p q := by
  rw [loc_is, loc_is, any_on_sc hN, wnd_sc hN]
theorem loc_one' {ps : List (Int × Int)} (h : Ccw ps) {p q : Int} : locE ps p q = 1 ↔ (∀ i, i < ps.length → onE ps p q i = false) ∧ wnd ps p q = 1 := by
  rw [loc_is]
  have w := h.wnd p q
  constructor
  · intro k
    split at k
    · omega
    · rename_i hn
      rw [Bool.not_eq_true, List.any_eq_false] at hn
      refine ⟨fun i hi => by simpa using hn i (List.mem_range.2 hi), ?_⟩
      split at k <;> omega
  · rintro ⟨k1, k2⟩
    rw [if_neg, if_pos (by omega)]
    rw [Bool.not_eq_true, List.any_eq_false]
    exact fun i hi => by rw [k1 i (List.mem_range.1 hi)]; simp
theorem loc_zero {ps : List (Int × Int)} {p q : Int} : locE ps p q = 0 ↔ ∃ i, i < ps.length ∧ onE ps p q i = true := by
  rw [loc_is]
  constructor
  · intro k
    split at k
    · rename_i hn
      obtain ⟨i, hi, h⟩ := List.any_eq_true.1 hn
      exact ⟨i, List.mem_range.1 hi, h⟩
    · split at k <;> omega
  · rintro ⟨i, hi, h⟩
    rw [if_pos (List.any_eq_true.2 ⟨i, List.mem_range.2 hi, h⟩)]
theorem loc_three (ps : List (Int × Int)) (p q : Int) : locE ps p q = 0 ∨ locE ps p q = 1 ∨ locE ps p q = -1 := by
  rw [loc_is]
  split
  · exact .inl rfl
  · split
    · exact .inr (.inl rfl)
    · exact .inr (.inr rfl)
def esum (E : Int → Int → Int → Int → Int) (ps : List (Int × Int)) : Int := sumE (fun i => E (cx ps i) (cy ps i) (cx ps (nx ps.length i)) (cy ps (nx ps.length i))) (List.range ps.length)
theorem esum_open (E : Int → Int → Int → Int → Int) (ps : List (Int × Int)) (m : Nat) (h : ps.length = m + 1) : esum E ps = sumE (fun i => E (cx ps i) (cy ps i) (cx ps (i + 1)) (cy ps (i + 1))) (List.range m) + E (cx ps m) (cy ps m) (cx ps 0) (cy ps 0) := by
  unfold esum
  rw [h, List.range_succ, sumE_snoc]
  congr 1
  · exact sumE_congr fun i hi => by
      have hi := List.mem_range.1 hi
      rw [nx_small (by omega)]
  · rw [show nx (m + 1) m = 0 by unfold nx; exact Nat.mod_self _]
theorem sumE_split (f : Nat → Int) (a : Nat) : ∀ b, sumE f (List.range (a + b)) = sumE f (List.range a) + sumE (fun i => f (a + i)) (List.range b)
  | 0 => by simp [sumE]
  | b + 1 => by
    rw [← Nat.add_assoc, List.range_succ, sumE_snoc, List.range_succ, sumE_snoc, sumE_split f a b]
    omega
def oneL (us : List (Int × Int)) (k : Nat) : List (Int × Int) := us.take (k + 1)
def twoL (us : List (Int × Int)) (k : Nat) : List (Int × Int) := us.getD 0 (0, 0) :: us.drop k
theorem oneL_len {us : List (Int × Int)} {k : Nat} (h : k < us.length) : (oneL us k).length = k + 1 := by unfold oneL; rw [List.length_take]; omega
theorem twoL_len (us : List (Int × Int)) (k : Nat) : (twoL us k).length = us.length - k + 1 := by unfold twoL; rw [List.length_cons, List.length_drop]
theorem oneL_at {us : List (Int × Int)} {k i : Nat} (h : i ≤ k) : cx (oneL us k) i = cx us i ∧ cy (oneL us k) i = cy us i := by
  unfold cx cy oneL
  rw [List.getD_eq_getElem?_getD, List.getD_eq_getElem?_getD, List.getElem?_take_of_lt (by omega)]
  exact ⟨rfl, rfl⟩
theorem twoL_zero (us : List (Int × Int)) (k : Nat) : cx (twoL us k) 0 = cx us 0 ∧ cy (twoL us k) 0 = cy us 0 := ⟨rfl, rfl⟩
theorem twoL_at (us : List (Int × Int)) (k i : Nat) : cx (twoL us k) (i + 1) = cx us (k + i) ∧ cy (twoL us k) (i + 1) = cy us (k + i) := by
  unfold cx cy twoL
  rw [List.getD_cons_succ, List.getD_eq_getElem?_getD, List.getD_eq_getElem?_getD, List.getElem?_drop]
  exact ⟨rfl, rfl⟩
theorem cut_sum (E : Int → Int → Int → Int → Int) (hE : ∀ a b c d, E c d a b = -E a b c d) {us : List (Int × Int)} {k : Nat} (hk : k + 1 < us.length) : esum E us = esum E (oneL us k) + esum E (twoL us k) := by
  obtain ⟨m, hm⟩ : ∃ m, us.length = (k + m + 1) + 1 := ⟨us.length - k - 2, by omega⟩
  rw [esum_open E us (k + m + 1) hm, esum_open E (oneL us k) k (oneL_len (by omega)), esum_open E (twoL us k) (m + 1 + 1) (by rw [twoL_len]; omega)]
  have s0 : sumE (fun i => E (cx us i) (cy us i) (cx us (i + 1)) (cy us (i + 1))) (List.range (k + m + 1)) = sumE (fun i => E (cx us i) (cy us i) (cx us (i + 1)) (cy us (i + 1))) (List.range k) + sumE (fun i => E (cx us (k + i)) (cy us (k + i)) (cx us (k + i + 1)) (cy us (k + i + 1))) (List.range (m + 1)) := by
    rw [show k + m + 1 = k + (m + 1) by omega]
    exact sumE_split _ k (m + 1)
  have s1 : sumE (fun i => E (cx (oneL us k) i) (cy (oneL us k) i) (cx (oneL us k) (i + 1)) (cy (oneL us k) (i + 1))) (List.range k) = sumE (fun i => E (cx us i) (cy us i) (cx us (i + 1)) (cy us (i + 1))) (List.range k) := sumE_congr fun i hi => by
    have hi := List.mem_range.1 hi
    rw [(oneL_at (show i ≤ k by omega)).1, (oneL_at (show i ≤ k by omega)).2, (oneL_at (show i + 1 ≤ k by omega)).1, (oneL_at (show i + 1 ≤ k by omega)).2]
  have s2 : sumE (fun i => E (cx (twoL us k) i) (cy (twoL us k) i) (cx (twoL us k) (i + 1)) (cy (twoL us k) (i + 1))) (List.range (m + 1 + 1)) = E (cx us 0) (cy us 0) (cx us k) (cy us k) + sumE (fun i => E (cx us (k + i)) (cy us (k + i)) (cx us (k + i + 1)) (cy us (k + i + 1))) (List.range (m + 1)) := by
    rw [sumE_first]
    have h0 : E (cx (twoL us k) 0) (cy (twoL us k) 0) (cx (twoL us k) (0 + 1)) (cy (twoL us k) (0 + 1)) = E (cx us 0) (cy us 0) (cx us k) (cy us k) := by
      rw [(twoL_zero us k).1, (twoL_zero us k).2, (twoL_at us k 0).1, (twoL_at us k 0).2]
      rfl
    rw [h0]
    congr 1
    exact sumE_congr fun i hi => by
      rw [(twoL_at us k i).1, (twoL_at us k i).2, (twoL_at us k (i + 1)).1, (twoL_at us k (i + 1)).2]
      rfl
  rw [s0, s1, s2, (twoL_zero us k).1, (twoL_zero us k).2, (twoL_at us k (m + 1)).1, (twoL_at us k (m + 1)).2, (oneL_at (Nat.le_refl k)).1, (oneL_at (Nat.le_refl k)).2, (oneL_at (Nat.zero_le k)).1, (oneL_at (Nat.zero_le k)).2, hE (cx us 0) (cy us 0) (cx us k) (cy us k), show k + (m + 1) = k + m + 1 by omega]
  generalize sumE (fun i => E (cx us i) (cy us i) (cx us (i + 1)) (cy us (i + 1))) (List.range k) = S
  generalize sumE (fun i => E (cx us (k + i)) (cy us (k + i)) (cx us (k + i + 1)) (cy us (k + i + 1))) (List.range (m + 1)) = T
  omega
theorem wE_rev (a b c d p q : Int) : wE c d a b p q = -wE a b c d p q := by
  unfold wE
  rcases Int.lt_trichotomy b d with h | h | h
  · rw [if_pos h, if_neg (by omega)]
  · subst h
    rw [if_neg (by omega), if_neg (by omega)]
    have z : ∀ x y : Int, upB x b y b p q = false := fun x y => by
      unfold upB
      by_cases g : b ≤ q
      · rw [decide_eq_false (show ¬ q < b by omega), Bool.and_false, Bool.false_and]
      · rw [decide_eq_false g, Bool.false_and, Bool.false_and]
    rw [z, z]; rfl
  · rw [if_neg (by omega), if_pos h]; omega
theorem cut_wnd {us : List (Int × Int)} {k : Nat} (hk : k + 1 < us.length) (p q : Int) : wnd us p q = wnd (oneL us k) p q + wnd (twoL us k) p q :=
  cut_sum (fun a b c d => wE a b c d p q) (fun a b c d => wE_rev a b c d p q) hk
theorem cut_area {us : List (Int × Int)} {k : Nat} (hk : k + 1 < us.length) : area2 us = area2 (oneL us k) + area2 (twoL us k) :=
  cut_sum (fun a b c d => a * d - b * c) (fun a b c d => by grind) hk
theorem oneL_sc (M : Int) (us : List (Int × Int)) (k : Nat) : scL M (oneL us k) = oneL (scL M us) k := by unfold scL oneL; rw [List.map_take]
theorem twoL_sc (M : Int) {us : List (Int × Int)} (k : Nat) (h0 : 0 < us.length) : scL M (twoL us k) = twoL (scL M us) k := by
  cases us with
  | nil => simp at h0
  | cons x l =>
    unfold scL twoL
    rw [List.map_cons, List.map_drop]
    rfl
theorem cut_HW {us : List (Int × Int)} {k : Nat} (hk : k + 1 < us.length) (M p q : Int) : wnd (scL M us) p q = wnd (scL M (oneL us k)) p q + wnd (scL M (twoL us k)) p q := by
  rw [oneL_sc, twoL_sc M k (by omega)]
  exact cut_wnd (by rw [scL_len]; exact hk) p q
/-- The edges of the parts: the polygon's, and the cut. -/
theorem one_on {us : List (Int × Int)} {k : Nat} (hk : k + 1 < us.length) {p q : Int} {e : Nat} (he : e < (oneL us k).length) (h : onE (oneL us k) p q e = true) : e = k ∨ onE us p q e = true := by
  rw [oneL_len (by omega)] at he
  by_cases g : e = k
  · exact .inl g
  · right
    unfold onE at h ⊢
    rw [oneL_len (by omega), nx_small (by omega), (oneL_at (show e ≤ k by omega)).1, (oneL_at (show e ≤ k by omega)).2, (oneL_at (show e + 1 ≤ k by omega)).1, (oneL_at (show e + 1 ≤ k by omega)).2] at h
    rw [nx_small (by omega)]
    exact h
theorem two_on {us : List (Int × Int)} {k : Nat} (hk : k + 1 < us.length) {p q : Int} {e : Nat} (he : e < (twoL us k).length) (h : onE (twoL us k) p q e = true) : e = 0 ∨ onE us p q (k + e - 1) = true := by
  rw [twoL_len] at he
  cases e with
  | zero => exact .inl rfl
  | succ e =>
    right
    rw [show k + (e + 1) - 1 = k + e by omega]
    unfold onE at h ⊢
    by_cases g : e + 1 = us.length - k
    · rw [twoL_len, g, show nx (us.length - k + 1) (us.length - k) = 0 by unfold nx; exact Nat.mod_self _, ← g, (twoL_at us k e).1, (twoL_at us k e).2, (twoL_zero us k).1, (twoL_zero us k).2] at h
      rw [show nx us.length (k + e) = 0 by unfold nx; rw [show k + e + 1 = us.length by omega]; exact Nat.mod_self _]
      exact h
    · rw [twoL_len, nx_small (by omega), (twoL_at us k e).1, (twoL_at us k e).2, (twoL_at us k (e + 1)).1, (twoL_at us k (e + 1)).2] at h
      rw [nx_small (by omega)]
      exact h
theorem us_on {us : List (Int × Int)} {k : Nat} (hk : k + 1 < us.length) {p q : Int} {i : Nat} (hi : i < us.length) (h : onE us p q i = true) : (∃ e, e < (oneL us k).length ∧ onE (oneL us k) p q e = true) ∨ ∃ e, e < (twoL us k).length ∧ onE (twoL us k) p q e = true := by
  unfold onE at h
  by_cases g : i < k
  · left
    refine ⟨i, by rw [oneL_len (by omega)]; omega, ?_⟩
    unfold onE
    rw [oneL_len (by omega), nx_small (by omega), (oneL_at (show i ≤ k by omega)).1, (oneL_at (show i ≤ k by omega)).2, (oneL_at (show i + 1 ≤ k by omega)).1, (oneL_at (show i + 1 ≤ k by omega)).2]
    rw [nx_small (by omega)] at h
    exact h
  · right
    obtain ⟨e, rfl⟩ : ∃ e, i = k + e := ⟨i - k, by omega⟩
    refine ⟨e + 1, by rw [twoL_len]; omega, ?_⟩
    unfold onE
    by_cases g : k + e + 1 = us.length
    · rw [twoL_len, show nx (us.length - k + 1) (e + 1) = 0 by unfold nx; rw [show e + 1 + 1 = us.length - k + 1 by omega]; exact Nat.mod_self _, (twoL_at us k e).1, (twoL_at us k e).2, (twoL_zero us k).1, (twoL_zero us k).2]
      rw [show nx us.length (k + e) = 0 by unfold nx; rw [g]; exact Nat.mod_self _] at h
      exact h
    · rw [twoL_len, nx_small (by omega), (twoL_at us k e).1, (twoL_at us k e).2, (twoL_at us k (e + 1)).1, (twoL_at us k (e + 1)).2]
      rw [nx_small (by omega)] at h
      exact h
end Go.Proofs.YtalhkcmlacppjaaGreatDoor


namespace Go.Proofs.YtalhkcmlacppjaaGreatDoor
open Go.ChangeShapes Go.WideShapes Go.ChangeAt Go.RowKit
set_option linter.unusedVariables false
set_option linter.unusedSimpArgs false

/-- The signed crossing of the segment (a, b) - (c, d) by the ray from the origin in direction (u, v). -/
def rdS (u v a b c d : Int) : Int := if hiB u v a b = hiB u v c d then 0 else if hiB u v c d then bi (decide (0 < a * d - b * c)) else -bi (decide (a * d - b * c < 0))
theorem rdS_abs {fP fQ gP gQ D K : Int} (e : fP * gQ - fQ * gP = K * D) (hK : 0 < K) (hD : D ≠ 0) :
    (if decide (0 < fP) = decide (0 < fQ) then 0 else if decide (0 < fQ) then bi (decide (0 < D)) else -bi (decide (D < 0))) - (if decide (0 < gP) = decide (0 < gQ) then 0 else if decide (0 < gQ) then bi (decide (0 < D)) else -bi (decide (D < 0))) = bi (decide (0 < fQ) && !decide (0 < gQ)) - bi (decide (0 < fP) && !decide (0 < gP)) := by
  have s1 := sgn_facts fP gQ
  have s2 := sgn_facts fQ gP
  have s3 : (0 < D ∧ 0 < K * D) ∨ (D < 0 ∧ K * D < 0) := by
    rcases Int.lt_trichotomy D 0 with h | h | h
    · exact .inr ⟨h, pn hK h⟩
    · exact absurd h hD
    · exact .inl ⟨h, pp hK h⟩
  generalize fP * gQ = m1 at *
  generalize fQ * gP = m2 at *
  generalize K * D = m3 at *
  have bt : bi true = 1 := rfl
  have bf : bi false = 0 := rfl
  rcases s3 with ⟨d1, d2⟩ | ⟨d1, d2⟩
  · rw [decide_eq_true d1, decide_eq_false (show ¬ D < 0 by omega)]
    by_cases h1 : 0 < fP <;> by_cases h2 : 0 < fQ <;> by_cases h3 : 0 < gP <;> by_cases h4 : 0 < gQ <;> simp [h1, h2, h3, h4, bt, bf] <;> omega
  · rw [decide_eq_true d1, decide_eq_false (show ¬ 0 < D by omega)]
    by_cases h1 : 0 < fP <;> by_cases h2 : 0 < fQ <;> by_cases h3 : 0 < gP <;> by_cases h4 : 0 < gQ <;> simp [h1, h2, h3, h4, bt, bf] <;> omega
theorem rdS_key {u v x y a b c d : Int} (hK : 0 < u * y - v * x) (hon : ¬ (a * d - b * c = 0 ∧ a * c + b * d ≤ 0)) :
    rdS u v a b c d - rdS x y a b c d = bi (coB u v x y c d) - bi (coB u v x y a b) := by
  by_cases hD : a * d - b * c = 0
  · have hd : 0 < a * c + b * d := by omega
    unfold rdS coB
    rw [hi_par (u := u) (v := v) hD hd, hi_par (u := x) (v := y) hD hd]
    simp
  · unfold rdS coB hiB
    exact rdS_abs (K := u * y - v * x) (by grind) hK hD
def relS (ps : List (Int × Int)) (p q u v : Int) (i : Nat) : Int := rdS u v (cx ps i - p) (cy ps i - q) (cx ps (nx ps.length i) - p) (cy ps (nx ps.length i) - q)
theorem dirS (ps : List (Int × Int)) (h0 : 0 < ps.length) {p q u v x y : Int} (hK : 0 < u * y - v * x) (h : ∀ i, i < ps.length → onE ps p q i = false) : sumE (relS ps p q u v) (List.range ps.length) = sumE (relS ps p q x y) (List.range ps.length) := by
  have k := sum_round (fun i => bi (coB u v x y (cx ps i - p) (cy ps i - q))) ps.length h0
  have e : sumE (fun i => relS ps p q u v i - relS ps p q x y i) (List.range ps.length) = sumE (fun i => bi (coB u v x y (cx ps (nx ps.length i) - p) (cy ps (nx ps.length i) - q)) - bi (coB u v x y (cx ps i - p) (cy ps i - q))) (List.range ps.length) :=
    sumE_congr fun i hi => rdS_key hK (not_on (h i (List.mem_range.1 hi)))
  rw [sumE_sub] at e
  have k' : sumE (fun i => bi (coB u v x y (cx ps (nx ps.length i) - p) (cy ps (nx ps.length i) - q)) - bi (coB u v x y (cx ps i - p) (cy ps i - q))) (List.range ps.length) = 0 := k
  omega
theorem wE_rdS (a b c d p q : Int) : wE a b c d p q = rdS 1 0 (a - p) (b - q) (c - p) (d - q) := by
  have hd : det a b c d p q = (a - p) * (d - q) - (b - q) * (c - p) := by unfold det; grind
  unfold wE rdS hiB upB
  rw [ori_pos, ori_pos, det_rev, hd]
  generalize (a - p) * (d - q) - (b - q) * (c - p) = D
  rw [show (1 : Int) * (b - q) - 0 * (a - p) = b - q by omega, show (1 : Int) * (d - q) - 0 * (c - p) = d - q by omega]
  rw [show decide (0 < b - q) = decide (q < b) from decide_eq_decide.2 (by omega), show decide (0 < d - q) = decide (q < d) from decide_eq_decide.2 (by omega), show decide (0 < -D) = decide (D < 0) from decide_eq_decide.2 (by omega)]
  by_cases h : d < b
  · rw [if_pos h]
    by_cases h1 : q < b
    · by_cases h2 : q < d
      · rw [decide_eq_false (show ¬ d ≤ q by omega), decide_eq_true h1, decide_eq_true h2]; simp [bi]
      · rw [decide_eq_true (show d ≤ q by omega), decide_eq_true h1, decide_eq_false h2]; simp
    · rw [decide_eq_false h1, decide_eq_false (show ¬ q < d by omega)]; simp [bi]
  · rw [if_neg h]
    by_cases h2 : q < d
    · by_cases h1 : q < b
      · rw [decide_eq_false (show ¬ b ≤ q by omega), decide_eq_true h1, decide_eq_true h2]; simp [bi]
      · rw [decide_eq_true (show b ≤ q by omega), decide_eq_false h1, decide_eq_true h2]; simp
    · rw [decide_eq_false h2, decide_eq_false (show ¬ q < b by omega)]; simp [bi]
theorem rdS_neg (u v a b c d : Int) : rdS u v (-a) (-b) (-c) (-d) = rdS (-u) (-v) a b c d := by
  unfold rdS hiB
  rw [show u * -b - v * -a = -u * b - -v * a by grind, show u * -d - v * -c = -u * d - -v * c by grind, show -a * -d - -b * -c = a * d - b * c by grind]
/-- The other way round a point off the edges has the same winding number. -/
theorem wnd_neg {ps : List (Int × Int)} (h0 : 0 < ps.length) {p q : Int} (h : ∀ i, i < ps.length → onE ps p q i = false) : wnd (scL (-1) ps) (-1 * p) (-1 * q) = wnd ps p q := by
  have e1 : wnd ps p q = sumE (relS ps p q 1 0) (List.range ps.length) := by
    unfold wnd
    exact sumE_congr fun i _ => wE_rdS _ _ _ _ _ _
  have e2 : wnd (scL (-1) ps) (-1 * p) (-1 * q) = sumE (relS ps p q (-1) 0) (List.range ps.length) := by
    unfold wnd
    rw [scL_len]
    exact sumE_congr fun i _ => by
      unfold wEi relS
      rw [scL_len, (scL_at (-1) ps i).1, (scL_at (-1) ps i).2, (scL_at (-1) ps _).1, (scL_at (-1) ps _).2, wE_rdS]
      rw [show -1 * cx ps i - -1 * p = -(cx ps i - p) by omega, show -1 * cy ps i - -1 * q = -(cy ps i - q) by omega, show -1 * cx ps (nx ps.length i) - -1 * p = -(cx ps (nx ps.length i) - p) by omega, show -1 * cy ps (nx ps.length i) - -1 * q = -(cy ps (nx ps.length i) - q) by omega, rdS_neg]
      rfl
  rw [e1, e2, dirS ps h0 (u := 1) (v := 0) (x := 0) (y := 1) (by omega) h, dirS ps h0 (u := 0) (v := 1) (x := -1) (y := 0) (by omega) h]
/-- A simple polygon that winds nought or one time. -/
def Good (ps : List (Int × Int)) : Prop := Simp ps ∧ ∀ e, e < ps.length → vE ps e = dnEi ps e
theorem Ccw.good {ps : List (Int × Int)} (h : Ccw ps) : Good ps := by
  refine ⟨h.1, fun e he => ?_⟩
  have k := at_edge h.1 he (N := 2) (by omega) (mid_in h.1 he)
  have m := (h.sc (N := 2) (by omega)).edge (e := e) (by rw [scL_len]; exact he) (mid_in h.1 he)
  rw [dnEi_sc (by omega)] at m
  omega
theorem Good.wnd {ps : List (Int × Int)} (h : Good ps) (p q : Int) : wnd ps p q = 0 ∨ wnd ps p q = 1 := by
  have := wnd_all h.1 (R := 0) (fun e he => by rw [h.2 e he]; omega) p q
  omega
theorem Good.sc {ps : List (Int × Int)} (h : Good ps) {N : Int} (hN : 0 < N) : Good (scL N ps) := ⟨h.1.sc hN, fun e he => by
  rw [scL_len] at he
  rw [vE_sc hN, dnEi_sc hN]
  exact h.2 e he⟩
theorem Good.edge {ps : List (Int × Int)} (h : Good ps) {e : Nat} (he : e < ps.length) {p q : Int} (hin : InE ps e p q) : Go.Proofs.YtalhkcmlacppjaaGreatDoor.wnd ps p q = dnEi ps e := by
  have k := at_edge h.1 he (N := 1) (by omega) (p := p) (q := q) (by rw [scL_one]; exact hin)
  rw [scL_one, h.2 e he] at k
  exact k
theorem Simp.neg {ps : List (Int × Int)} (h : Simp ps) : Simp (scL (-1) ps) := by
  obtain ⟨h1, h2, h3⟩ := h
  have hcs : (-65 : Int) * -65 + 0 * 0 = 4225 := by decide
  refine ⟨by rw [scL_len]; exact h1, fun i hi => ?_, fun i j hi hj hap => ?_⟩
  · rw [scL_len] at hi ⊢
    rw [(scL_at (-1) ps i).1, (scL_at (-1) ps i).2, (scL_at (-1) ps _).1, (scL_at (-1) ps _).2, (scL_at (-1) ps _).1, (scL_at (-1) ps _).2]
    rcases h2 i hi with k | k
    · left
      intro e
      apply k
      rw [← e]
      unfold det
      grind
    · right
      have e : ∀ a b c d e f : Int, (-1 * a - -1 * b) * (-1 * c - -1 * b) + (-1 * d - -1 * e) * (-1 * f - -1 * e) = (a - b) * (c - b) + (d - e) * (f - e) := fun a b c d e f => by grind
      rw [e]
      exact k
  · rw [scL_len] at hi hj hap
    have t := neg_tn ps
    have := h3 i j hi hj hap
    unfold segE at this ⊢
    rw [scL_len, segB_tn hcs (t i hi) (t _ (nx_lt' hi)) (t j hj) (t _ (nx_lt' hj))]
    exact this
/-- Some edge goes down, or to the right. -/
theorem some_down {ps : List (Int × Int)} (hs : Simp ps) : ∃ e, e < ps.length ∧ dnEi ps e = 1 := by
  have h0 : 0 < ps.length := by have := hs.1; omega
  have key : ∀ n, 0 < n → ∃ f, f < n ∧ ∀ i, i < n → cy ps i < cy ps f ∨ (cy ps i = cy ps f ∧ cx ps f ≤ cx ps i) := by
    intro n
    induction n with
    | zero => intro h; omega
    | succ n ih =>
      intro _
      by_cases z : n = 0
      · subst z
        exact ⟨0, by omega, fun i hi => by obtain rfl : i = 0 := by omega
                                           right; omega⟩
      · obtain ⟨f, hf, hm⟩ := ih (by omega)
        by_cases g : cy ps n < cy ps f ∨ (cy ps n = cy ps f ∧ cx ps f ≤ cx ps n)
        · exact ⟨f, by omega, fun i hi => by
            by_cases e : i = n
            · subst e; exact g
            · exact hm i (by omega)⟩
        · exact ⟨n, by omega, fun i hi => by
            by_cases e : i = n
            · subst e; right; omega
            · have := hm i (by omega); omega⟩
  obtain ⟨f, hf, hm⟩ := key ps.length h0
  refine ⟨f, hf, ?_⟩
  have nd := edge_nd hs hf
  have m := hm _ (nx_lt' hf)
  unfold dnEi dnE
  rw [if_pos (by omega)]
/-- A generic point beside an edge: off all edges, where all is scaled, with the edge's value. -/
theorem beside {ps : List (Int × Int)} (hs : Simp ps) {e : Nat} (he : e < ps.length) : ∃ N p q : Int, 0 < N ∧ (∀ i, i < (scL N ps).length → onE (scL N ps) p q i = false) ∧ wnd (scL N ps) p q = vE ps e := by
  obtain ⟨m, h0, hm⟩ := ex_bd (fun i => cx (scL 2 ps) (nx (scL 2 ps).length i) - cx (scL 2 ps) i) (fun i => cy (scL 2 ps) (nx (scL 2 ps).length i) - cy (scL 2 ps) i) (scL 2 ps).length
  obtain ⟨M, hM⟩ : ∃ M : Int, m * m + m + 2 ≤ M := ⟨_, Int.le_refl _⟩
  have mm : 0 ≤ m * m := sq_nn m
  have hM2 : 2 ≤ M := by omega
  refine ⟨M * 2, M * (cx ps e + cx ps (nx ps.length e)) + m, M * (cy ps e + cy ps (nx ps.length e)) + 1, by omega, ?_, ?_⟩
  · rw [← scL_scL]
    exact fun i hi => shift_off h0 hM hm hi _ _
  · rw [← scL_scL, shift_wnd h0 hM hm]
    rfl
end Go.Proofs.YtalhkcmlacppjaaGreatDoor


namespace Go.Proofs.YtalhkcmlacppjaaGreatDoor
open Go.ChangeShapes Go.WideShapes Go.ChangeAt Go.RowKit
set_option linter.unusedVariables false
set_option linter.unusedSimpArgs false

theorem Good.neg {ps : List (Int × Int)} (h : Good ps) : Good (scL (-1) ps) := by
  have hs' := h.1.neg
  obtain ⟨R, hR⟩ := edges_val hs'
  rcases edges_R hs' hR with rfl | rfl
  · exact ⟨hs', fun e he => by rw [hR e he]; omega⟩
  · exfalso
    obtain ⟨e, he, hd⟩ := some_down h.1
    obtain ⟨N, p, q, hN, off, w⟩ := beside h.1 he
    rw [h.2 e he, hd] at w
    have k := wnd_neg (ps := scL N ps) (by rw [scL_len]; omega) off
    rw [scL_scL, Int.mul_comm (-1) N, ← scL_scL, w] at k
    have := wnd_all (hs'.sc hN) (val_sc hR hN) (-1 * p) (-1 * q)
    omega
theorem loc_oneG {ps : List (Int × Int)} (h : Good ps) {p q : Int} : locE ps p q = 1 ↔ (∀ i, i < ps.length → onE ps p q i = false) ∧ wnd ps p q = 1 := by
  rw [loc_is]
  have w := h.wnd p q
  constructor
  · intro k
    split at k
    · omega
    · rename_i hn
      rw [Bool.not_eq_true, List.any_eq_false] at hn
      refine ⟨fun i hi => by simpa using hn i (List.mem_range.2 hi), ?_⟩
      split at k <;> omega
  · rintro ⟨k1, k2⟩
    rw [if_neg, if_pos (by omega)]
    rw [Bool.not_eq_true, List.any_eq_false]
    exact fun i hi => by rw [k1 i (List.mem_range.1 hi)]; simp
/-- What is inside one part lies on no edge of the other: inside an edge. -/
theorem exclG_in {us A B : List (Int × Int)} (hU : Good us) (hA : Good A) (hB : Good B) (HW : ∀ M p q, wnd (scL M us) p q = wnd (scL M A) p q + wnd (scL M B) p q) {p q : Int} (h1 : locE A p q = 1) {g : Nat} (hg : g < B.length) (hin : InE B g p q) : False := by
  have a := ((loc_oneG hA).1 h1).2
  have u := hU.wnd p q
  have w := HW 1 p q
  rw [scL_one, scL_one, scL_one, hB.edge hg hin] at w
  have a' := ((loc_oneG hA.neg).1 (by rw [loc_neg (by have := hA.1.1; omega)]; exact h1)).2
  have u' := hU.neg.wnd (-1 * p) (-1 * q)
  have w' := HW (-1) (-1 * p) (-1 * q)
  rw [hB.neg.edge (by rw [scL_len]; exact hg) (hin.neg hg), dn_neg hB.1 hg] at w'
  omega
theorem exclG {us A B : List (Int × Int)} (hU : Good us) (hA : Good A) (hB : Good B) (HW : ∀ M p q, wnd (scL M us) p q = wnd (scL M A) p q + wnd (scL M B) p q) {p q : Int} (h1 : locE A p q = 1) {g : Nat} (hg : g < B.length) (hon : onE B p q g = true) : False := by
  by_cases hc : ∃ f, f < B.length ∧ p = cx B f ∧ q = cy B f
  · obtain ⟨f, hf, rfl, rfl⟩ := hc
    have off := ((loc_oneG hA).1 h1).1
    obtain ⟨N0, hN0⟩ := ex_all (P := fun _ => True) (R := fun i N => segB (N * cx A i) (N * cy A i) (N * cx A (nx A.length i)) (N * cy A (nx A.length i)) (N * cx B f + 0) (N * cy B f + 0) (N * cx B f + (cx B (nx B.length f) - cx B f)) (N * cy B f + (cy B (nx B.length f) - cy B f)) = false) A.length (fun i hi _ => far_seg (off i hi) _ _ _ _)
    obtain ⟨N, hN, hNN⟩ : ∃ N : Int, 2 ≤ N ∧ N0 ≤ N := ⟨N0.natAbs + 2, by omega⟩
    have hfree := hN0 N hNN (by omega)
    have yin := near_in' hB.1 hf hN
    have st := loc_stays (scL N A) (by rw [scL_len]; have := hA.1.1; omega) (x1 := N * cx B f) (x2 := N * cy B f) (y1 := cx B (nx B.length f) - cx B f + N * cx B f) (y2 := cy B (nx B.length f) - cy B f + N * cy B f) (fun i hi => by
      rw [scL_len] at hi
      have := hfree i hi trivial
      rw [scL_len, (scL_at N A i).1, (scL_at N A i).2, (scL_at N A _).1, (scL_at N A _).2]
      rwa [Int.add_zero, Int.add_zero, Int.add_comm (N * cx B f), Int.add_comm (N * cy B f)] at this) (by rw [loc_sc (N := N) (by omega)]; exact h1)
    exact exclG_in (hU.sc (N := N) (by omega)) (hA.sc (N := N) (by omega)) (hB.sc (N := N) (by omega)) (fun M p q => by rw [scL_scL, scL_scL, scL_scL]; exact HW (M * N) p q) st (by rw [scL_len]; exact hf) yin
  · exact exclG_in hU hA hB HW h1 hg ⟨hon, fun h => hc ⟨g, hg, h⟩, fun h => hc ⟨_, nx_lt' hg, h⟩⟩

/-- A polygon cut in two: a point is in it exactly if it is in one of the parts, and inside at most one. -/
theorem cut_locG {us : List (Int × Int)} {k : Nat} (hk0 : 0 < k) (hk : k + 1 < us.length) (hU : Good us) (h1 : Good (oneL us k)) (h2 : Good (twoL us k)) (p q : Int) :
    (locE (oneL us k) p q < 1 ∨ locE (twoL us k) p q < 0) ∧ (locE (twoL us k) p q < 1 ∨ locE (oneL us k) p q < 0) ∧ (0 ≤ locE us p q ↔ (0 ≤ locE (oneL us k) p q ∨ 0 ≤ locE (twoL us k) p q)) := by
  have HW := cut_HW hk
  have HW' : ∀ M p q, wnd (scL M us) p q = wnd (scL M (twoL us k)) p q + wnd (scL M (oneL us k)) p q := fun M p q => by rw [HW]; omega
  have w := cut_wnd hk p q
  have t1 := loc_three (oneL us k) p q
  have t2 := loc_three (twoL us k) p q
  have t3 := loc_three us p q
  have e1 : locE (oneL us k) p q = 1 → locE (twoL us k) p q ≠ 0 := fun a b => by
    obtain ⟨g, hg, ho⟩ := loc_zero.1 b
    exact exclG hU h1 h2 HW a hg ho
  have e2 : locE (twoL us k) p q = 1 → locE (oneL us k) p q ≠ 0 := fun a b => by
    obtain ⟨g, hg, ho⟩ := loc_zero.1 b
    exact exclG hU h2 h1 HW' a hg ho
  have e3 : locE (oneL us k) p q = 1 → locE (twoL us k) p q ≠ 1 := fun a b => by
    have a := ((loc_oneG h1).1 a).2
    have b := ((loc_oneG h2).1 b).2
    have := hU.wnd p q
    omega
  refine ⟨by omega, by omega, ?_⟩
  by_cases hon : locE us p q = 0
  · obtain ⟨i, hi, ho⟩ := loc_zero.1 hon
    have : locE (oneL us k) p q = 0 ∨ locE (twoL us k) p q = 0 := (us_on hk hi ho).imp (fun h => loc_zero.2 h) (fun h => loc_zero.2 h)
    omega
  · have off : ∀ i, i < us.length → onE us p q i = false := fun i hi => by
      cases g : onE us p q i with
      | false => rfl
      | true => exact absurd (loc_zero.2 ⟨i, hi, g⟩) hon
    have nc : ∀ i, i < us.length → ¬ (p = cx us i ∧ q = cy us i) := fun i hi => by
      rintro ⟨rfl, rfl⟩
      have := off i hi
      unfold onE at this
      rw [on_first] at this
      cases this
    have chord : onE (oneL us k) p q k = true ∨ onE (twoL us k) p q 0 = true → locE us p q = 1 := fun h => by
      have cl1 : nx (oneL us k).length k = 0 := by rw [oneL_len (by omega)]; unfold nx; exact Nat.mod_self _
      have cl2 : nx (twoL us k).length 0 = 1 := by rw [twoL_len]; exact nx_small (by omega)
      have o1 : onB (cx us k) (cy us k) (cx us 0) (cy us 0) p q = true := by
        rcases h with h | h
        · unfold onE at h
          rw [cl1, (oneL_at (Nat.le_refl k)).1, (oneL_at (Nat.le_refl k)).2, (oneL_at (Nat.zero_le k)).1, (oneL_at (Nat.zero_le k)).2] at h
          exact h
        · unfold onE at h
          rw [cl2, (twoL_zero us k).1, (twoL_zero us k).2, (twoL_at us k 0).1, (twoL_at us k 0).2, Nat.add_zero] at h
          rw [← onB_rev]
          exact h
      have i1 : InE (oneL us k) k p q := by
        refine ⟨?_, ?_, ?_⟩
        · unfold onE
          rw [cl1, (oneL_at (Nat.le_refl k)).1, (oneL_at (Nat.le_refl k)).2, (oneL_at (Nat.zero_le k)).1, (oneL_at (Nat.zero_le k)).2]
          exact o1
        · rw [(oneL_at (Nat.le_refl k)).1, (oneL_at (Nat.le_refl k)).2]
          exact nc k (by omega)
        · rw [cl1, (oneL_at (Nat.zero_le k)).1, (oneL_at (Nat.zero_le k)).2]
          exact nc 0 (by omega)
      have i2 : InE (twoL us k) 0 p q := by
        refine ⟨?_, ?_, ?_⟩
        · unfold onE
          rw [cl2, (twoL_zero us k).1, (twoL_zero us k).2, (twoL_at us k 0).1, (twoL_at us k 0).2, Nat.add_zero, ← onB_rev]
          exact o1
        · rw [(twoL_zero us k).1, (twoL_zero us k).2]
          exact nc 0 (by omega)
        · rw [cl2, (twoL_at us k 0).1, (twoL_at us k 0).2, Nat.add_zero]
          exact nc k (by omega)
      have v1 := h1.edge (by rw [oneL_len (by omega)]; omega) i1
      have v2 := h2.edge (by rw [twoL_len]; omega) i2
      have nd := edge_nd h1.1 (e := k) (by rw [oneL_len (by omega)]; omega)
      unfold dnEi at v1 v2
      rw [cl1, (oneL_at (Nat.le_refl k)).1, (oneL_at (Nat.le_refl k)).2, (oneL_at (Nat.zero_le k)).1, (oneL_at (Nat.zero_le k)).2] at v1 nd
      rw [cl2, (twoL_zero us k).1, (twoL_zero us k).2, (twoL_at us k 0).1, (twoL_at us k 0).2, Nat.add_zero] at v2
      have s : dnE (cx us k) (cy us k) (cx us 0) (cy us 0) + dnE (cx us 0) (cy us 0) (cx us k) (cy us k) = 1 := by
        unfold dnE
        by_cases h : cy us 0 < cy us k ∨ cy us k = cy us 0 ∧ cx us k < cx us 0
        · rw [if_pos h, if_neg (by omega)]; rfl
        · rw [if_neg h, if_pos (by omega)]; rfl
      exact (loc_oneG hU).2 ⟨off, by omega⟩
    by_cases z1 : locE (oneL us k) p q = 0
    · obtain ⟨e, he, ho⟩ := loc_zero.1 z1
      rcases one_on hk he ho with rfl | h
      · have := chord (.inl ho); omega
      · rw [oneL_len (by omega)] at he
        rw [off e (by omega)] at h; cases h
    · by_cases z2 : locE (twoL us k) p q = 0
      · obtain ⟨e, he, ho⟩ := loc_zero.1 z2
        rcases two_on hk he ho with rfl | h
        · have := chord (.inr ho); omega
        · rw [twoL_len] at he
          rw [off _ (by omega)] at h; cases h
      · have a1 : locE (oneL us k) p q = 1 ↔ wnd (oneL us k) p q = 1 := ⟨fun h => ((loc_oneG h1).1 h).2, fun h => (loc_oneG h1).2 ⟨fun i hi => by
          cases g : onE (oneL us k) p q i with
          | false => rfl
          | true => exact absurd (loc_zero.2 ⟨i, hi, g⟩) z1, h⟩⟩
        have a2 : locE (twoL us k) p q = 1 ↔ wnd (twoL us k) p q = 1 := ⟨fun h => ((loc_oneG h2).1 h).2, fun h => (loc_oneG h2).2 ⟨fun i hi => by
          cases g : onE (twoL us k) p q i with
          | false => rfl
          | true => exact absurd (loc_zero.2 ⟨i, hi, g⟩) z2, h⟩⟩
        have a3 : locE us p q = 1 ↔ wnd us p q = 1 := ⟨fun h => ((loc_oneG hU).1 h).2, fun h => (loc_oneG hU).2 ⟨off, h⟩⟩
        have b1 := h1.wnd p q
        have b2 := h2.wnd p q
        have b3 := hU.wnd p q
        omega
end Go.Proofs.YtalhkcmlacppjaaGreatDoor


namespace Go.Proofs.YtalhkcmlacppjaaGreatDoor
open Go.ChangeShapes Go.WideShapes Go.ChangeAt Go.RowKit
set_option linter.unusedVariables false
set_option linter.unusedSimpArgs false

/-- A point of a segment with no end to the right of a line. -/
theorem on_nonneg {a b c d x1 x2 y1 y2 p q : Int} (h : onB x1 x2 y1 y2 p q = true) (hx : 0 ≤ det a b c d x1 x2) (hy : 0 ≤ det a b c d y1 y2) : 0 ≤ det a b c d p q := by
  have e : ∀ x y : Int, det a b c d x y = -(d - b) * x + (c - a) * y + ((d - b) * a - (c - a) * b) := fun x y => by unfold det; grind
  have := on_pos (-(d - b)) (c - a) ((d - b) * a - (c - a) * b + 1) h (by have := e x1 x2; omega) (by have := e y1 y2; omega)
  have := e p q
  omega
def triL (u1 u2 v1 v2 w1 w2 : Int) : List (Int × Int) := [(u1, u2), (v1, v2), (w1, w2)]
section
variable (u1 u2 v1 v2 w1 w2 : Int)
theorem det_cyc (a b c d e f : Int) : det c d e f a b = det a b c d e f := by unfold det; grind
theorem tri_sum (p q : Int) : det u1 u2 v1 v2 p q + det v1 v2 w1 w2 p q + det w1 w2 u1 u2 p q = det u1 u2 v1 v2 w1 w2 := by unfold det; grind
theorem tri_bary1 (p q : Int) : det u1 u2 v1 v2 w1 w2 * p = det v1 v2 w1 w2 p q * u1 + det w1 w2 u1 u2 p q * v1 + det u1 u2 v1 v2 p q * w1 := by unfold det; grind
theorem tri_bary2 (p q : Int) : det u1 u2 v1 v2 w1 w2 * q = det v1 v2 w1 w2 p q * u2 + det w1 w2 u1 u2 p q * v2 + det u1 u2 v1 v2 p q * w2 := by unfold det; grind
theorem tri_len : (triL u1 u2 v1 v2 w1 w2).length = 3 := rfl
theorem tri_at : (cx (triL u1 u2 v1 v2 w1 w2) 0 = u1 ∧ cy (triL u1 u2 v1 v2 w1 w2) 0 = u2) ∧ (cx (triL u1 u2 v1 v2 w1 w2) 1 = v1 ∧ cy (triL u1 u2 v1 v2 w1 w2) 1 = v2) ∧ cx (triL u1 u2 v1 v2 w1 w2) 2 = w1 ∧ cy (triL u1 u2 v1 v2 w1 w2) 2 = w2 := ⟨⟨rfl, rfl⟩, ⟨rfl, rfl⟩, rfl, rfl⟩
theorem nx3 : nx 3 0 = 1 ∧ nx 3 1 = 2 ∧ nx 3 2 = 0 := by unfold nx; omega
theorem tri_on (p q : Int) : (onE (triL u1 u2 v1 v2 w1 w2) p q 0 = onB u1 u2 v1 v2 p q) ∧ (onE (triL u1 u2 v1 v2 w1 w2) p q 1 = onB v1 v2 w1 w2 p q) ∧ onE (triL u1 u2 v1 v2 w1 w2) p q 2 = onB w1 w2 u1 u2 p q := by
  unfold onE
  rw [tri_len, nx3.1, nx3.2.1, nx3.2.2]
  exact ⟨rfl, rfl, rfl⟩
theorem sum3 (f : Nat → Int) : sumE f (List.range 3) = f 0 + (f 1 + (f 2 + 0)) := rfl
theorem tri_wnd (p q : Int) : wnd (triL u1 u2 v1 v2 w1 w2) p q = wE u1 u2 v1 v2 p q + (wE v1 v2 w1 w2 p q + (wE w1 w2 u1 u2 p q + 0)) := by
  unfold wnd
  rw [tri_len, sum3]
  unfold wEi
  rw [tri_len, nx3.1, nx3.2.1, nx3.2.2]
  rfl
theorem tri_area : area2 (triL u1 u2 v1 v2 w1 w2) = (u1 * v2 - u2 * v1) + ((v1 * w2 - v2 * w1) + ((w1 * u2 - w2 * u1) + 0)) := by
  unfold area2
  rw [tri_len, sum3]
  unfold crossE
  rw [tri_len, nx3.1, nx3.2.1, nx3.2.2]
  rfl
/-- The crossing of one edge, by cases. -/
theorem wE_cases (a b c d p q : Int) : ((q < b ↔ q < d) ∧ wE a b c d p q = 0) ∨ (b ≤ q ∧ q < d ∧ (0 < det a b c d p q ∧ wE a b c d p q = 1 ∨ det a b c d p q ≤ 0 ∧ wE a b c d p q = 0)) ∨ (d ≤ q ∧ q < b ∧ (det a b c d p q < 0 ∧ wE a b c d p q = -1 ∨ 0 ≤ det a b c d p q ∧ wE a b c d p q = 0)) := by
  have hd : det a b c d p q = (a - p) * (d - q) - (b - q) * (c - p) := by unfold det; grind
  rw [wE_rdS, hd]
  unfold rdS hiB
  rw [show (1 : Int) * (b - q) - 0 * (a - p) = b - q by omega, show (1 : Int) * (d - q) - 0 * (c - p) = d - q by omega]
  generalize (a - p) * (d - q) - (b - q) * (c - p) = D
  by_cases h1 : 0 < b - q <;> by_cases h2 : 0 < d - q <;> simp [h1, h2, bi] <;> omega
/-- To the right of the first side, the sum is not one. -/
theorem tri_ne (p q : Int) (h : det u1 u2 v1 v2 p q < 0) : wE u1 u2 v1 v2 p q + (wE v1 v2 w1 w2 p q + wE w1 w2 u1 u2 p q) ≠ 1 := by
  have eq : det v1 v2 w1 w2 p q * (u2 - q) + det w1 w2 u1 u2 p q * (v2 - q) + det u1 u2 v1 v2 p q * (w2 - q) = 0 := by unfold det; grind
  have c1 := wE_cases u1 u2 v1 v2 p q
  have c2 := wE_cases v1 v2 w1 w2 p q
  have c3 := wE_cases w1 w2 u1 u2 p q
  generalize det u1 u2 v1 v2 p q = C at *
  generalize det v1 v2 w1 w2 p q = A at *
  generalize det w1 w2 u1 u2 p q = B at *
  generalize wE u1 u2 v1 v2 p q = x1 at *
  generalize wE v1 v2 w1 w2 p q = x2 at *
  generalize wE w1 w2 u1 u2 p q = x3 at *
  intro one
  have case1 : (v2 ≤ q ∧ u2 ≤ q ∧ q < w2 ∧ 0 < A ∧ 0 ≤ B) ∨ (w2 ≤ q ∧ q < u2 ∧ q < v2 ∧ 0 < B ∧ 0 ≤ A) := by omega
  rcases case1 with ⟨k1, k2, k3, k4, k5⟩ | ⟨k1, k2, k3, k4, k5⟩
  · have m1 : A * (u2 - q) ≤ 0 := Int.mul_nonpos_of_nonneg_of_nonpos (by omega) (by omega)
    have m2 : B * (v2 - q) ≤ 0 := Int.mul_nonpos_of_nonneg_of_nonpos (by omega) (by omega)
    have m3 : C * (w2 - q) < 0 := Int.mul_neg_of_neg_of_pos h (by omega)
    omega
  · have m1 : 0 ≤ A * (u2 - q) := Int.mul_nonneg (by omega) (by omega)
    have m2 : 0 < B * (v2 - q) := Int.mul_pos (by omega) (by omega)
    have m3 : 0 ≤ C * (w2 - q) := Int.mul_nonneg_of_nonpos_of_nonpos (by omega) (by omega)
    omega
/-- To the right of the first side, on no side. -/
theorem tri_off (p q : Int) (hD : 0 < det u1 u2 v1 v2 w1 w2) (h : det u1 u2 v1 v2 p q < 0) : onB u1 u2 v1 v2 p q = false ∧ onB v1 v2 w1 w2 p q = false ∧ onB w1 w2 u1 u2 p q = false := by
  have n : ∀ {a b c d : Int}, (onB a b c d p q = true → False) → onB a b c d p q = false := fun {a b c d} k => by
    cases g : onB a b c d p q with
    | false => rfl
    | true => exact (k g).elim
  refine ⟨n fun g => ?_, n fun g => ?_, n fun g => ?_⟩
  · have := det_on g; omega
  · have e := on_nonneg (a := u1) (b := u2) (c := v1) (d := v2) g (by unfold det; grind) (by omega)
    omega
  · have e := on_nonneg (a := u1) (b := u2) (c := v1) (d := v2) g (by omega) (by unfold det; grind)
    omega
/-- To the left of all sides or on them, and on the line of the first: on the first side. -/
theorem tri_edge (p q : Int) (hD : 0 < det u1 u2 v1 v2 w1 w2) (h : det u1 u2 v1 v2 p q = 0) (h1 : 0 ≤ det v1 v2 w1 w2 p q) (h2 : 0 ≤ det w1 w2 u1 u2 p q) : onB u1 u2 v1 v2 p q = true := by
  have b1 := tri_bary1 u1 u2 v1 v2 w1 w2 p q
  have b2 := tri_bary2 u1 u2 v1 v2 w1 w2 p q
  have sm := tri_sum u1 u2 v1 v2 w1 w2 p q
  have key : ∀ {a c x : Int}, det u1 u2 v1 v2 w1 w2 * x = det v1 v2 w1 w2 p q * a + det w1 w2 u1 u2 p q * c + det u1 u2 v1 v2 p q * 0 → (a ≤ x ∨ c ≤ x) ∧ (x ≤ a ∨ x ≤ c) := fun {a c x} e => by
    rw [← sm, h] at e
    generalize det v1 v2 w1 w2 p q = A at *
    generalize det w1 w2 u1 u2 p q = B at *
    have e' : A * (x - a) + B * (x - c) = 0 := by grind
    constructor
    · rcases Int.lt_or_le x a with g | g
      · rcases Int.lt_or_le x c with g2 | g2
        · exfalso
          have m1 : A * (x - a) ≤ 0 := Int.mul_nonpos_of_nonneg_of_nonpos (by omega) (by omega)
          have m2 : B * (x - c) ≤ 0 := Int.mul_nonpos_of_nonneg_of_nonpos (by omega) (by omega)
          rcases Int.mul_eq_zero.1 (show A * (x - a) = 0 by omega) with z | z
          · rcases Int.mul_eq_zero.1 (show B * (x - c) = 0 by omega) with y | y <;> omega
          · omega
        · exact .inr g2
      · exact .inl g
    · rcases Int.lt_or_le a x with g | g
      · rcases Int.lt_or_le c x with g2 | g2
        · exfalso
          have m1 : 0 ≤ A * (x - a) := Int.mul_nonneg (by omega) (by omega)
          have m2 : 0 ≤ B * (x - c) := Int.mul_nonneg (by omega) (by omega)
          rcases Int.mul_eq_zero.1 (show A * (x - a) = 0 by omega) with z | z
          · rcases Int.mul_eq_zero.1 (show B * (x - c) = 0 by omega) with y | y <;> omega
          · omega
        · exact .inr g2
      · exact .inl g
  rw [h] at b1 b2
  exact on_of h (key (by rw [h]; omega)) (key (by rw [h]; omega))
end
section
variable {u1 u2 v1 v2 w1 w2 : Int} (hD : 0 < det u1 u2 v1 v2 w1 w2)
include hD
theorem tri_ccw : Ccw (triL u1 u2 v1 v2 w1 w2) := by
  have e1 := det_cyc u1 u2 v1 v2 w1 w2
  have e2 := det_cyc v1 v2 w1 w2 u1 u2
  refine ⟨⟨Nat.le_refl _, fun i hi => ?_, fun i j hi hj hap => ?_⟩, ?_⟩
  · have hi : i < 3 := hi
    obtain ⟨⟨a1, a2⟩, ⟨a3, a4⟩, a5, a6⟩ := tri_at u1 u2 v1 v2 w1 w2
    rw [tri_len]
    left
    obtain rfl | rfl | rfl : i = 0 ∨ i = 1 ∨ i = 2 := by omega
    · rw [nx3.1, nx3.2.1, a1, a2, a3, a4, a5, a6]; omega
    · rw [nx3.2.1, nx3.2.2, a1, a2, a3, a4, a5, a6]; omega
    · rw [nx3.2.2, nx3.1, a1, a2, a3, a4, a5, a6]; omega
  · exfalso
    have hi : i < 3 := hi
    have hj : j < 3 := hj
    obtain ⟨a, b, c⟩ := hap
    have b : (i + 1) % 3 ≠ j := b
    have c : (j + 1) % 3 ≠ i := c
    omega
  · rw [tri_area]
    have e : (u1 * v2 - u2 * v1) + ((v1 * w2 - v2 * w1) + ((w1 * u2 - w2 * u1) + 0)) = det u1 u2 v1 v2 w1 w2 := by unfold det; grind
    omega
/-- To the left of all three sides: inside. -/
theorem tri_in {p q : Int} (h1 : 0 < det u1 u2 v1 v2 p q) (h2 : 0 < det v1 v2 w1 w2 p q) (h3 : 0 < det w1 w2 u1 u2 p q) : locE (triL u1 u2 v1 v2 w1 w2) p q = 1 := by
  have hc := tri_ccw hD
  rw [loc_one' hc]
  refine ⟨fun i hi => ?_, ?_⟩
  · have hi : i < 3 := hi
    have no : ∀ {a b c d : Int}, 0 < det a b c d p q → onB a b c d p q = false := fun {a b c d} h => by
      cases g : onB a b c d p q with
      | false => rfl
      | true => have := det_on g; omega
    have o := tri_on u1 u2 v1 v2 w1 w2 p q
    obtain rfl | rfl | rfl : i = 0 ∨ i = 1 ∨ i = 2 := by omega
    · rw [o.1]; exact no h1
    · rw [o.2.1]; exact no h2
    · rw [o.2.2]; exact no h3
  · have w := tri_wnd u1 u2 v1 v2 w1 w2 p q
    have b := tri_bary2 u1 u2 v1 v2 w1 w2 p q
    have sm := tri_sum u1 u2 v1 v2 w1 w2 p q
    have up : ∀ {a b c d : Int}, 0 < det a b c d p q → wE a b c d p q = bi (decide (b ≤ q) && decide (q < d)) := fun {a b c d} h => by
      unfold wE upB
      rw [ori_pos, ori_pos, det_rev, decide_eq_true h, decide_eq_false (show ¬ 0 < -det a b c d p q by omega), Bool.and_true, Bool.and_false]
      split
      · by_cases k : b ≤ q
        · rw [decide_eq_false (show ¬ q < d by omega)]; simp [bi]
        · rw [decide_eq_false k]; simp [bi]
      · rfl
    rw [up h1, up h2, up h3] at w
    have one := hc.wnd p q
    rcases one with one | one
    · exfalso
      rw [one] at w
      have bd := fun x => bi_bd x
      have a1 := bd (decide (u2 ≤ q) && decide (q < v2))
      have a2 := bd (decide (v2 ≤ q) && decide (q < w2))
      have a3 := bd (decide (w2 ≤ q) && decide (q < u2))
      have z : ∀ {x y : Int}, bi (decide (x ≤ q) && decide (q < y)) = 0 → x ≤ q → y ≤ q := fun {x y} h hx => by
        rcases Int.lt_or_le q y with g | g
        · rw [decide_eq_true hx, decide_eq_true g] at h; simp [bi] at h
        · exact g
      have z1 := z (show bi (decide (u2 ≤ q) && decide (q < v2)) = 0 by omega)
      have z2 := z (show bi (decide (v2 ≤ q) && decide (q < w2)) = 0 by omega)
      have z3 := z (show bi (decide (w2 ≤ q) && decide (q < u2)) = 0 by omega)
      generalize det u1 u2 v1 v2 p q = C at *
      generalize det v1 v2 w1 w2 p q = A at *
      generalize det w1 w2 u1 u2 p q = B at *
      have eq : A * (u2 - q) + B * (v2 - q) + C * (w2 - q) = 0 := by
        have : A * (u2 - q) + B * (v2 - q) + C * (w2 - q) = (A * u2 + B * v2 + C * w2) - (C + A + B) * q := by grind
        rw [this, sm]; omega
      rcases Int.lt_or_le q u2 with k | k
      · have k2 : q < v2 := by
          rcases Int.lt_or_le q v2 with g | g
          · exact g
          · have := z3 (z2 g); omega
        have k3 : q < w2 := by
          rcases Int.lt_or_le q w2 with g | g
          · exact g
          · have := z3 g; omega
        have m1 := pp h2 (show 0 < u2 - q by omega)
        have m2 := pp h3 (show 0 < v2 - q by omega)
        have m3 := pp h1 (show 0 < w2 - q by omega)
        omega
      · have k2 := z1 k
        have k3 := z2 k2
        have m1 : A * (u2 - q) ≤ 0 := Int.mul_nonpos_of_nonneg_of_nonpos (by omega) (by omega)
        have m2 : B * (v2 - q) ≤ 0 := Int.mul_nonpos_of_nonneg_of_nonpos (by omega) (by omega)
        have m3 : C * (w2 - q) ≤ 0 := Int.mul_nonpos_of_nonneg_of_nonpos (by omega) (by omega)
        have e1 := Int.mul_eq_zero.1 (show A * (u2 - q) = 0 by omega)
        have e2 := Int.mul_eq_zero.1 (show B * (v2 - q) = 0 by omega)
        have e3 := Int.mul_eq_zero.1 (show C * (w2 - q) = 0 by omega)
        have f1 : u2 = q := by omega
        have f2 : v2 = q := by omega
        have f3 : w2 = q := by omega
        subst f1
        rw [f2, f3] at hD
        have : det u1 u2 v1 u2 w1 u2 = 0 := by unfold det; grind
        omega
    · exact one
/-- To the right of a side: outside. -/
theorem tri_out {p q : Int} (h : det u1 u2 v1 v2 p q < 0 ∨ det v1 v2 w1 w2 p q < 0 ∨ det w1 w2 u1 u2 p q < 0) : locE (triL u1 u2 v1 v2 w1 w2) p q = -1 := by
  have hc := tri_ccw hD
  have d1 := det_cyc u1 u2 v1 v2 w1 w2
  have d2 := det_cyc v1 v2 w1 w2 u1 u2
  have o := tri_on u1 u2 v1 v2 w1 w2 p q
  have w := tri_wnd u1 u2 v1 v2 w1 w2 p q
  have both : (onB u1 u2 v1 v2 p q = false ∧ onB v1 v2 w1 w2 p q = false ∧ onB w1 w2 u1 u2 p q = false) ∧ wnd (triL u1 u2 v1 v2 w1 w2) p q ≠ 1 := by
    rcases h with h | h | h
    · have := tri_ne u1 u2 v1 v2 w1 w2 p q h
      exact ⟨tri_off u1 u2 v1 v2 w1 w2 p q hD h, by omega⟩
    · have := tri_ne v1 v2 w1 w2 u1 u2 p q h
      obtain ⟨k1, k2, k3⟩ := tri_off v1 v2 w1 w2 u1 u2 p q (by omega) h
      exact ⟨⟨k3, k1, k2⟩, by omega⟩
    · have := tri_ne w1 w2 u1 u2 v1 v2 p q h
      obtain ⟨k1, k2, k3⟩ := tri_off w1 w2 u1 u2 v1 v2 p q (by omega) h
      exact ⟨⟨k2, k3, k1⟩, by omega⟩
  rcases loc_three (triL u1 u2 v1 v2 w1 w2) p q with g | g | g
  · obtain ⟨i, hi, k⟩ := loc_zero.1 g
    have hi : i < 3 := hi
    obtain ⟨⟨b1, b2, b3⟩, _⟩ := both
    obtain rfl | rfl | rfl : i = 0 ∨ i = 1 ∨ i = 2 := by omega
    · rw [o.1, b1] at k; cases k
    · rw [o.2.1, b2] at k; cases k
    · rw [o.2.2, b3] at k; cases k
  · exact absurd ((loc_one' hc).1 g).2 both.2
  · exact g
/-- The closed triangle. -/
theorem tri_closed {p q : Int} : locE (triL u1 u2 v1 v2 w1 w2) p q ≠ -1 ↔ 0 ≤ det u1 u2 v1 v2 p q ∧ 0 ≤ det v1 v2 w1 w2 p q ∧ 0 ≤ det w1 w2 u1 u2 p q := by
  have d1 := det_cyc u1 u2 v1 v2 w1 w2
  have d2 := det_cyc v1 v2 w1 w2 u1 u2
  have o := tri_on u1 u2 v1 v2 w1 w2 p q
  constructor
  · intro h
    refine ⟨?_, ?_, ?_⟩
    · exact Int.not_lt.1 fun k => h (tri_out hD (.inl k))
    · exact Int.not_lt.1 fun k => h (tri_out hD (.inr (.inl k)))
    · exact Int.not_lt.1 fun k => h (tri_out hD (.inr (.inr k)))
  · intro ⟨h1, h2, h3⟩ e
    have z : ∀ i, i < 3 → onE (triL u1 u2 v1 v2 w1 w2) p q i = true → False := fun i hi k => by
      have := (loc_zero (ps := triL u1 u2 v1 v2 w1 w2)).2 ⟨i, by rw [tri_len]; exact hi, k⟩
      omega
    have s1 : det u1 u2 v1 v2 p q ≠ 0 := fun k => z 0 (by omega) (by rw [o.1]; exact tri_edge u1 u2 v1 v2 w1 w2 p q hD k h2 h3)
    have s2 : det v1 v2 w1 w2 p q ≠ 0 := fun k => z 1 (by omega) (by rw [o.2.1]; exact tri_edge v1 v2 w1 w2 u1 u2 p q (by omega) k h3 h1)
    have s3 : det w1 w2 u1 u2 p q ≠ 0 := fun k => z 2 (by omega) (by rw [o.2.2]; exact tri_edge w1 w2 u1 u2 v1 v2 p q (by omega) k h1 h2)
    have := tri_in hD (p := p) (q := q) (by omega) (by omega) (by omega)
    omega
/-- The open triangle. -/
theorem tri_pos {p q : Int} (h : locE (triL u1 u2 v1 v2 w1 w2) p q = 1) : 0 < det u1 u2 v1 v2 p q ∧ 0 < det v1 v2 w1 w2 p q ∧ 0 < det w1 w2 u1 u2 p q := by
  have d1 := det_cyc u1 u2 v1 v2 w1 w2
  have d2 := det_cyc v1 v2 w1 w2 u1 u2
  have o := tri_on u1 u2 v1 v2 w1 w2 p q
  obtain ⟨h1, h2, h3⟩ := (tri_closed hD).1 (show locE (triL u1 u2 v1 v2 w1 w2) p q ≠ -1 by omega)
  have z : ∀ i, i < 3 → onE (triL u1 u2 v1 v2 w1 w2) p q i = true → False := fun i hi k => by
    have := (loc_zero (ps := triL u1 u2 v1 v2 w1 w2)).2 ⟨i, by rw [tri_len]; exact hi, k⟩
    omega
  have s1 : det u1 u2 v1 v2 p q ≠ 0 := fun k => z 0 (by omega) (by rw [o.1]; exact tri_edge u1 u2 v1 v2 w1 w2 p q hD k h2 h3)
  have s2 : det v1 v2 w1 w2 p q ≠ 0 := fun k => z 1 (by omega) (by rw [o.2.1]; exact tri_edge v1 v2 w1 w2 u1 u2 p q (by omega) k h3 h1)
  have s3 : det w1 w2 u1 u2 p q ≠ 0 := fun k => z 2 (by omega) (by rw [o.2.2]; exact tri_edge w1 w2 u1 u2 v1 v2 p q (by omega) k h1 h2)
  omega
end
end Go.Proofs.YtalhkcmlacppjaaGreatDoor


namespace Go.Proofs.YtalhkcmlacppjaaGreatDoor
open Go.ChangeShapes Go.WideShapes Go.ChangeAt Go.RowKit
set_option linter.unusedVariables false
set_option linter.unusedSimpArgs false

/-- The corner furthest up, and of those the one furthest right, turns left. -/
theorem top_left {ps : List (Int × Int)} (hg : Good ps) : ∃ e, e < ps.length ∧ 0 < det (cx ps e) (cy ps e) (cx ps (nx ps.length e)) (cy ps (nx ps.length e)) (cx ps (nx ps.length (nx ps.length e))) (cy ps (nx ps.length (nx ps.length e))) ∧ ∀ i, i < ps.length → cy ps i < cy ps (nx ps.length e) ∨ (cy ps i = cy ps (nx ps.length e) ∧ cx ps i ≤ cx ps (nx ps.length e)) := by
  obtain ⟨hs, hR⟩ := hg
  obtain ⟨f, hf, hm⟩ := top_corner ps ps.length (by have := hs.1; omega)
  obtain ⟨e, he, rfl⟩ := nx_pred hf
  refine ⟨e, he, ?_, hm⟩
  have nd := edge_nd hs he
  have me := hm e he
  have hef : e ≠ nx ps.length e := fun h => nx_ne (by have := hs.1; omega) he h.symm
  by_cases ha : cy ps e = cy ps (nx ps.length e)
  · have k := at_edge hs he (N := 2) (by omega) (near_in hs he (by omega))
    rw [wnd_top] at k
    · have := hR e he
      have d : dnEi ps e = 1 := by
        unfold dnEi dnE
        rw [if_pos (by omega)]
      rw [this, d] at k
      exact absurd k (by decide)
    · intro i hi
      rw [scL_len] at hi
      rw [(scL_at 2 ps i).2]
      have := hm i hi
      omega
  · have hA : cy ps e - cy ps (nx ps.length e) < 0 := by omega
    obtain ⟨N, hN, hNa⟩ : ∃ N : Int, 2 ≤ N ∧ (-N < cy ps e - cy ps (nx ps.length e) ∧ cy ps e - cy ps (nx ps.length e) < N) := ⟨(cy ps e - cy ps (nx ps.length e)).natAbs + 2, by omega⟩
    have yin := near_in hs he hN
    have ly := at_edge hs he (by omega) yin
    have he' : e < (scL N ps).length := by rw [scL_len]; exact he
    have hf' : nx ps.length e < (scL N ps).length := by rw [scL_len]; exact hf
    have cen1 : cx (scL N ps) (nx (scL N ps).length e) = N * cx ps (nx ps.length e) := by rw [scL_len]; exact (scL_at N ps _).1
    have cen2 : cy (scL N ps) (nx (scL N ps).length e) = N * cy ps (nx ps.length e) := by rw [scL_len]; exact (scL_at N ps _).2
    have zon : onE (scL N ps) (N * cx ps (nx ps.length e)) (N * cy ps (nx ps.length e)) e = true := by
      unfold onE
      rw [cen1, cen2]
      exact on_last
    have zon' : onE (scL N ps) (N * cx ps (nx ps.length e)) (N * cy ps (nx ps.length e)) (nx ps.length e) = true := by
      unfold onE
      rw [(scL_at N ps (nx ps.length e)).1, (scL_at N ps (nx ps.length e)).2]
      exact on_first
    have zne : ¬ (N * cx ps (nx ps.length e) = cx (scL N ps) e ∧ N * cy ps (nx ps.length e) = cy (scL N ps) e) := by
      rw [(scL_at N ps e).1, (scL_at N ps e).2]
      exact mul_ne2 (by omega) (fun h => nd ⟨h.1.symm, h.2.symm⟩)
    have seg : ∀ i, i < (scL N ps).length → i ≠ e → i ≠ nx ps.length e → segB (cx (scL N ps) i) (cy (scL N ps) i) (cx (scL N ps) (nx (scL N ps).length i)) (cy (scL N ps) (nx (scL N ps).length i)) (cx ps e - cx ps (nx ps.length e) + N * cx ps (nx ps.length e)) (cy ps e - cy ps (nx ps.length e) + N * cy ps (nx ps.length e)) (N * cx ps (nx ps.length e)) (N * cy ps (nx ps.length e)) = false := fun i hi h1 h2 =>
      edge_free2 (hs.sc (by omega)) he' yin.1 zon yin.2.1 zne hi h1 (by rw [scL_len]; exact h2)
    have k := wnd_two (scL N ps) e (nx ps.length e) hef he' hf' (show cy ps e - cy ps (nx ps.length e) + N * cy ps (nx ps.length e) < N * cy ps (nx ps.length e) by omega) seg
    have nds : ¬ (cx (scL N ps) e = cx (scL N ps) (nx (scL N ps).length e) ∧ cy (scL N ps) e = cy (scL N ps) (nx (scL N ps).length e)) := edge_nd (hs.sc (N := N) (by omega)) he'
    have dl := det_line nds yin.1 zon
    rw [wEi_on yin.1, wEi_on zon, wEi_on zon', inQ_zero dl.1, cen1, cen2, (scL_at N ps (nx ps.length e)).1, (scL_at N ps (nx ps.length e)).2] at k
    have kc1 : N * cx ps (nx ps.length (nx ps.length e)) = N * (cx ps (nx ps.length (nx ps.length e)) - cx ps (nx ps.length e)) + N * cx ps (nx ps.length e) := by grind
    have kc2 : N * cy ps (nx ps.length (nx ps.length e)) = N * (cy ps (nx ps.length (nx ps.length e)) - cy ps (nx ps.length e)) + N * cy ps (nx ps.length e) := by grind
    have cfn1 : cx (scL N ps) (nx (scL N ps).length (nx ps.length e)) = N * cx ps (nx ps.length (nx ps.length e)) := by rw [scL_len]; exact (scL_at N ps _).1
    have cfn2 : cy (scL N ps) (nx (scL N ps).length (nx ps.length e)) = N * cy ps (nx ps.length (nx ps.length e)) := by rw [scL_len]; exact (scL_at N ps _).2
    have mc := hm _ (nx_lt' hf)
    have q := topQ (A1 := cx ps e - cx ps (nx ps.length e)) (C1 := cx ps (nx ps.length (nx ps.length e)) - cx ps (nx ps.length e)) (C2 := cy ps (nx ps.length (nx ps.length e)) - cy ps (nx ps.length e)) hN hNa.1 hA (by omega)
    rw [← inQ_mov _ _ _ _ _ _ (N * cx ps (nx ps.length e)) (N * cy ps (nx ps.length e)), ← kc1, ← kc2, Int.zero_add, Int.zero_add] at q
    rw [cfn1, cfn2, q] at k
    have U := valU (C1 := cx ps (nx ps.length (nx ps.length e)) - cx ps (nx ps.length e)) (C2 := cy ps (nx ps.length (nx ps.length e)) - cy ps (nx ps.length e)) (A1 := cx ps e - cx ps (nx ps.length e)) hN hNa
    have hU : wEi (scL N ps) (cx ps e - cx ps (nx ps.length e) + N * cx ps (nx ps.length e)) (cy ps e - cy ps (nx ps.length e) + N * cy ps (nx ps.length e)) (nx ps.length e) = wE 0 0 (N * (cx ps (nx ps.length (nx ps.length e)) - cx ps (nx ps.length e))) (N * (cy ps (nx ps.length (nx ps.length e)) - cy ps (nx ps.length e))) (cx ps e - cx ps (nx ps.length e)) (cy ps e - cy ps (nx ps.length e)) := by
      unfold wEi
      rw [cfn1, cfn2, (scL_at N ps _).1, (scL_at N ps _).2, kc1, kc2, ← wE_mov 0 0 _ _ _ _ (N * cx ps (nx ps.length e)) (N * cy ps (nx ps.length e)), Int.zero_add, Int.zero_add]
    rw [hU, U] at k
    have z : wnd (scL N ps) (N * cx ps (nx ps.length e)) (N * cy ps (nx ps.length e)) = 0 := wnd_top _ _ _ fun i hi => by
      rw [scL_len] at hi
      rw [(scL_at N ps i).2]
      exact Int.mul_le_mul_of_nonneg_left (by have := hm i hi; omega) (by omega)
    rw [z, ly, hR e he] at k
    have d : dnEi ps e = 0 := by
      unfold dnEi dnE
      rw [if_neg (by omega)]
    rw [d] at k
    rw [show bi false = 0 from rfl] at k
    have ndc := edge_nd hs hf
    have gd := hs.2.1 e he
    have de : det (cx ps e) (cy ps e) (cx ps (nx ps.length e)) (cy ps (nx ps.length e)) (cx ps (nx ps.length (nx ps.length e))) (cy ps (nx ps.length (nx ps.length e))) = (cy ps e - cy ps (nx ps.length e)) * (cx ps (nx ps.length (nx ps.length e)) - cx ps (nx ps.length e)) - (cx ps e - cx ps (nx ps.length e)) * (cy ps (nx ps.length (nx ps.length e)) - cy ps (nx ps.length e)) := by unfold det; grind
    by_cases hC : cy ps (nx ps.length (nx ps.length e)) - cy ps (nx ps.length e) < 0
    · rw [if_pos hC] at k
      have ge : ¬ 0 < (cx ps e - cx ps (nx ps.length e)) * (cy ps (nx ps.length (nx ps.length e)) - cy ps (nx ps.length e)) - (cy ps e - cy ps (nx ps.length e)) * (cx ps (nx ps.length (nx ps.length e)) - cx ps (nx ps.length e)) := by
        intro g
        rw [decide_eq_true hA, decide_eq_true g] at k
        rw [show bi (true && true) = 1 from rfl] at k
        omega
      have ne : det (cx ps e) (cy ps e) (cx ps (nx ps.length e)) (cy ps (nx ps.length e)) (cx ps (nx ps.length (nx ps.length e))) (cy ps (nx ps.length (nx ps.length e))) ≠ 0 := by
        rcases gd with gd | gd
        · exact gd
        · intro z
          rw [de] at z
          generalize cx ps e - cx ps (nx ps.length e) = A1 at *
          generalize cy ps e - cy ps (nx ps.length e) = A2 at *
          generalize cx ps (nx ps.length (nx ps.length e)) - cx ps (nx ps.length e) = C1 at *
          generalize cy ps (nx ps.length (nx ps.length e)) - cy ps (nx ps.length e) = C2 at *
          have m := Int.mul_pos_of_neg_of_neg hA hC
          have m1 : 0 ≤ A1 * C1 := by
            rcases Int.lt_or_le (A1 * C1) 0 with y | y
            · exfalso
              have t := Int.mul_neg_of_neg_of_pos y m
              have t2 : A1 * C1 * (A2 * C2) = (A1 * C2) * (A1 * C2) := by
                have : A2 * C1 = A1 * C2 := by omega
                calc A1 * C1 * (A2 * C2) = (A2 * C1) * (A1 * C2) := by grind
                  _ = _ := by rw [this]
              have t3 : 0 ≤ (A1 * C2) * (A1 * C2) := by
                rcases Int.le_total 0 (A1 * C2) with u | u
                · exact Int.mul_nonneg u u
                · exact Int.mul_nonneg_of_nonpos_of_nonpos u u
              omega
            · exact y
          omega
      omega
    · have hC0 : cy ps (nx ps.length (nx ps.length e)) - cy ps (nx ps.length e) = 0 := by omega
      rw [de, hC0]
      have := Int.mul_pos_of_neg_of_neg hA (show cx ps (nx ps.length (nx ps.length e)) - cx ps (nx ps.length e) < 0 by omega)
      omega
end Go.Proofs.YtalhkcmlacppjaaGreatDoor


namespace Go.Proofs.YtalhkcmlacppjaaGreatDoor
open Go.ChangeShapes Go.WideShapes Go.ChangeAt Go.RowKit
set_option linter.unusedVariables false
set_option linter.unusedSimpArgs false

/-- Two edges meet in a corner only that both have. -/
theorem meet2 {ps : List (Int × Int)} (hs : Simp ps) {e g : Nat} (he : e < ps.length) (hg : g < ps.length) (hne : g ≠ e) {p q : Int} (h : onE ps p q e = true) (h' : onE ps p q g = true) : (nx ps.length e = g ∧ p = cx ps g ∧ q = cy ps g) ∨ (nx ps.length g = e ∧ p = cx ps e ∧ q = cy ps e) := by
  obtain ⟨h1, h2, h3⟩ := hs
  by_cases k1 : nx ps.length e = g
  · subst k1
    exact .inl ⟨rfl, adj_pt (h2 e he) h h'⟩
  · by_cases k2 : nx ps.length g = e
    · have gd := h2 g hg
      have h'' := h'
      unfold onE at h''
      rw [k2] at gd h''
      exact .inr ⟨k2, adj_pt gd h'' h⟩
    · exfalso
      have := h3 g e hg he ⟨hne, k2, k1⟩
      unfold segE at this
      rw [seg_common h' h] at this
      cases this
theorem onE_at {N : Int} {ps : List (Int × Int)} {e : Nat} {p q : Int} (h : onB (N * cx ps e) (N * cy ps e) (N * cx ps (nx ps.length e)) (N * cy ps (nx ps.length e)) p q = true) : onE (scL N ps) p q e = true := by
  unfold onE
  rw [scL_len, (scL_at N ps _).1, (scL_at N ps _).2, (scL_at N ps _).1, (scL_at N ps _).2]
  exact h
/-- An edge with a point inside the triangle of a corner has no point outside on this side of the third side. -/
theorem exit_tri {ps : List (Int × Int)} (hs : Simp ps) {e i : Nat} (he : e < ps.length) (hi : i < ps.length) (n1 : i ≠ e) (n2 : i ≠ nx ps.length e)
    (hD : 0 < det (cx ps e) (cy ps e) (cx ps (nx ps.length e)) (cy ps (nx ps.length e)) (cx ps (nx ps.length (nx ps.length e))) (cy ps (nx ps.length (nx ps.length e))))
    {m1 m2 y1 y2 : Int} (hm : onE ps m1 m2 i = true) (hy : onE ps y1 y2 i = true)
    (a1 : 0 < det (cx ps e) (cy ps e) (cx ps (nx ps.length e)) (cy ps (nx ps.length e)) m1 m2)
    (a2 : 0 < det (cx ps (nx ps.length e)) (cy ps (nx ps.length e)) (cx ps (nx ps.length (nx ps.length e))) (cy ps (nx ps.length (nx ps.length e))) m1 m2)
    (a3 : 0 < det (cx ps (nx ps.length (nx ps.length e))) (cy ps (nx ps.length (nx ps.length e))) (cx ps e) (cy ps e) m1 m2)
    (b3 : 0 < det (cx ps (nx ps.length (nx ps.length e))) (cy ps (nx ps.length (nx ps.length e))) (cx ps e) (cy ps e) y1 y2) :
    0 < det (cx ps e) (cy ps e) (cx ps (nx ps.length e)) (cy ps (nx ps.length e)) y1 y2 ∧ 0 < det (cx ps (nx ps.length e)) (cy ps (nx ps.length e)) (cx ps (nx ps.length (nx ps.length e))) (cy ps (nx ps.length (nx ps.length e))) y1 y2 := by
  have hv : nx ps.length e < ps.length := nx_lt' he
  have hw : nx ps.length (nx ps.length e) < ps.length := nx_lt' hv
  -- a common point of m - y with u - v or v - w is shut out
  have up : ∀ {N X Y : Int}, 0 < N → onB (N * m1) (N * m2) (N * y1) (N * y2) X Y = true → 0 < det (N * cx ps (nx ps.length (nx ps.length e))) (N * cy ps (nx ps.length (nx ps.length e))) (N * cx ps e) (N * cy ps e) X Y := fun {N X Y} hN o =>
    on_det_pos o ((det_sc hN _ _ _ _ _ _).2.2 a3) ((det_sc hN _ _ _ _ _ _).2.2 b3)
  have zero1 : ∀ N : Int, det (N * cx ps (nx ps.length (nx ps.length e))) (N * cy ps (nx ps.length (nx ps.length e))) (N * cx ps e) (N * cy ps e) (N * cx ps e) (N * cy ps e) = 0 := fun N => by unfold det; grind
  have zero2 : ∀ N : Int, det (N * cx ps (nx ps.length (nx ps.length e))) (N * cy ps (nx ps.length (nx ps.length e))) (N * cx ps e) (N * cy ps e) (N * cx ps (nx ps.length (nx ps.length e))) (N * cy ps (nx ps.length (nx ps.length e))) = 0 := fun N => by unfold det; grind
  have oni : ∀ {N X Y : Int}, 0 < N → onB (N * m1) (N * m2) (N * y1) (N * y2) X Y = true → onE (scL N ps) X Y i = true := fun {N X Y} hN o => by
    refine onE_at (on_trans ?_ ?_ o)
    · rw [onB_sc hN]; exact hm
    · rw [onB_sc hN]; exact hy
  have s1 : segB (cx ps e) (cy ps e) (cx ps (nx ps.length e)) (cy ps (nx ps.length e)) m1 m2 y1 y2 = false := by
    cases g : segB (cx ps e) (cy ps e) (cx ps (nx ps.length e)) (cy ps (nx ps.length e)) m1 m2 y1 y2 with
    | false => rfl
    | true =>
      exfalso
      obtain ⟨N, X, Y, hN, o1, o2⟩ := seg_pt g
      have u := up hN o2
      rcases meet2 (hs.sc hN) (e := e) (g := i) (by rw [scL_len]; exact he) (by rw [scL_len]; exact hi) n1 (onE_at o1) (oni hN o2) with ⟨k, _⟩ | ⟨k, k1, k2⟩
      · rw [scL_len] at k
        exact n2 k.symm
      · rw [(scL_at N ps _).1] at k1
        rw [(scL_at N ps _).2] at k2
        rw [k1, k2, zero1] at u
        omega
  have s2 : segB (cx ps (nx ps.length e)) (cy ps (nx ps.length e)) (cx ps (nx ps.length (nx ps.length e))) (cy ps (nx ps.length (nx ps.length e))) m1 m2 y1 y2 = false := by
    cases g : segB (cx ps (nx ps.length e)) (cy ps (nx ps.length e)) (cx ps (nx ps.length (nx ps.length e))) (cy ps (nx ps.length (nx ps.length e))) m1 m2 y1 y2 with
    | false => rfl
    | true =>
      exfalso
      obtain ⟨N, X, Y, hN, o1, o2⟩ := seg_pt g
      have u := up hN o2
      rcases meet2 (hs.sc hN) (e := nx ps.length e) (g := i) (by rw [scL_len]; exact hv) (by rw [scL_len]; exact hi) n2 (onE_at o1) (oni hN o2) with ⟨k, k1, k2⟩ | ⟨k, _⟩
      · rw [scL_len] at k
        rw [(scL_at N ps _).1, ← k] at k1
        rw [(scL_at N ps _).2, ← k] at k2
        rw [k1, k2, zero2] at u
        omega
      · rw [scL_len] at k
        exact n1 (nx_inj hi he k)
  have s3 : segB (cx ps (nx ps.length (nx ps.length e))) (cy ps (nx ps.length (nx ps.length e))) (cx ps e) (cy ps e) m1 m2 y1 y2 = false := by
    cases g : segB (cx ps (nx ps.length (nx ps.length e))) (cy ps (nx ps.length (nx ps.length e))) (cx ps e) (cy ps e) m1 m2 y1 y2 with
    | false => rfl
    | true =>
      exfalso
      obtain ⟨N, X, Y, hN, o1, o2⟩ := seg_pt g
      have u := up hN o2
      have := det_on o1
      omega
  generalize cx ps e = u1 at *
  generalize cy ps e = u2 at *
  generalize cx ps (nx ps.length e) = v1 at *
  generalize cy ps (nx ps.length e) = v2 at *
  generalize cx ps (nx ps.length (nx ps.length e)) = w1 at *
  generalize cy ps (nx ps.length (nx ps.length e)) = w2 at *
  have l := tri_in hD a1 a2 a3
  have fr : Free2 (triL u1 u2 v1 v2 w1 w2) m1 m2 y1 y2 := fun j hj => by
    have hj : j < 3 := hj
    obtain ⟨⟨c1, c2⟩, ⟨c3, c4⟩, c5, c6⟩ := tri_at u1 u2 v1 v2 w1 w2
    rw [tri_len]
    obtain rfl | rfl | rfl : j = 0 ∨ j = 1 ∨ j = 2 := by omega
    · rw [nx3.1, c1, c2, c3, c4]; exact s1
    · rw [nx3.2.1, c3, c4, c5, c6]; exact s2
    · rw [nx3.2.2, c1, c2, c5, c6]; exact s3
  have ly := loc_stays _ (by rw [tri_len]; omega) fr l
  have t := tri_pos hD ly
  exact ⟨t.1, t.2.1⟩
end Go.Proofs.YtalhkcmlacppjaaGreatDoor


namespace Go.Proofs.YtalhkcmlacppjaaGreatDoor
open Go.ChangeShapes Go.WideShapes Go.ChangeAt Go.RowKit
set_option linter.unusedVariables false
set_option linter.unusedSimpArgs false

theorem det_scE (N a b c d p q : Int) : det (N * a) (N * b) (N * c) (N * d) (N * p) (N * q) = N * N * det a b c d p q := by unfold det; grind
/-- Distinct corners lie apart. -/
theorem corner_ne {ps : List (Int × Int)} (hs : Simp ps) {i j : Nat} (hi : i < ps.length) (hj : j < ps.length) (hij : i ≠ j) : ¬ (cx ps i = cx ps j ∧ cy ps i = cy ps j) := by
  intro ⟨h1, h2⟩
  have o1 : onE ps (cx ps i) (cy ps i) i = true := on_first
  have o2 : onE ps (cx ps i) (cy ps i) j = true := by
    unfold onE
    rw [h1, h2]
    exact on_first
  rcases meet2 hs hi hj (fun h => hij h.symm) o1 o2 with ⟨k, _⟩ | ⟨k, _⟩
  · have := edge_nd hs hi
    rw [k] at this
    exact this ⟨h1, h2⟩
  · have := edge_nd hs hj
    rw [k] at this
    exact this ⟨h1.symm, h2.symm⟩
/-- On a segment, not its first end: nearer to the level of the last. -/
theorem on_level {a b c d x1 x2 y1 y2 p q : Int} (h : onB x1 x2 y1 y2 p q = true) (hx : det a b c d y1 y2 < det a b c d x1 x2) (hne : ¬ (p = y1 ∧ q = y2)) : det a b c d y1 y2 < det a b c d p q := by
  obtain ⟨h1, h2, h3⟩ := on_iff.1 h
  have e1 : det a b c d p q - det a b c d y1 y2 = -(d - b) * (p - y1) + (c - a) * (q - y2) := by unfold det; grind
  have e2 : det a b c d x1 x2 - det a b c d y1 y2 = -(d - b) * (x1 - y1) + (c - a) * (x2 - y2) := by unfold det; grind
  have hx' : 0 < -(d - b) * (x1 - y1) + (c - a) * (x2 - y2) := by omega
  suffices hp : 0 < -(d - b) * (p - y1) + (c - a) * (q - y2) by omega
  have b1 : Btw 0 (x1 - y1) (p - y1) := by unfold Btw at *; omega
  have b2 : Btw 0 (x2 - y2) (q - y2) := by unfold Btw at *; omega
  have co : (x1 - y1) * (q - y2) = (x2 - y2) * (p - y1) := by grind
  have nz : ¬ (p - y1 = 0 ∧ q - y2 = 0) := fun k => hne ⟨by omega, by omega⟩
  clear e1 e2 h1 h2 h3 h hx hne
  generalize p - y1 = P at *
  generalize q - y2 = Q at *
  generalize x1 - y1 = A at *
  generalize x2 - y2 = B at *
  generalize -(d - b) = L1 at *
  generalize c - a = L2 at *
  have p1 : (L1 * P + L2 * Q) * A = P * (L1 * A + L2 * B) := by
    have : L2 * (A * Q) = L2 * (B * P) := by rw [co]
    grind
  have p2 : (L1 * P + L2 * Q) * B = Q * (L1 * A + L2 * B) := by
    have : L1 * (A * Q) = L1 * (B * P) := by rw [co]
    grind
  generalize hT : L1 * P + L2 * Q = T at *
  generalize hS : L1 * A + L2 * B = S at *
  unfold Btw at b1 b2
  have sg : ∀ {x y : Int}, T * x = y * S → (0 ≤ y ∧ y ≤ x ∨ x ≤ y ∧ y ≤ 0) → y ≠ 0 → 0 < T := fun {x y} g r z => by
    rcases Int.lt_or_le 0 T with t | t
    · exact t
    · exfalso
      rcases r with r | r
      · have k1 : T * x ≤ 0 := Int.mul_nonpos_of_nonpos_of_nonneg t (by omega)
        have k2 : 0 < y * S := Int.mul_pos (by omega) hx'
        omega
      · have k1 : 0 ≤ T * x := Int.mul_nonneg_of_nonpos_of_nonpos t (by omega)
        have k2 : y * S < 0 := Int.mul_neg_of_neg_of_pos (by omega) hx'
        omega
  by_cases zp : P = 0
  · exact sg p2 (by omega) (by omega)
  · exact sg p1 (by omega) zp
/-- An edge that has no end at v or z does not meet the segment from v to z. -/
theorem no_meet_vz {ps : List (Int × Int)} (hs : Simp ps) {e i z : Nat} (he : e < ps.length) (hi : i < ps.length) (hz : z < ps.length) (n1 : i ≠ e) (n2 : i ≠ nx ps.length e) (n3 : i ≠ z) (n4 : nx ps.length i ≠ z)
    {u1 u2 v1 v2 w1 w2 : Int} (eu : cx ps e = u1 ∧ cy ps e = u2) (ev : cx ps (nx ps.length e) = v1 ∧ cy ps (nx ps.length e) = v2) (ew : cx ps (nx ps.length (nx ps.length e)) = w1 ∧ cy ps (nx ps.length (nx ps.length e)) = w2)
    (hD : 0 < det u1 u2 v1 v2 w1 w2)
    (z1 : 0 < det u1 u2 v1 v2 (cx ps z) (cy ps z)) (z2 : 0 < det v1 v2 w1 w2 (cx ps z) (cy ps z)) (z3 : 0 ≤ det w1 w2 u1 u2 (cx ps z) (cy ps z))
    (hmax : ∀ k, k < ps.length → 0 < det u1 u2 v1 v2 (cx ps k) (cy ps k) → 0 < det v1 v2 w1 w2 (cx ps k) (cy ps k) → det w1 w2 u1 u2 (cx ps k) (cy ps k) ≤ det w1 w2 u1 u2 (cx ps z) (cy ps z))
    {m1 m2 : Int} (hm : onE ps m1 m2 i = true) (hvz : onB v1 v2 (cx ps z) (cy ps z) m1 m2 = true) : False := by
  have hv : nx ps.length e < ps.length := nx_lt' he
  have cyc := det_cyc w1 w2 u1 u2 v1 v2
  have sm := tri_sum u1 u2 v1 v2 w1 w2 (cx ps z) (cy ps z)
  have cy1 : det w1 w2 u1 u2 v1 v2 = det u1 u2 v1 v2 w1 w2 := by unfold det; grind
  -- m is not v
  have mv : ¬ (m1 = v1 ∧ m2 = v2) := by
    intro ⟨k1, k2⟩
    have o : onE ps m1 m2 e = true := by
      unfold onE
      rw [k1, k2, ← ev.1, ← ev.2]
      exact on_last
    rcases meet2 hs he hi n1 o hm with ⟨k, _⟩ | ⟨_, k3, k4⟩
    · exact n2 k.symm
    · have := edge_nd hs he
      exact this ⟨by rw [ev.1]; omega, by rw [ev.2]; omega⟩
  have mz : ¬ (m1 = cx ps z ∧ m2 = cy ps z) := by
    intro ⟨k1, k2⟩
    have o : onE ps m1 m2 z = true := by
      unfold onE
      rw [k1, k2]
      exact on_first
    rcases meet2 hs hz hi n3 o hm with ⟨k, k3, k4⟩ | ⟨k, _⟩
    · have := edge_nd hs hz
      rw [k] at this
      exact this ⟨by omega, by omega⟩
    · exact n4 k
  have dv1 : det u1 u2 v1 v2 v1 v2 = 0 := by unfold det; grind
  have dv2 : det v1 v2 w1 w2 v1 v2 = 0 := by unfold det; grind
  have m1p := on_level (a := u1) (b := u2) (c := v1) (d := v2) (by rw [onB_rev]; exact hvz) (by omega) mv
  have m2p := on_level (a := v1) (b := v2) (c := w1) (d := w2) (by rw [onB_rev]; exact hvz) (by omega) mv
  have m3p := on_level (a := w1) (b := w2) (c := u1) (d := u2) hvz (by omega) mz
  -- one end is no lower than m
  have ends : ∃ k, k < ps.length ∧ onE ps (cx ps k) (cy ps k) i = true ∧ det w1 w2 u1 u2 m1 m2 ≤ det w1 w2 u1 u2 (cx ps k) (cy ps k) := by
    have aff : ∀ x y : Int, det w1 w2 u1 u2 m1 m2 - det w1 w2 u1 u2 x y = (u2 - w2) * x + (-(u1 - w1)) * y + (det w1 w2 u1 u2 m1 m2 - ((u2 - w2) * w1 - (u1 - w1) * w2)) := fun x y => by unfold det; grind
    have o1 : onE ps (cx ps i) (cy ps i) i = true := on_first
    have o2 : onE ps (cx ps (nx ps.length i)) (cy ps (nx ps.length i)) i = true := on_last
    rcases Int.lt_or_le (det w1 w2 u1 u2 (cx ps i) (cy ps i)) (det w1 w2 u1 u2 m1 m2) with g1 | g1
    · rcases Int.lt_or_le (det w1 w2 u1 u2 (cx ps (nx ps.length i)) (cy ps (nx ps.length i))) (det w1 w2 u1 u2 m1 m2) with g2 | g2
      · exfalso
        have := on_pos (u2 - w2) (-(u1 - w1)) (det w1 w2 u1 u2 m1 m2 - ((u2 - w2) * w1 - (u1 - w1) * w2)) hm (by rw [← aff]; omega) (by rw [← aff]; omega)
        rw [← aff] at this
        omega
      · exact ⟨_, nx_lt' hi, o2, g2⟩
    · exact ⟨i, hi, o1, g1⟩
  obtain ⟨k, hk, ok, lk⟩ := ends
  have := exit_tri hs he hi n1 n2 (m1 := m1) (m2 := m2) (y1 := cx ps k) (y2 := cy ps k)
  rw [eu.1, eu.2, ev.1, ev.2, ew.1, ew.2] at this
  obtain ⟨k1, k2⟩ := this hD hm ok (by omega) (by omega) (by omega) (by omega)
  have := hmax k hk k1 k2
  omega
end Go.Proofs.YtalhkcmlacppjaaGreatDoor


namespace Go.Proofs.YtalhkcmlacppjaaGreatDoor
open Go.ChangeShapes Go.WideShapes Go.ChangeAt Go.RowKit
set_option linter.unusedVariables false
set_option linter.unusedSimpArgs false

/-- The segment between two corners meets no edge but in these corners. -/
def Diag (ps : List (Int × Int)) (a b : Nat) : Prop :=
  (∀ i, i < ps.length → i ≠ a → i ≠ b → nx ps.length i ≠ a → nx ps.length i ≠ b → segB (cx ps i) (cy ps i) (cx ps (nx ps.length i)) (cy ps (nx ps.length i)) (cx ps a) (cy ps a) (cx ps b) (cy ps b) = false) ∧
  ∀ k, k < ps.length → k ≠ a → k ≠ b → onB (cx ps a) (cy ps a) (cx ps b) (cy ps b) (cx ps k) (cy ps k) = false
theorem see_vz {ps : List (Int × Int)} (hs : Simp ps) {e z : Nat} (he : e < ps.length) (hz : z < ps.length)
    {u1 u2 v1 v2 w1 w2 : Int} (eu : cx ps e = u1 ∧ cy ps e = u2) (ev : cx ps (nx ps.length e) = v1 ∧ cy ps (nx ps.length e) = v2) (ew : cx ps (nx ps.length (nx ps.length e)) = w1 ∧ cy ps (nx ps.length (nx ps.length e)) = w2)
    (hD : 0 < det u1 u2 v1 v2 w1 w2)
    (z1 : 0 < det u1 u2 v1 v2 (cx ps z) (cy ps z)) (z2 : 0 < det v1 v2 w1 w2 (cx ps z) (cy ps z)) (z3 : 0 ≤ det w1 w2 u1 u2 (cx ps z) (cy ps z))
    (hmax : ∀ k, k < ps.length → 0 < det u1 u2 v1 v2 (cx ps k) (cy ps k) → 0 < det v1 v2 w1 w2 (cx ps k) (cy ps k) → det w1 w2 u1 u2 (cx ps k) (cy ps k) ≤ det w1 w2 u1 u2 (cx ps z) (cy ps z)) :
    Diag ps (nx ps.length e) z := by
  have hv := nx_lt' he
  refine ⟨fun i hi n1 n2 n3 n4 => ?_, fun k hk n1 n2 => ?_⟩
  · cases g : segB (cx ps i) (cy ps i) (cx ps (nx ps.length i)) (cy ps (nx ps.length i)) (cx ps (nx ps.length e)) (cy ps (nx ps.length e)) (cx ps z) (cy ps z) with
    | false => rfl
    | true =>
      exfalso
      obtain ⟨N, X, Y, hN, o1, o2⟩ := seg_pt g
      have at1 := fun j => (scL_at N ps j).1
      have at2 := fun j => (scL_at N ps j).2
      have hNN := pp hN hN
      rw [ev.1, ev.2] at o2
      refine no_meet_vz (hs.sc hN) (e := e) (i := i) (z := z) (by rw [scL_len]; exact he) (by rw [scL_len]; exact hi) (by rw [scL_len]; exact hz) (fun h => n3 (by rw [h])) (by rw [scL_len]; exact n1) n2 (by rw [scL_len]; exact n4) (u1 := N * u1) (u2 := N * u2) (v1 := N * v1) (v2 := N * v2) (w1 := N * w1) (w2 := N * w2) ?_ ?_ ?_ ?_ ?_ ?_ ?_ ?_ (m1 := X) (m2 := Y) (onE_at o1) ?_
      · rw [at1, at2, eu.1, eu.2]; exact ⟨rfl, rfl⟩
      · rw [scL_len, at1, at2, ev.1, ev.2]; exact ⟨rfl, rfl⟩
      · rw [scL_len, at1, at2, ew.1, ew.2]; exact ⟨rfl, rfl⟩
      · exact (det_sc hN _ _ _ _ _ _).2.2 hD
      · rw [at1, at2]; exact (det_sc hN _ _ _ _ _ _).2.2 z1
      · rw [at1, at2]; exact (det_sc hN _ _ _ _ _ _).2.2 z2
      · rw [at1, at2, det_scE]; exact Int.mul_nonneg (by omega) z3
      · intro k hk k1 k2
        rw [scL_len] at hk
        rw [at1, at2] at k1 k2 ⊢
        rw [at1, at2, det_scE, det_scE]
        exact Int.mul_le_mul_of_nonneg_left (hmax k hk ((det_sc hN _ _ _ _ _ _).2.1 k1) ((det_sc hN _ _ _ _ _ _).2.1 k2)) (by omega)
      · rw [at1, at2]; exact o2
  · cases g : onB (cx ps (nx ps.length e)) (cy ps (nx ps.length e)) (cx ps z) (cy ps z) (cx ps k) (cy ps k) with
    | false => rfl
    | true =>
      exfalso
      have c1 := corner_ne hs hk hv n1
      have c2 := corner_ne hs hk hz n2
      rw [ev.1, ev.2] at g c1
      have sm := tri_sum u1 u2 v1 v2 w1 w2 (cx ps z) (cy ps z)
      have cy1 : det w1 w2 u1 u2 v1 v2 = det u1 u2 v1 v2 w1 w2 := by unfold det; grind
      have dv1 : det u1 u2 v1 v2 v1 v2 = 0 := by unfold det; grind
      have dv2 : det v1 v2 w1 w2 v1 v2 = 0 := by unfold det; grind
      have m1p := on_level (a := u1) (b := u2) (c := v1) (d := v2) (by rw [onB_rev]; exact g) (by omega) c1
      have m2p := on_level (a := v1) (b := v2) (c := w1) (d := w2) (by rw [onB_rev]; exact g) (by omega) c1
      have m3p := on_level (a := w1) (b := w2) (c := u1) (d := u2) g (by omega) c2
      have := hmax k hk (by omega) (by omega)
      omega
/-- A corner other than the three that is in the closed triangle is off its first two sides. -/
theorem in_strict {ps : List (Int × Int)} (hs : Simp ps) {e z : Nat} (he : e < ps.length) (hz : z < ps.length)
    {u1 u2 v1 v2 w1 w2 : Int} (eu : cx ps e = u1 ∧ cy ps e = u2) (ev : cx ps (nx ps.length e) = v1 ∧ cy ps (nx ps.length e) = v2) (ew : cx ps (nx ps.length (nx ps.length e)) = w1 ∧ cy ps (nx ps.length (nx ps.length e)) = w2)
    (hD : 0 < det u1 u2 v1 v2 w1 w2) (n1 : z ≠ e) (n2 : z ≠ nx ps.length e) (n3 : z ≠ nx ps.length (nx ps.length e))
    (z1 : 0 ≤ det u1 u2 v1 v2 (cx ps z) (cy ps z)) (z2 : 0 ≤ det v1 v2 w1 w2 (cx ps z) (cy ps z)) (z3 : 0 ≤ det w1 w2 u1 u2 (cx ps z) (cy ps z)) :
    0 < det u1 u2 v1 v2 (cx ps z) (cy ps z) ∧ 0 < det v1 v2 w1 w2 (cx ps z) (cy ps z) := by
  have hv := nx_lt' he
  have hw := nx_lt' hv
  have d1 := det_cyc u1 u2 v1 v2 w1 w2
  have d2 := det_cyc v1 v2 w1 w2 u1 u2
  have oz : onE ps (cx ps z) (cy ps z) z = true := on_first
  have off : ∀ f, f < ps.length → z ≠ f → z ≠ nx ps.length f → onE ps (cx ps z) (cy ps z) f = true → False := fun f hf a b o => by
    rcases meet2 hs hf hz a o oz with ⟨k, _⟩ | ⟨k, k1, k2⟩
    · exact b k.symm
    · exact corner_ne hs hz hf a ⟨k1, k2⟩
  constructor
  · rcases Int.lt_or_le 0 (det u1 u2 v1 v2 (cx ps z) (cy ps z)) with h | h
    · exact h
    · exfalso
      refine off e he n1 n2 ?_
      unfold onE
      rw [eu.1, eu.2, ev.1, ev.2]
      exact tri_edge u1 u2 v1 v2 w1 w2 _ _ hD (by omega) z2 z3
  · rcases Int.lt_or_le 0 (det v1 v2 w1 w2 (cx ps z) (cy ps z)) with h | h
    · exact h
    · exfalso
      refine off _ hv n2 n3 ?_
      unfold onE
      rw [ev.1, ev.2, ew.1, ew.2]
      exact tri_edge v1 v2 w1 w2 u1 u2 _ _ (by omega) (by omega) z3 z1
end Go.Proofs.YtalhkcmlacppjaaGreatDoor


namespace Go.Proofs.YtalhkcmlacppjaaGreatDoor
open Go.ChangeShapes Go.WideShapes Go.ChangeAt Go.RowKit
set_option linter.unusedVariables false
set_option linter.unusedSimpArgs false

theorem on_opp {D s t d1 d2 y1 y2 m1 m2 u1 u2 : Int} (hD : 0 < D) (hs : s < 0) (ht : 0 < t) (a1 : D * (y1 - u1) = s * d1) (a2 : D * (y2 - u2) = s * d2) (b1 : D * (m1 - u1) = t * d1) (b2 : D * (m2 - u2) = t * d2) : onB y1 y2 m1 m2 u1 u2 = true := by
  have key : ∀ {y m u d : Int}, D * (y - u) = s * d → D * (m - u) = t * d → (y ≤ u ∨ m ≤ u) ∧ (u ≤ y ∨ u ≤ m) := fun {y m u d} a b => by
    rcases Int.le_total 0 d with g | g
    · have k1 : s * d ≤ 0 := Int.mul_nonpos_of_nonpos_of_nonneg (by omega) g
      have k2 : 0 ≤ t * d := Int.mul_nonneg (by omega) g
      constructor
      · left
        rcases Int.lt_or_le u y with q | q
        · have := pp hD (show 0 < y - u by omega); omega
        · exact q
      · right
        rcases Int.lt_or_le m u with q | q
        · have := pn hD (show m - u < 0 by omega); omega
        · exact q
    · have k1 : 0 ≤ s * d := Int.mul_nonneg_of_nonpos_of_nonpos (by omega) g
      have k2 : t * d ≤ 0 := Int.mul_nonpos_of_nonneg_of_nonpos (by omega) g
      constructor
      · right
        rcases Int.lt_or_le u m with q | q
        · have := pp hD (show 0 < m - u by omega); omega
        · exact q
      · left
        rcases Int.lt_or_le y u with q | q
        · have := pn hD (show y - u < 0 by omega); omega
        · exact q
  refine on_of ?_ (key a1 b1) (key a2 b2)
  have e : det y1 y2 m1 m2 u1 u2 = (y1 - u1) * (m2 - u2) - (y2 - u2) * (m1 - u1) := by unfold det; grind
  have f : D * D * det y1 y2 m1 m2 u1 u2 = 0 := by
    rw [e]
    calc D * D * ((y1 - u1) * (m2 - u2) - (y2 - u2) * (m1 - u1)) = (D * (y1 - u1)) * (D * (m2 - u2)) - (D * (y2 - u2)) * (D * (m1 - u1)) := by grind
      _ = s * d1 * (t * d2) - s * d2 * (t * d1) := by rw [a1, a2, b1, b2]
      _ = 0 := by grind
  rcases Int.mul_eq_zero.1 f with g | g
  · have := pp hD hD; omega
  · exact g
theorem det_near (K a b c d m1 m2 y1 y2 : Int) : det (K * a) (K * b) (K * c) (K * d) ((y1 - m1) + K * m1) ((y2 - m2) + K * m2) = K * (K * det a b c d m1 m2 + (det a b c d y1 y2 - det a b c d m1 m2)) := by unfold det; grind
theorem big_pos {K x y : Int} (h : 0 < x) (hK : (y - x).natAbs < K) : 0 < K * (K * x + (y - x)) := by
  have h1 : K ≤ K * x := by
    have := Int.mul_le_mul_of_nonneg_left (show 1 ≤ x by omega) (show 0 ≤ K by omega)
    omega
  exact pp (by omega) (by omega)
theorem no_meet_uw {ps : List (Int × Int)} (hs : Simp ps) {e i : Nat} (he : e < ps.length) (hi : i < ps.length) (n1 : i ≠ e) (n2 : nx ps.length i ≠ e) (n3 : i ≠ nx ps.length (nx ps.length e)) (n4 : nx ps.length i ≠ nx ps.length (nx ps.length e))
    {u1 u2 v1 v2 w1 w2 : Int} (eu : cx ps e = u1 ∧ cy ps e = u2) (ev : cx ps (nx ps.length e) = v1 ∧ cy ps (nx ps.length e) = v2) (ew : cx ps (nx ps.length (nx ps.length e)) = w1 ∧ cy ps (nx ps.length (nx ps.length e)) = w2)
    (hD : 0 < det u1 u2 v1 v2 w1 w2)
    (hemp : ∀ k, k < ps.length → k ≠ e → k ≠ nx ps.length e → k ≠ nx ps.length (nx ps.length e) → ¬ (0 ≤ det u1 u2 v1 v2 (cx ps k) (cy ps k) ∧ 0 ≤ det v1 v2 w1 w2 (cx ps k) (cy ps k) ∧ 0 ≤ det w1 w2 u1 u2 (cx ps k) (cy ps k)))
    {m1 m2 : Int} (hm : onE ps m1 m2 i = true) (huw : onB u1 u2 w1 w2 m1 m2 = true) : False := by
  have hv : nx ps.length e < ps.length := nx_lt' he
  have hw : nx ps.length (nx ps.length e) < ps.length := nx_lt' hv
  have n5 : i ≠ nx ps.length e := fun h => n4 (by rw [h])
  have n6 : nx ps.length i ≠ nx ps.length e := fun h => n1 (nx_inj hi he h)
  have fu : det u1 u2 v1 v2 u1 u2 = 0 := by unfold det; grind
  have fw : det v1 v2 w1 w2 w1 w2 = 0 := by unfold det; grind
  have d1 := det_cyc u1 u2 v1 v2 w1 w2
  have d2 := det_cyc v1 v2 w1 w2 u1 u2
  -- neither u nor w is on the edge
  have offu : onE ps u1 u2 i = true → False := fun o => by
    have o' : onE ps u1 u2 e = true := by
      unfold onE
      rw [eu.1, eu.2]; exact on_first
    rcases meet2 hs he hi n1 o' o with ⟨k, _⟩ | ⟨k, _⟩
    · exact n5 k.symm
    · exact n2 k
  have offw : onE ps w1 w2 i = true → False := fun o => by
    have o' : onE ps w1 w2 (nx ps.length e) = true := by
      unfold onE
      rw [ew.1, ew.2]; exact on_last
    rcases meet2 hs hv hi n5 o' o with ⟨k, _⟩ | ⟨k, _⟩
    · exact n3 k.symm
    · exact n6 k
  have m3 : det w1 w2 u1 u2 m1 m2 = 0 := det_on (by rw [onB_rev]; exact huw)
  have p1 := on_level (a := u1) (b := u2) (c := v1) (d := v2) (p := m1) (q := m2) (y1 := u1) (y2 := u2) (by rw [onB_rev]; exact huw) (by omega) (fun ⟨h1, h2⟩ => offu (by rw [← h1, ← h2]; exact hm))
  have p2 := on_level (a := v1) (b := v2) (c := w1) (d := w2) (p := m1) (q := m2) (y1 := w1) (y2 := w2) huw (by omega) (fun ⟨h1, h2⟩ => offw (by rw [← h1, ← h2]; exact hm))
  rw [fu] at p1
  rw [fw] at p2
  have ends : ∃ k, k < ps.length ∧ (k ≠ e ∧ k ≠ nx ps.length e ∧ k ≠ nx ps.length (nx ps.length e)) ∧ onE ps (cx ps k) (cy ps k) i = true ∧ 0 ≤ det w1 w2 u1 u2 (cx ps k) (cy ps k) := by
    have aff : ∀ x y : Int, -det w1 w2 u1 u2 x y = (u2 - w2) * x + (-(u1 - w1)) * y + (-((u2 - w2) * w1 - (u1 - w1) * w2)) := fun x y => by unfold det; grind
    have o1 : onE ps (cx ps i) (cy ps i) i = true := on_first
    have o2 : onE ps (cx ps (nx ps.length i)) (cy ps (nx ps.length i)) i = true := on_last
    rcases Int.lt_or_le (det w1 w2 u1 u2 (cx ps i) (cy ps i)) 0 with g1 | g1
    · rcases Int.lt_or_le (det w1 w2 u1 u2 (cx ps (nx ps.length i)) (cy ps (nx ps.length i))) 0 with g2 | g2
      · exfalso
        have := on_pos (u2 - w2) (-(u1 - w1)) (-((u2 - w2) * w1 - (u1 - w1) * w2)) hm (by rw [← aff]; omega) (by rw [← aff]; omega)
        rw [← aff] at this
        omega
      · exact ⟨_, nx_lt' hi, ⟨n2, n6, n4⟩, o2, g2⟩
    · exact ⟨i, hi, ⟨n1, n5, n3⟩, o1, g1⟩
  obtain ⟨k, hk, ⟨k1, k2, k3⟩, ok, lk⟩ := ends
  have emp := hemp k hk k1 k2 k3
  by_cases zero : det w1 w2 u1 u2 (cx ps k) (cy ps k) = 0
  · have along : ∀ {y1 y2 : Int}, det w1 w2 u1 u2 y1 y2 = 0 → (det u1 u2 v1 v2 w1 w2 * (y1 - u1) = det u1 u2 v1 v2 y1 y2 * (w1 - u1) ∧ det u1 u2 v1 v2 w1 w2 * (y2 - u2) = det u1 u2 v1 v2 y1 y2 * (w2 - u2)) ∧ det u1 u2 v1 v2 w1 w2 * (y1 - w1) = det v1 v2 w1 w2 y1 y2 * (u1 - w1) ∧ det u1 u2 v1 v2 w1 w2 * (y2 - w2) = det v1 v2 w1 w2 y1 y2 * (u2 - w2) := fun {y1 y2} z => by
      have b1 := tri_bary1 u1 u2 v1 v2 w1 w2 y1 y2
      have b2 := tri_bary2 u1 u2 v1 v2 w1 w2 y1 y2
      have sm := tri_sum u1 u2 v1 v2 w1 w2 y1 y2
      rw [z] at b1 b2 sm
      generalize det u1 u2 v1 v2 y1 y2 = C at *
      generalize det v1 v2 w1 w2 y1 y2 = A at *
      generalize det u1 u2 v1 v2 w1 w2 = D at *
      have sm : D = C + A := by omega
      subst sm
      refine ⟨⟨?_, ?_⟩, ?_, ?_⟩ <;> grind
    obtain ⟨⟨x1, x2⟩, x3, x4⟩ := along zero
    obtain ⟨⟨y1, y2⟩, y3, y4⟩ := along m3
    rcases Int.lt_or_le (det u1 u2 v1 v2 (cx ps k) (cy ps k)) 0 with g | g
    · exact offu (on_trans ok hm (on_opp hD g p1 x1 x2 y1 y2))
    · rcases Int.lt_or_le (det v1 v2 w1 w2 (cx ps k) (cy ps k)) 0 with g2 | g2
      · exact offw (on_trans ok hm (on_opp hD g2 p2 x3 x4 y3 y4))
      · exact emp ⟨g, g2, lk⟩
  · obtain ⟨K, hK, hK1, hK2⟩ : ∃ K : Int, 2 ≤ K ∧ (det u1 u2 v1 v2 (cx ps k) (cy ps k) - det u1 u2 v1 v2 m1 m2).natAbs < K ∧ (det v1 v2 w1 w2 (cx ps k) (cy ps k) - det v1 v2 w1 w2 m1 m2).natAbs < K := ⟨(det u1 u2 v1 v2 (cx ps k) (cy ps k) - det u1 u2 v1 v2 m1 m2).natAbs + (det v1 v2 w1 w2 (cx ps k) (cy ps k) - det v1 v2 w1 w2 m1 m2).natAbs + 2, by omega, by omega, by omega⟩
    have hK0 : 0 < K := by omega
    have at1 := fun j => (scL_at K ps j).1
    have at2 := fun j => (scL_at K ps j).2
    have oM : onE (scL K ps) ((cx ps k - m1) + K * m1) ((cy ps k - m2) + K * m2) i = true := by
      refine onE_at (on_trans (x1 := K * cx ps k) (x2 := K * cy ps k) (y1 := K * m1) (y2 := K * m2) ?_ ?_ ?_)
      · rw [onB_sc hK0]; exact ok
      · rw [onB_sc hK0]; exact hm
      · have := on_near (N := K) (A1 := cx ps k - m1) (A2 := cy ps k - m2) (B1 := K * m1) (B2 := K * m2) hK
        rw [show K * (cx ps k - m1) + K * m1 = K * cx ps k by grind, show K * (cy ps k - m2) + K * m2 = K * cy ps k by grind] at this
        exact this
    have oY : onE (scL K ps) (K * cx ps k) (K * cy ps k) i = true := onE_at (by rw [onB_sc hK0]; exact ok)
    have ex := exit_tri (hs.sc hK0) (e := e) (i := i) (by rw [scL_len]; exact he) (by rw [scL_len]; exact hi) n1 (by rw [scL_len]; exact n5) (m1 := (cx ps k - m1) + K * m1) (m2 := (cy ps k - m2) + K * m2) (y1 := K * cx ps k) (y2 := K * cy ps k)
    rw [scL_len, at1, at2, at1, at2, at1, at2, eu.1, eu.2, ev.1, ev.2, ew.1, ew.2, det_near, det_near, det_near] at ex
    obtain ⟨r1, r2⟩ := ex ((det_sc hK0 _ _ _ _ _ _).2.2 hD) oM oY (big_pos p1 hK1) (big_pos p2 hK2) (by rw [m3]; exact pp hK0 (by omega)) ((det_sc hK0 _ _ _ _ _ _).2.2 (by omega))
    have r1 := (det_sc hK0 _ _ _ _ _ _).2.1 r1
    have r2 := (det_sc hK0 _ _ _ _ _ _).2.1 r2
    exact emp ⟨by omega, by omega, lk⟩
/-- If the closed triangle of a corner has no other corner, its third side is a diagonal. -/
theorem see_uw {ps : List (Int × Int)} (hs : Simp ps) {e : Nat} (he : e < ps.length)
    {u1 u2 v1 v2 w1 w2 : Int} (eu : cx ps e = u1 ∧ cy ps e = u2) (ev : cx ps (nx ps.length e) = v1 ∧ cy ps (nx ps.length e) = v2) (ew : cx ps (nx ps.length (nx ps.length e)) = w1 ∧ cy ps (nx ps.length (nx ps.length e)) = w2)
    (hD : 0 < det u1 u2 v1 v2 w1 w2)
    (hemp : ∀ k, k < ps.length → k ≠ e → k ≠ nx ps.length e → k ≠ nx ps.length (nx ps.length e) → ¬ (0 ≤ det u1 u2 v1 v2 (cx ps k) (cy ps k) ∧ 0 ≤ det v1 v2 w1 w2 (cx ps k) (cy ps k) ∧ 0 ≤ det w1 w2 u1 u2 (cx ps k) (cy ps k))) :
    Diag ps e (nx ps.length (nx ps.length e)) := by
  have hv : nx ps.length e < ps.length := nx_lt' he
  have hw : nx ps.length (nx ps.length e) < ps.length := nx_lt' hv
  refine ⟨fun i hi n1 n2 n3 n4 => ?_, fun k hk n1 n2 => ?_⟩
  · cases g : segB (cx ps i) (cy ps i) (cx ps (nx ps.length i)) (cy ps (nx ps.length i)) (cx ps e) (cy ps e) (cx ps (nx ps.length (nx ps.length e))) (cy ps (nx ps.length (nx ps.length e))) with
    | false => rfl
    | true =>
      exfalso
      obtain ⟨N, X, Y, hN, o1, o2⟩ := seg_pt g
      have at1 := fun j => (scL_at N ps j).1
      have at2 := fun j => (scL_at N ps j).2
      rw [eu.1, eu.2, ew.1, ew.2] at o2
      refine no_meet_uw (hs.sc hN) (e := e) (i := i) (by rw [scL_len]; exact he) (by rw [scL_len]; exact hi) n1 (by rw [scL_len]; exact n3) (by rw [scL_len]; exact n2) (by rw [scL_len]; exact n4) (u1 := N * u1) (u2 := N * u2) (v1 := N * v1) (v2 := N * v2) (w1 := N * w1) (w2 := N * w2) ?_ ?_ ?_ ?_ ?_ (m1 := X) (m2 := Y) (onE_at o1) o2
      · rw [at1, at2, eu.1, eu.2]; exact ⟨rfl, rfl⟩
      · rw [scL_len, at1, at2, ev.1, ev.2]; exact ⟨rfl, rfl⟩
      · rw [scL_len, at1, at2, ew.1, ew.2]; exact ⟨rfl, rfl⟩
      · exact (det_sc hN _ _ _ _ _ _).2.2 hD
      · intro k hk k1 k2 k3 ⟨h1, h2, h3⟩
        rw [scL_len] at hk k2 k3
        rw [at1, at2] at h1 h2 h3
        have nn : ∀ {a b c d p q : Int}, 0 ≤ det (N * a) (N * b) (N * c) (N * d) (N * p) (N * q) → 0 ≤ det a b c d p q := fun {a b c d p q} h => by
          rcases Int.lt_or_le (det a b c d p q) 0 with y | y
          · have := (det_sc hN _ _ _ _ _ _).1.2 y; omega
          · exact y
        exact hemp k hk k1 k2 k3 ⟨nn h1, nn h2, nn h3⟩
  · cases g : onB (cx ps e) (cy ps e) (cx ps (nx ps.length (nx ps.length e))) (cy ps (nx ps.length (nx ps.length e))) (cx ps k) (cy ps k) with
    | false => rfl
    | true =>
      exfalso
      rw [eu.1, eu.2, ew.1, ew.2] at g
      have fu : det u1 u2 v1 v2 u1 u2 = 0 := by unfold det; grind
      have fw : det v1 v2 w1 w2 w1 w2 = 0 := by unfold det; grind
      have d1 := det_cyc u1 u2 v1 v2 w1 w2
      have m3 : det w1 w2 u1 u2 (cx ps k) (cy ps k) = 0 := det_on (by rw [onB_rev]; exact g)
      by_cases kv : k = nx ps.length e
      · rw [kv, ev.1, ev.2] at m3
        have : det w1 w2 u1 u2 v1 v2 = det u1 u2 v1 v2 w1 w2 := by unfold det; grind
        omega
      · exact hemp k hk n1 kv n2 ⟨on_nonneg g (by omega) (by omega), on_nonneg g (by omega) (by omega), by omega⟩
end Go.Proofs.YtalhkcmlacppjaaGreatDoor


namespace Go.Proofs.YtalhkcmlacppjaaGreatDoor
open Go.ChangeShapes Go.WideShapes Go.ChangeAt Go.RowKit
set_option linter.unusedVariables false
set_option linter.unusedSimpArgs false

/-- Where the angle is nought, one end lies on the other arm. -/
theorem ngd {a1 a2 b1 b2 c1 c2 : Int} (h : ¬ Gd a1 a2 b1 b2 c1 c2) : onB b1 b2 c1 c2 a1 a2 = true ∨ onB a1 a2 b1 b2 c1 c2 = true := by
  unfold Gd at h
  have h0 : det a1 a2 b1 b2 c1 c2 = 0 := by omega
  have h1 : 0 ≤ (a1 - b1) * (c1 - b1) + (a2 - b2) * (c2 - b2) := by omega
  have h0' : det b1 b2 c1 c2 a1 a2 = 0 := by rw [← h0]; unfold det; grind
  have e0 : det a1 a2 b1 b2 c1 c2 = (a2 - b2) * (c1 - b1) - (a1 - b1) * (c2 - b2) := by unfold det; grind
  rw [on_dot2, on_dot2, ori_zero, ori_zero, decide_eq_true h0, decide_eq_true h0', Bool.true_and, Bool.true_and, decide_eq_true_eq, decide_eq_true_eq]
  have e1 : (a1 - b1) * (c1 - a1) + (a2 - b2) * (c2 - a2) = ((a1 - b1) * (c1 - b1) + (a2 - b2) * (c2 - b2)) - ((a1 - b1) * (a1 - b1) + (a2 - b2) * (a2 - b2)) := by grind
  have e2 : (c1 - a1) * (b1 - c1) + (c2 - a2) * (b2 - c2) = ((a1 - b1) * (c1 - b1) + (a2 - b2) * (c2 - b2)) - ((c1 - b1) * (c1 - b1) + (c2 - b2) * (c2 - b2)) := by grind
  rw [e1, e2]
  rw [e0] at h0
  clear e0 e1 e2 h h0'
  generalize a1 - b1 = P1 at *
  generalize a2 - b2 = P2 at *
  generalize c1 - b1 = Q1 at *
  generalize c2 - b2 = Q2 at *
  have sq : (P1 * Q1 + P2 * Q2) * (P1 * Q1 + P2 * Q2) = (P1 * P1 + P2 * P2) * (Q1 * Q1 + Q2 * Q2) := by
    have e : (P1 * P1 + P2 * P2) * (Q1 * Q1 + Q2 * Q2) - (P1 * Q1 + P2 * Q2) * (P1 * Q1 + P2 * Q2) = (P2 * Q1 - P1 * Q2) * (P2 * Q1 - P1 * Q2) := by grind
    rw [h0] at e
    omega
  generalize P1 * Q1 + P2 * Q2 = T at *
  generalize P1 * P1 + P2 * P2 = A at *
  generalize Q1 * Q1 + Q2 * Q2 = B at *
  rcases Int.lt_or_le T A with g1 | g1
  · rcases Int.lt_or_le T B with g2 | g2
    · exfalso
      have k1 : T * T ≤ T * B := Int.mul_le_mul_of_nonneg_left (by omega) h1
      have k2 : T * B < A * B := Int.mul_lt_mul_of_pos_right g1 (by omega)
      omega
    · right; omega
  · left; omega
/-- A corner lies on the edges only that it is an end of. -/
theorem corner_on {ps : List (Int × Int)} (hs : Simp ps) {i j : Nat} (hi : i < ps.length) (hj : j < ps.length) (h : onE ps (cx ps j) (cy ps j) i = true) : j = i ∨ j = nx ps.length i := by
  by_cases k : j = i
  · exact .inl k
  · have o : onE ps (cx ps j) (cy ps j) j = true := on_first
    rcases meet2 hs hi hj k h o with ⟨k1, _⟩ | ⟨_, k2⟩
    · exact .inr k1.symm
    · exact absurd k2 (corner_ne hs hj hi k)
theorem Diag.symm {ps : List (Int × Int)} {a b : Nat} (h : Diag ps a b) : Diag ps b a :=
  ⟨fun i hi n1 n2 n3 n4 => by rw [segB_rev2]; exact h.1 i hi n2 n1 n4 n3, fun k hk n1 n2 => by rw [onB_rev]; exact h.2 k hk n2 n1⟩
/-- A polygon whose corners are corners of a simple one, and whose edges are edges of it but for one, a diagonal. -/
theorem part_simp {ps qs : List (Int × Int)} (hs : Simp ps) (h3 : 3 ≤ qs.length) (σ : Nat → Nat) {d : Nat} (hd : d < qs.length)
    (lt : ∀ i, i < qs.length → σ i < ps.length) (inj : ∀ i j, i < qs.length → j < qs.length → σ i = σ j → i = j)
    (at' : ∀ i, i < qs.length → cx qs i = cx ps (σ i) ∧ cy qs i = cy ps (σ i))
    (step : ∀ i, i < qs.length → i ≠ d → nx ps.length (σ i) = σ (nx qs.length i))
    (hdg : Diag ps (σ d) (σ (nx qs.length d))) : Simp qs := by
  have n0 := fun i (h : i < qs.length) => nx_lt' h
  have ne1 := fun i (h : i < qs.length) => nx_ne (show 2 ≤ qs.length by omega) h
  have ne2 : ∀ i, i < qs.length → nx qs.length (nx qs.length i) ≠ i := fun i h => by
    unfold nx
    by_cases a : i + 1 < qs.length
    · rw [Nat.mod_eq_of_lt a]
      by_cases b : i + 1 + 1 < qs.length
      · rw [Nat.mod_eq_of_lt b]; omega
      · rw [show i + 1 + 1 = qs.length by omega, Nat.mod_self]; omega
    · rw [show i + 1 = qs.length by omega, Nat.mod_self, Nat.mod_eq_of_lt (by omega)]; omega
  have sne : ∀ i j, i < qs.length → j < qs.length → i ≠ j → σ i ≠ σ j := fun i j hi hj h g => h (inj i j hi hj g)
  refine ⟨h3, fun i hi => ?_, fun i j hi hj hap => ?_⟩
  · have a0 := at' i hi
    have a1 := at' _ (n0 i hi)
    have a2 := at' _ (n0 _ (n0 i hi))
    rw [a0.1, a0.2, a1.1, a1.2, a2.1, a2.2]
    apply Classical.byContradiction
    intro hn
    by_cases k1 : i = d
    · subst k1
      rcases ngd hn with o | o
      · have st := step _ (n0 i hi) (ne1 i hi)
        have := corner_on hs (lt _ (n0 i hi)) (lt i hi) (by unfold onE; rw [st]; exact o)
        rw [st] at this
        rcases this with k | k
        · exact sne _ _ hi (n0 i hi) (fun h => ne1 i hi h.symm) k
        · exact sne _ _ hi (n0 _ (n0 i hi)) (fun h => ne2 i hi h.symm) k
      · have := hdg.2 _ (lt _ (n0 _ (n0 i hi))) (sne _ _ (n0 _ (n0 i hi)) hi (ne2 i hi)) (sne _ _ (n0 _ (n0 i hi)) (n0 i hi) (ne1 _ (n0 i hi)))
        rw [this] at o
        cases o
    · have st := step i hi k1
      by_cases k2 : nx qs.length i = d
      · rw [k2] at hn st
        have hi2 := ne2 i hi
        rw [k2] at hi2
        rcases ngd hn with o | o
        · have := hdg.2 _ (lt i hi) (sne _ _ hi hd k1) (sne _ _ hi (n0 d hd) (fun h => hi2 h.symm))
          rw [this] at o
          cases o
        · have := corner_on hs (lt i hi) (lt _ (n0 d hd)) (by unfold onE; rw [st]; exact o)
          rw [st] at this
          rcases this with k | k
          · exact sne _ _ (n0 d hd) hi hi2 k
          · exact sne _ _ (n0 d hd) hd (ne1 d hd) k
      · have g := hs.2.1 (σ i) (lt i hi)
        rw [st, step _ (n0 i hi) k2] at g
        exact hn g
  · obtain ⟨p1, p2, p3⟩ := hap
    have two : ∀ j, j < qs.length → d ≠ j → nx qs.length d ≠ j → nx qs.length j ≠ d → segB (cx ps (σ j)) (cy ps (σ j)) (cx ps (σ (nx qs.length j))) (cy ps (σ (nx qs.length j))) (cx ps (σ d)) (cy ps (σ d)) (cx ps (σ (nx qs.length d))) (cy ps (σ (nx qs.length d))) = false := fun j hj q1 q2 q3 => by
      have st := step j hj (fun h => q1 h.symm)
      have := hdg.1 (σ j) (lt j hj) (sne _ _ hj hd (fun h => q1 h.symm)) (sne _ _ hj (n0 d hd) (fun h => q2 h.symm)) (by rw [st]; exact sne _ _ (n0 j hj) hd q3) (by rw [st]; exact sne _ _ (n0 j hj) (n0 d hd) (fun h => q1 (nx_inj hj hd h).symm))
      rw [st] at this
      exact this
    unfold segE
    rw [(at' i hi).1, (at' i hi).2, (at' j hj).1, (at' j hj).2, (at' _ (n0 i hi)).1, (at' _ (n0 i hi)).2, (at' _ (n0 j hj)).1, (at' _ (n0 j hj)).2]
    by_cases k1 : i = d
    · subst k1
      rw [segB_comm]
      exact two j hj p1 p2 p3
    · by_cases k2 : j = d
      · subst k2
        exact two i hi (fun h => p1 h.symm) p3 p2
      · have := hs.2.2 (σ i) (σ j) (lt i hi) (lt j hj) ⟨sne _ _ hi hj p1, by rw [step i hi k1]; exact sne _ _ (n0 i hi) hj p2, by rw [step j hj k2]; exact sne _ _ (n0 j hj) hi p3⟩
        unfold segE at this
        rw [step i hi k1, step j hj k2] at this
        exact this
end Go.Proofs.YtalhkcmlacppjaaGreatDoor



