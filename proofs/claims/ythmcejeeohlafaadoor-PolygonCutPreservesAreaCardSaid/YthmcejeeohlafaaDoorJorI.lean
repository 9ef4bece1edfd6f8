/- Winding numbers of polygons, part I: location by winding numbers; a polygon cut in two. -/
import Derived.Test.YthmcejeeohlafaaDoorJorH
namespace Go.Proofs.YthmcejeeohlafaaDoor
open Go.ChangeShapes Go.WideShapes Go.ChangeAt Go.RowKit
set_option linter.unusedVariables false
set_option linter.unusedSimpArgs false

theorem par_sum (ps : List (Int × Int)) (p q : Int) : ∀ l : List Nat, sumE (wEi ps p q) l % 2 = bi (parE (rayE ps p q) l)
  | [] => rfl
  | i :: l => by
    have ih := par_sum ps p q l
    have e : wEi ps p q i % 2 = bi (rayE ps p q i) := by
      unfold wEi wE rayE rayB
      split
      · cases upB (cx ps (nx ps.length i)) (cy ps (nx ps.length i)) (cx ps i) (cy ps i) p q <;> rfl
      · cases upB (cx ps i) (cy ps i) (cx ps (nx ps.length i)) (cy ps (nx ps.length i)) p q <;> rfl
    simp only [sumE, parE]
    revert e ih
    generalize rayE ps p q i = u
    generalize parE (rayE ps p q) l = v
    cases u <;> cases v <;> simp [bi] <;> omega
theorem loc_is (ps : List (Int × Int)) (p q : Int) : locE ps p q = if (List.range ps.length).any (onE ps p q) then 0 else if wnd ps p q % 2 = 1 then 1 else -1 := by
  have k := par_sum ps p q (List.range ps.length)
  unfold locE
  rw [sideF_par]
  unfold wnd
  rw [k]
  cases parE (rayE ps p q) (List.range ps.length) <;> simp [bi]
/-- A simple polygon, counterclockwise. -/
def Ccw (ps : List (Int × Int)) : Prop := Simp ps ∧ 0 < area2 ps
theorem ccw_valid {ps : List (Int × Int)} (h : validP ps = true) : Ccw ps := by
  refine ⟨simp_valid h, ?_⟩
  unfold validP at h
  rw [Bool.and_eq_true, Bool.and_eq_true, Bool.and_eq_true] at h
  simpa using h.2.2.2
theorem Ccw.sc {ps : List (Int × Int)} (h : Ccw ps) {N : Int} (hN : 0 < N) : Ccw (scL N ps) := ⟨h.1.sc hN, by rw [area_sc]; exact pp hN (pp hN h.2)⟩
theorem Ccw.wnd {ps : List (Int × Int)} (h : Ccw ps) (p q : Int) : wnd ps p q = 0 ∨ wnd ps p q = 1 := simp_wnd h.1 h.2 p q
/-- Inside an edge the winding number says the edge's direction. -/
theorem Ccw.edge {ps : List (Int × Int)} (h : Ccw ps) {e : Nat} (he : e < ps.length) {p q : Int} (hin : InE ps e p q) : Go.Proofs.YthmcejeeohlafaaDoor.wnd ps p q = dnEi ps e := by
  obtain ⟨R, hR⟩ := edges_val h.1
  have k := at_edge h.1 he (N := 1) (by omega) (p := p) (q := q) (by rw [scL_one]; exact hin)
  rw [scL_one, hR e he] at k
  rcases edges_R h.1 hR with rfl | rfl
  · omega
  · exfalso
    have := area_neg (ps := ps) (by have := h.1.1; omega) (fun N p q hN => by
      have := wnd_all (h.1.sc hN) (val_sc hR hN) p q
      omega)
    have := h.2
    omega
/-! ### The other way round: all coordinates negated -/
theorem tn_neg (x y : Int) : Tn (-65) 0 x y (-1 * x) (-1 * y) := by unfold Tn; omega
theorem neg_tn (ps : List (Int × Int)) : ∀ i, i < ps.length → Tn (-65) 0 (cx ps i) (cy ps i) (cx (scL (-1) ps) i) (cy (scL (-1) ps) i) := fun i _ => by
  rw [(scL_at (-1) ps i).1, (scL_at (-1) ps i).2]
  exact tn_neg _ _
theorem Ccw.neg {ps : List (Int × Int)} (h : Ccw ps) : Ccw (scL (-1) ps) := by
  obtain ⟨⟨h1, h2, h3⟩, h4⟩ := h
  have hcs : (-65 : Int) * -65 + 0 * 0 = 4225 := by decide
  refine ⟨⟨by rw [scL_len]; exact h1, fun i hi => ?_, fun i j hi hj hap => ?_⟩, by rw [tnL_area hcs (scL_len (-1) ps) (neg_tn ps)]; exact h4⟩
  · rw [scL_len] at hi ⊢
    rw [(scL_at (-1) ps i).1, (scL_at (-1) ps i).2, (scL_at (-1) ps _).1, (scL_at (-1) ps _).2, (scL_at (-1) ps _).1, (scL_at (-1) ps _).2]
    rcases h2 i hi with k | k
    · left
      intro e
      apply k
      rw [← e]
      unfold det
      grind
    · right
      have e : ∀ a b c d e f : Int, (-1 * a - -1 * b) * (-1 * c - -1 * b) + (-1 * d - -1 * e) * (-1 * f - -1 * e) = (a - b) * (c - b) + (d - e) * (f - e) := fun a b c d e f => by grind
      rw [e]
      exact k
  · rw [scL_len] at hi hj hap
    have t := neg_tn ps
    have := h3 i j hi hj hap
    unfold segE at this ⊢
    rw [scL_len, segB_tn hcs (t i hi) (t _ (nx_lt' hi)) (t j hj) (t _ (nx_lt' hj))]
    exact this
theorem loc_neg {ps : List (Int × Int)} (h0 : 0 < ps.length) (p q : Int) : locE (scL (-1) ps) (-1 * p) (-1 * q) = locE ps p q :=
  tnL_loc (c := -65) (s := 0) (by decide) h0 (scL_len (-1) ps) (neg_tn ps) (tn_neg p q)
theorem InE.neg {ps : List (Int × Int)} {e : Nat} (he : e < ps.length) {p q : Int} (h : InE ps e p q) : InE (scL (-1) ps) e (-1 * p) (-1 * q) := by
  obtain ⟨a, b, c⟩ := h
  have t := neg_tn ps
  refine ⟨?_, ?_, ?_⟩
  · unfold onE at a ⊢
    rw [scL_len, onB_tn (c := -65) (s := 0) (by decide) (t e he) (t _ (nx_lt' he)) (tn_neg p q)]
    exact a
  · rw [(scL_at (-1) ps e).1, (scL_at (-1) ps e).2]; omega
  · rw [scL_len, (scL_at (-1) ps _).1, (scL_at (-1) ps _).2]; omega
theorem dn_neg {ps : List (Int × Int)} (hs : Simp ps) {e : Nat} (he : e < ps.length) : dnEi (scL (-1) ps) e = 1 - dnEi ps e := by
  have nd := edge_nd hs he
  unfold dnEi dnE
  rw [scL_len, (scL_at (-1) ps e).1, (scL_at (-1) ps e).2, (scL_at (-1) ps _).1, (scL_at (-1) ps _).2]
  by_cases h : cy ps (nx ps.length e) < cy ps e ∨ cy ps e = cy ps (nx ps.length e) ∧ cx ps e < cx ps (nx ps.length e)
  · rw [if_pos h, if_neg (by omega)]; rfl
  · rw [if_neg h, if_pos (by omega)]; rfl
theorem rayB_sc {N : Int} (hN : 0 < N) (a b c d p q : Int) : rayB (N * a) (N * b) (N * c) (N * d) (N * p) (N * q) = rayB a b c d p q := by
  unfold rayB
  rw [upB_sc hN, upB_sc hN]
  have := lt_sc hN d b
  by_cases h : d < b
  · rw [if_pos h, if_pos (this.2 h)]
  · rw [if_neg h, if_neg (fun k => h (this.1 k))]
theorem any_on_sc {N : Int} (hN : 0 < N) (ps : List (Int × Int)) (p q : Int) : (List.range (scL N ps).length).any (onE (scL N ps) (N * p) (N * q)) = (List.range ps.length).any (onE ps p q) := by
  rw [scL_len]
  exact any_congr fun i _ => onE_sc hN ps p q i
theorem loc_sc {N : Int} (hN : 0 < N) (ps : List (Int × Int)) (p q : Int) : locE (scL N ps) (N * p) (N * q) = locE ps p q := by
  rw [loc_is, loc_is, any_on_sc hN, wnd_sc hN]
theorem loc_one' {ps : List (Int × Int)} (h : Ccw ps) {p q : Int} : locE ps p q = 1 ↔ (∀ i, i < ps.length → onE ps p q i = false) ∧ wnd ps p q = 1 := by
  rw [loc_is]
  have w := h.wnd p q
  constructor
  · intro k
    split at k
    · omega
    · rename_i hn
      rw [Bool.not_eq_true, List.any_eq_false] at hn
      refine ⟨fun i hi => by simpa using hn i (List.mem_range.2 hi), ?_⟩
      split at k <;> omega
  · rintro ⟨k1, k2⟩
    rw [if_neg, if_pos (by omega)]
    rw [Bool.not_eq_true, List.any_eq_false]
    exact fun i hi => by rw [k1 i (List.mem_range.1 hi)]; simp
theorem loc_zero {ps : List (Int × Int)} {p q : Int} : locE ps p q = 0 ↔ ∃ i, i < ps.length ∧ onE ps p q i = true := by
  rw [loc_is]
  constructor
  · intro k
    split at k
    · rename_i hn
      obtain ⟨i, hi, h⟩ := List.any_eq_true.1 hn
      exact ⟨i, List.mem_range.1 hi, h⟩
    · split at k <;> omega
  · rintro ⟨i, hi, h⟩
    rw [if_pos (List.any_eq_true.2 ⟨i, List.mem_range.2 hi, h⟩)]
theorem loc_three (ps : List (Int × Int)) (p q : Int) : locE ps p q = 0 ∨ locE ps p q = 1 ∨ locE ps p q = -1 := by
  rw [loc_is]
  split
  · exact .inl rfl
  · split
    · exact .inr (.inl rfl)
    · exact .inr (.inr rfl)
/-- What is inside one part lies on no edge of the other: inside an edge. -/
theorem excl_in {us A B : List (Int × Int)} (hU : Ccw us) (hA : Ccw A) (hB : Ccw B) (HW : ∀ M p q, wnd (scL M us) p q = wnd (scL M A) p q + wnd (scL M B) p q) {p q : Int} (h1 : locE A p q = 1) {g : Nat} (hg : g < B.length) (hin : InE B g p q) : False := by
  have a := ((loc_one' hA).1 h1).2
  have u := hU.wnd p q
  have w := HW 1 p q
  rw [scL_one, scL_one, scL_one, hB.edge hg hin] at w
  have a' := ((loc_one' hA.neg).1 (by rw [loc_neg (by have := hA.1.1; omega)]; exact h1)).2
  have u' := hU.neg.wnd (-1 * p) (-1 * q)
  have w' := HW (-1) (-1 * p) (-1 * q)
  rw [hB.neg.edge (by rw [scL_len]; exact hg) (hin.neg hg), dn_neg hB.1 hg] at w'
  omega
theorem excl {us A B : List (Int × Int)} (hU : Ccw us) (hA : Ccw A) (hB : Ccw B) (HW : ∀ M p q, wnd (scL M us) p q = wnd (scL M A) p q + wnd (scL M B) p q) {p q : Int} (h1 : locE A p q = 1) {g : Nat} (hg : g < B.length) (hon : onE B p q g = true) : False := by
  by_cases hc : ∃ f, f < B.length ∧ p = cx B f ∧ q = cy B f
  · obtain ⟨f, hf, rfl, rfl⟩ := hc
    have off := ((loc_one' hA).1 h1).1
    obtain ⟨N0, hN0⟩ := ex_all (P := fun _ => True) (R := fun i N => segB (N * cx A i) (N * cy A i) (N * cx A (nx A.length i)) (N * cy A (nx A.length i)) (N * cx B f + 0) (N * cy B f + 0) (N * cx B f + (cx B (nx B.length f) - cx B f)) (N * cy B f + (cy B (nx B.length f) - cy B f)) = false) A.length (fun i hi _ => far_seg (off i hi) _ _ _ _)
    obtain ⟨N, hN, hNN⟩ : ∃ N : Int, 2 ≤ N ∧ N0 ≤ N := ⟨N0.natAbs + 2, by omega⟩
    have hfree := hN0 N hNN (by omega)
    have yin := near_in' hB.1 hf hN
    have st := loc_stays (scL N A) (by rw [scL_len]; have := hA.1.1; omega) (x1 := N * cx B f) (x2 := N * cy B f) (y1 := cx B (nx B.length f) - cx B f + N * cx B f) (y2 := cy B (nx B.length f) - cy B f + N * cy B f) (fun i hi => by
      rw [scL_len] at hi
      have := hfree i hi trivial
      rw [scL_len, (scL_at N A i).1, (scL_at N A i).2, (scL_at N A _).1, (scL_at N A _).2]
      rwa [Int.add_zero, Int.add_zero, Int.add_comm (N * cx B f), Int.add_comm (N * cy B f)] at this) (by rw [loc_sc (N := N) (by omega)]; exact h1)
    exact excl_in (hU.sc (N := N) (by omega)) (hA.sc (N := N) (by omega)) (hB.sc (N := N) (by omega)) (fun M p q => by rw [scL_scL, scL_scL, scL_scL]; exact HW (M * N) p q) st (by rw [scL_len]; exact hf) yin
  · exact excl_in hU hA hB HW h1 hg ⟨hon, fun h => hc ⟨g, hg, h⟩, fun h => hc ⟨_, nx_lt' hg, h⟩⟩

/-! ### The cut -/
def esum (E : Int → Int → Int → Int → Int) (ps : List (Int × Int)) : Int := sumE (fun i => E (cx ps i) (cy ps i) (cx ps (nx ps.length i)) (cy ps (nx ps.length i))) (List.range ps.length)
theorem esum_open (E : Int → Int → Int → Int → Int) (ps : List (Int × Int)) (m : Nat) (h : ps.length = m + 1) : esum E ps = sumE (fun i => E (cx ps i) (cy ps i) (cx ps (i + 1)) (cy ps (i + 1))) (List.range m) + E (cx ps m) (cy ps m) (cx ps 0) (cy ps 0) := by
  unfold esum
  rw [h, List.range_succ, sumE_snoc]
  congr 1
  · exact sumE_congr fun i hi => by
      have hi := List.mem_range.1 hi
      rw [nx_small (by omega)]
  · rw [show nx (m + 1) m = 0 by unfold nx; exact Nat.mod_self _]
theorem sumE_split (f : Nat → Int) (a : Nat) : ∀ b, sumE f (List.range (a + b)) = sumE f (List.range a) + sumE (fun i => f (a + i)) (List.range b)
  | 0 => by simp [sumE]
  | b + 1 => by
    rw [← Nat.add_assoc, List.range_succ, sumE_snoc, List.range_succ, sumE_snoc, sumE_split f a b]
    omega
def oneL (us : List (Int × Int)) (k : Nat) : List (Int × Int) := us.take (k + 1)
def twoL (us : List (Int × Int)) (k : Nat) : List (Int × Int) := us.getD 0 (0, 0) :: us.drop k
theorem oneL_len {us : List (Int × Int)} {k : Nat} (h : k < us.length) : (oneL us k).length = k + 1 := by unfold oneL; rw [List.length_take]; omega
theorem twoL_len (us : List (Int × Int)) (k : Nat) : (twoL us k).length = us.length - k + 1 := by unfold twoL; rw [List.length_cons, List.length_drop]
theorem oneL_at {us : List (Int × Int)} {k i : Nat} (h : i ≤ k) : cx (oneL us k) i = cx us i ∧ cy (oneL us k) i = cy us i := by
  unfold cx cy oneL
  rw [List.getD_eq_getElem?_getD, List.getD_eq_getElem?_getD, List.getElem?_take_of_lt (by omega)]
  exact ⟨rfl, rfl⟩
theorem twoL_zero (us : List (Int × Int)) (k : Nat) : cx (twoL us k) 0 = cx us 0 ∧ cy (twoL us k) 0 = cy us 0 := ⟨rfl, rfl⟩
theorem twoL_at (us : List (Int × Int)) (k i : Nat) : cx (twoL us k) (i + 1) = cx us (k + i) ∧ cy (twoL us k) (i + 1) = cy us (k + i) := by
  unfold cx cy twoL
  rw [List.getD_cons_succ, List.getD_eq_getElem?_getD, List.getD_eq_getElem?_getD, List.getElem?_drop]
  exact ⟨rfl, rfl⟩
theorem cut_sum (E : Int → Int → Int → Int → Int) (hE : ∀ a b c d, E c d a b = -E a b c d) {us : List (Int × Int)} {k : Nat} (hk : k + 1 < us.length) : esum E us = esum E (oneL us k) + esum E (twoL us k) := by
  obtain ⟨m, hm⟩ : ∃ m, us.length = (k + m + 1) + 1 := ⟨us.length - k - 2, by omega⟩
  rw [esum_open E us (k + m + 1) hm, esum_open E (oneL us k) k (oneL_len (by omega)), esum_open E (twoL us k) (m + 1 + 1) (by rw [twoL_len]; omega)]
  have s0 : sumE (fun i => E (cx us i) (cy us i) (cx us (i + 1)) (cy us (i + 1))) (List.range (k + m + 1)) = sumE (fun i => E (cx us i) (cy us i) (cx us (i + 1)) (cy us (i + 1))) (List.range k) + sumE (fun i => E (cx us (k + i)) (cy us (k + i)) (cx us (k + i + 1)) (cy us (k + i + 1))) (List.range (m + 1)) := by
    rw [show k + m + 1 = k + (m + 1) by omega]
    exact sumE_split _ k (m + 1)
  have s1 : sumE (fun i => E (cx (oneL us k) i) (cy (oneL us k) i) (cx (oneL us k) (i + 1)) (cy (oneL us k) (i + 1))) (List.range k) = sumE (fun i => E (cx us i) (cy us i) (cx us (i + 1)) (cy us (i + 1))) (List.range k) := sumE_congr fun i hi => by
    have hi := List.mem_range.1 hi
    rw [(oneL_at (show i ≤ k by omega)).1, (oneL_at (show i ≤ k by omega)).2, (oneL_at (show i + 1 ≤ k by omega)).1, (oneL_at (show i + 1 ≤ k by omega)).2]
  have s2 : sumE (fun i => E (cx (twoL us k) i) (cy (twoL us k) i) (cx (twoL us k) (i + 1)) (cy (twoL us k) (i + 1))) (List.range (m + 1 + 1)) = E (cx us 0) (cy us 0) (cx us k) (cy us k) + sumE (fun i => E (cx us (k + i)) (cy us (k + i)) (cx us (k + i + 1)) (cy us (k + i + 1))) (List.range (m + 1)) := by
    rw [sumE_first]
    have h0 : E (cx (twoL us k) 0) (cy (twoL us k) 0) (cx (twoL us k) (0 + 1)) (cy (twoL us k) (0 + 1)) = E (cx us 0) (cy us 0) (cx us k) (cy us k) := by
      rw [(twoL_zero us k).1, (twoL_zero us k).2, (twoL_at us k 0).1, (twoL_at us k 0).2]
      rfl
    rw [h0]
    congr 1
    exact sumE_congr fun i hi => by
      rw [(twoL_at us k i).1, (twoL_at us k i).2, (twoL_at us k (i + 1)).1, (twoL_at us k (i + 1)).2]
      rfl
  rw [s0, s1, s2, (twoL_zero us k).1, (twoL_zero us k).2, (twoL_at us k (m + 1)).1, (twoL_at us k (m + 1)).2, (oneL_at (Nat.le_refl k)).1, (oneL_at (Nat.le_refl k)).2, (oneL_at (Nat.zero_le k)).1, (oneL_at (Nat.zero_le k)).2, hE (cx us 0) (cy us 0) (cx us k) (cy us k), show k + (m + 1) = k + m + 1 by omega]
  generalize sumE (fun i => E (cx us i) (cy us i) (cx us (i + 1)) (cy us (i + 1))) (List.range k) = S
  generalize sumE (fun i => E (cx us (k + i)) (cy us (k + i)) (cx us (k + i + 1)) (cy us (k + i + 1))) (List.range (m + 1)) = T
  omega
theorem wE_rev (a b c d p q : Int) : wE c d a b p q = -wE a b c d p q := by
  unfold wE
  rcases Int.lt_trichotomy b d with h | h | h
  · rw [if_pos h, if_neg (by omega)]
  · subst h
    rw [if_neg (by omega), if_neg (by omega)]
    have z : ∀ x y : Int, upB x b y b p q = false := fun x y => by
      unfold upB
      by_cases g : b ≤ q
      · rw [decide_eq_false (show ¬ q < b by omega), Bool.and_false, Bool.false_and]
      · rw [decide_eq_false g, Bool.false_and, Bool.false_and]
    rw [z, z]; rfl
  · rw [if_neg (by omega), if_pos h]; omega
theorem cut_wnd {us : List (Int × Int)} {k : Nat} (hk : k + 1 < us.length) (p q : Int) : wnd us p q = wnd (oneL us k) p q + wnd (twoL us k) p q :=
  cut_sum (fun a b c d => wE a b c d p q) (fun a b c d => wE_rev a b c d p q) hk
theorem cut_area {us : List (Int × Int)} {k : Nat} (hk : k + 1 < us.length) : area2 us = area2 (oneL us k) + area2 (twoL us k) :=
  cut_sum (fun a b c d => a * d - b * c) (fun a b c d => by grind) hk
theorem oneL_sc (M : Int) (us : List (Int × Int)) (k : Nat) : scL M (oneL us k) = oneL (scL M us) k := by unfold scL oneL; rw [List.map_take]
theorem twoL_sc (M : Int) {us : List (Int × Int)} (k : Nat) (h0 : 0 < us.length) : scL M (twoL us k) = twoL (scL M us) k := by
  cases us with
  | nil => simp at h0
  | cons x l =>
    unfold scL twoL
    rw [List.map_cons, List.map_drop]
    rfl
theorem cut_HW {us : List (Int × Int)} {k : Nat} (hk : k + 1 < us.length) (M p q : Int) : wnd (scL M us) p q = wnd (scL M (oneL us k)) p q + wnd (scL M (twoL us k)) p q := by
  rw [oneL_sc, twoL_sc M k (by omega)]
  exact cut_wnd (by rw [scL_len]; exact hk) p q
/-- The edges of the parts: the polygon's, and the cut. -/
theorem one_on {us : List (Int × Int)} {k : Nat} (hk : k + 1 < us.length) {p q : Int} {e : Nat} (he : e < (oneL us k).length) (h : onE (oneL us k) p q e = true) : e = k ∨ onE us p q e = true := by
  rw [oneL_len (by omega)] at he
  by_cases g : e = k
  · exact .inl g
  · right
    unfold onE at h ⊢
    rw [oneL_len (by omega), nx_small (by omega), (oneL_at (show e ≤ k by omega)).1, (oneL_at (show e ≤ k by omega)).2, (oneL_at (show e + 1 ≤ k by omega)).1, (oneL_at (show e + 1 ≤ k by omega)).2] at h
    rw [nx_small (by omega)]
    exact h
theorem two_on {us : List (Int × Int)} {k : Nat} (hk : k + 1 < us.length) {p q : Int} {e : Nat} (he : e < (twoL us k).length) (h : onE (twoL us k) p q e = true) : e = 0 ∨ onE us p q (k + e - 1) = true := by
  rw [twoL_len] at he
  cases e with
  | zero => exact .inl rfl
  | succ e =>
    right
    rw [show k + (e + 1) - 1 = k + e by omega]
    unfold onE at h ⊢
    by_cases g : e + 1 = us.length - k
    · rw [twoL_len, g, show nx (us.length - k + 1) (us.length - k) = 0 by unfold nx; exact Nat.mod_self _, ← g, (twoL_at us k e).1, (twoL_at us k e).2, (twoL_zero us k).1, (twoL_zero us k).2] at h
      rw [show nx us.length (k + e) = 0 by unfold nx; rw [show k + e + 1 = us.length by omega]; exact Nat.mod_self _]
      exact h
    · rw [twoL_len, nx_small (by omega), (twoL_at us k e).1, (twoL_at us k e).2, (twoL_at us k (e + 1)).1, (twoL_at us k (e + 1)).2] at h
      rw [nx_small (by omega)]
      exact h
theorem us_on {us : List (Int × Int)} {k : Nat} (hk : k + 1 < us.length) {p q : Int} {i : Nat} (hi : i < us.length) (h : onE us p q i = true) : (∃ e, e < (oneL us k).length ∧ onE (oneL us k) p q e = true) ∨ ∃ e, e < (twoL us k).length ∧ onE (twoL us k) p q e = true := by
  unfold onE at h
  by_cases g : i < k
  · left
    refine ⟨i, by rw [oneL_len (by omega)]; omega, ?_⟩
    unfold onE
    rw [oneL_len (by omega), nx_small (by omega), (oneL_at (show i ≤ k by omega)).1, (oneL_at (show i ≤ k by omega)).2, (oneL_at (show i + 1 ≤ k by omega)).1, (oneL_at (show i + 1 ≤ k by omega)).2]
    rw [nx_small (by omega)] at h
    exact h
  · right
    obtain ⟨e, rfl⟩ : ∃ e, i = k + e := ⟨i - k, by omega⟩
    refine ⟨e + 1, by rw [twoL_len]; omega, ?_⟩
    unfold onE
    by_cases g : k + e + 1 = us.length
    · rw [twoL_len, show nx (us.length - k + 1) (e + 1) = 0 by unfold nx; rw [show e + 1 + 1 = us.length - k + 1 by omega]; exact Nat.mod_self _, (twoL_at us k e).1, (twoL_at us k e).2, (twoL_zero us k).1, (twoL_zero us k).2]
      rw [show nx us.length (k + e) = 0 by unfold nx; rw [g]; exact Nat.mod_self _] at h
      exact h
    · rw [twoL_len, nx_small (by omega), (twoL_at us k e).1, (twoL_at us k e).2, (twoL_at us k (e + 1)).1, (twoL_at us k (e + 1)).2]
      rw [nx_small (by omega)] at h
      exact h
/-- A polygon cut in two: a point is in it exactly if it is in one of the parts, and inside at most one. -/
theorem cut_loc {us : List (Int × Int)} {k : Nat} (hk0 : 0 < k) (hk : k + 1 < us.length) (hU : Ccw us) (h1 : Ccw (oneL us k)) (h2 : Ccw (twoL us k)) (p q : Int) :
    (locE (oneL us k) p q < 1 ∨ locE (twoL us k) p q < 0) ∧ (locE (twoL us k) p q < 1 ∨ locE (oneL us k) p q < 0) ∧ (0 ≤ locE us p q ↔ (0 ≤ locE (oneL us k) p q ∨ 0 ≤ locE (twoL us k) p q)) := by
  have HW := cut_HW hk
  have HW' : ∀ M p q, wnd (scL M us) p q = wnd (scL M (twoL us k)) p q + wnd (scL M (oneL us k)) p q := fun M p q => by rw [HW]; omega
  have w := cut_wnd hk p q
  have t1 := loc_three (oneL us k) p q
  have t2 := loc_three (twoL us k) p q
  have t3 := loc_three us p q
  have e1 : locE (oneL us k) p q = 1 → locE (twoL us k) p q ≠ 0 := fun a b => by
    obtain ⟨g, hg, ho⟩ := loc_zero.1 b
    exact excl hU h1 h2 HW a hg ho
  have e2 : locE (twoL us k) p q = 1 → locE (oneL us k) p q ≠ 0 := fun a b => by
    obtain ⟨g, hg, ho⟩ := loc_zero.1 b
    exact excl hU h2 h1 HW' a hg ho
  have e3 : locE (oneL us k) p q = 1 → locE (twoL us k) p q ≠ 1 := fun a b => by
    have a := ((loc_one' h1).1 a).2
    have b := ((loc_one' h2).1 b).2
    have := hU.wnd p q
    omega
  refine ⟨by omega, by omega, ?_⟩
  by_cases hon : locE us p q = 0
  · obtain ⟨i, hi, ho⟩ := loc_zero.1 hon
    have : locE (oneL us k) p q = 0 ∨ locE (twoL us k) p q = 0 := (us_on hk hi ho).imp (fun h => loc_zero.2 h) (fun h => loc_zero.2 h)
    omega
  · have off : ∀ i, i < us.length → onE us p q i = false := fun i hi => by
      cases g : onE us p q i with
      | false => rfl
      | true => exact absurd (loc_zero.2 ⟨i, hi, g⟩) hon
    have nc : ∀ i, i < us.length → ¬ (p = cx us i ∧ q = cy us i) := fun i hi => by
      rintro ⟨rfl, rfl⟩
      have := off i hi
      unfold onE at this
      rw [on_first] at this
      cases this
    have chord : onE (oneL us k) p q k = true ∨ onE (twoL us k) p q 0 = true → locE us p q = 1 := fun h => by
      have cl1 : nx (oneL us k).length k = 0 := by rw [oneL_len (by omega)]; unfold nx; exact Nat.mod_self _
      have cl2 : nx (twoL us k).length 0 = 1 := by rw [twoL_len]; exact nx_small (by omega)
      have o1 : onB (cx us k) (cy us k) (cx us 0) (cy us 0) p q = true := by
        rcases h with h | h
        · unfold onE at h
          rw [cl1, (oneL_at (Nat.le_refl k)).1, (oneL_at (Nat.le_refl k)).2, (oneL_at (Nat.zero_le k)).1, (oneL_at (Nat.zero_le k)).2] at h
          exact h
        · unfold onE at h
          rw [cl2, (twoL_zero us k).1, (twoL_zero us k).2, (twoL_at us k 0).1, (twoL_at us k 0).2, Nat.add_zero] at h
          rw [← onB_rev]
          exact h
      have i1 : InE (oneL us k) k p q := by
        refine ⟨?_, ?_, ?_⟩
        · unfold onE
          rw [cl1, (oneL_at (Nat.le_refl k)).1, (oneL_at (Nat.le_refl k)).2, (oneL_at (Nat.zero_le k)).1, (oneL_at (Nat.zero_le k)).2]
          exact o1
        · rw [(oneL_at (Nat.le_refl k)).1, (oneL_at (Nat.le_refl k)).2]
          exact nc k (by omega)
        · rw [cl1, (oneL_at (Nat.zero_le k)).1, (oneL_at (Nat.zero_le k)).2]
          exact nc 0 (by omega)
      have i2 : InE (twoL us k) 0 p q := by
        refine ⟨?_, ?_, ?_⟩
        · unfold onE
          rw [cl2, (twoL_zero us k).1, (twoL_zero us k).2, (twoL_at us k 0).1, (twoL_at us k 0).2, Nat.add_zero, ← onB_rev]
          exact o1
        · rw [(twoL_zero us k).1, (twoL_zero us k).2]
          exact nc 0 (by omega)
        · rw [cl2, (twoL_at us k 0).1, (twoL_at us k 0).2, Nat.add_zero]
          exact nc k (by omega)
      have v1 := h1.edge (by rw [oneL_len (by omega)]; omega) i1
      have v2 := h2.edge (by rw [twoL_len]; omega) i2
      have nd := edge_nd h1.1 (e := k) (by rw [oneL_len (by omega)]; omega)
      unfold dnEi at v1 v2
      rw [cl1, (oneL_at (Nat.le_refl k)).1, (oneL_at (Nat.le_refl k)).2, (oneL_at (Nat.zero_le k)).1, (oneL_at (Nat.zero_le k)).2] at v1 nd
      rw [cl2, (twoL_zero us k).1, (twoL_zero us k).2, (twoL_at us k 0).1, (twoL_at us k 0).2, Nat.add_zero] at v2
      have s : dnE (cx us k) (cy us k) (cx us 0) (cy us 0) + dnE (cx us 0) (cy us 0) (cx us k) (cy us k) = 1 := by
        unfold dnE
        by_cases h : cy us 0 < cy us k ∨ cy us k = cy us 0 ∧ cx us k < cx us 0
        · rw [if_pos h, if_neg (by omega)]; rfl
        · rw [if_neg h, if_pos (by omega)]; rfl
      exact (loc_one' hU).2 ⟨off, by omega⟩
    by_cases z1 : locE (oneL us k) p q = 0
    · obtain ⟨e, he, ho⟩ := loc_zero.1 z1
      rcases one_on hk he ho with rfl | h
      · have := chord (.inl ho); omega
      · rw [oneL_len (by omega)] at he
        rw [off e (by omega)] at h; cases h
    · by_cases z2 : locE (twoL us k) p q = 0
      · obtain ⟨e, he, ho⟩ := loc_zero.1 z2
        rcases two_on hk he ho with rfl | h
        · have := chord (.inr ho); omega
        · rw [twoL_len] at he
          rw [off _ (by omega)] at h; cases h
      · have a1 : locE (oneL us k) p q = 1 ↔ wnd (oneL us k) p q = 1 := ⟨fun h => ((loc_one' h1).1 h).2, fun h => (loc_one' h1).2 ⟨fun i hi => by
          cases g : onE (oneL us k) p q i with
          | false => rfl
          | true => exact absurd (loc_zero.2 ⟨i, hi, g⟩) z1, h⟩⟩
        have a2 : locE (twoL us k) p q = 1 ↔ wnd (twoL us k) p q = 1 := ⟨fun h => ((loc_one' h2).1 h).2, fun h => (loc_one' h2).2 ⟨fun i hi => by
          cases g : onE (twoL us k) p q i with
          | false => rfl
          | true => exact absurd (loc_zero.2 ⟨i, hi, g⟩) z2, h⟩⟩
        have a3 : locE us p q = 1 ↔ wnd us p q = 1 := ⟨fun h => ((loc_one' hU).1 h).2, fun h => (loc_one' hU).2 ⟨off, h⟩⟩
        have b1 := h1.wnd p q
        have b2 := h2.wnd p q
        have b3 := hU.wnd p q
        omega
#print axioms cut_loc
end Go.Proofs.YthmcejeeohlafaaDoor
