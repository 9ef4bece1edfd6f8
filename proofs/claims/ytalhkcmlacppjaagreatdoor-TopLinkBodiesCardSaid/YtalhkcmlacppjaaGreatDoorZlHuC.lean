/- Helpers: what the law reaches. -/
import Derived.Test.YtalhkcmlacppjaaGreatDoorZlHuB
import Derived.Test.YtalhkcmlacppjaaGreatDoorZlHk
namespace Go.Proofs.YtalhkcmlacppjaaGreatDoor
open Go.ChangeShapes Go.WideShapes Go.ChangeAt Go.RowKit
set_option linter.unusedVariables false
set_option linter.unusedSimpArgs false

theorem pop_ng (p : Int × Int) : ∀ st : List (Int × Int), popS (ng p) (st.map ng) = (popS p st).map ng
  | [] => rfl
  | [x] => rfl
  | t :: s :: r => by
    have ih := pop_ng p (s :: r)
    show (if dt (ng s) (ng t) (ng p) ≤ 0 then popS (ng p) ((s :: r).map ng) else ng t :: ng s :: r.map ng) = _
    rw [dt_ng, ih]
    show _ = (if dt s t p ≤ 0 then popS p (s :: r) else t :: s :: r).map ng
    split <;> rfl
theorem fold_ng : ∀ (l st : List (Int × Int)), (l.map ng).foldl pushS (st.map ng) = (l.foldl pushS st).map ng
  | [], st => rfl
  | p :: l, st => by
    show (l.map ng).foldl pushS (pushS (st.map ng) (ng p)) = _
    have : pushS (st.map ng) (ng p) = (pushS st p).map ng := by unfold pushS; rw [pop_ng]; rfl
    rw [this]; exact fold_ng l _
theorem chain_ng (l : List (Int × Int)) : chainS (l.map ng) = (chainS l).map ng := fold_ng l []

def halfL (l : List (Int × Int)) : List (Int × Int) := (chainS l).tail.reverse
theorem half_len (l : List (Int × Int)) : (halfL l).length = (chainS l).length - 1 := by simp [halfL]
theorem half_eq (l : List (Int × Int)) : halfL l = (List.range ((chainS l).length - 1)).map fun i => gp (chainS l) ((chainS l).length - 1 - i) := by
  refine List.ext_getElem (by simp [halfL]) fun i h1 h2 => ?_
  rw [half_len] at h1
  simp only [halfL, List.getElem_reverse, List.getElem_tail, List.getElem_map, List.getElem_range, List.length_tail]
  rw [gp_lt (by omega)]
  congr 1
  omega
theorem gp_map (l : List (Int × Int)) (i : Nat) (hi : i < l.length) : gp (l.map ng) i = ng (gp l i) := by
  rw [gp_lt (by simpa using hi), gp_lt hi, List.getElem_map]
theorem lo_congr {l : List (Int × Int)} {s t : Nat → Int × Int} {k : Nat} (h : Lo l s k) (e : ∀ i, i ≤ k → s i = t i) : Lo l t k :=
  ⟨fun i hi => e i hi ▸ h.mem i hi, fun i hi => by rw [← e i (by omega), ← e (i + 1) (by omega)]; exact h.up i hi, fun i hi q hq => by rw [← e i (by omega), ← e (i + 1) (by omega)]; exact h.weak i hi q hq,
    fun i hi => by rw [← e i (by omega), ← e (i + 1) (by omega), ← e (i + 2) (by omega)]; exact h.turn i hi, fun q hq => by rw [← e 0 (by omega)]; exact h.low q hq, fun q hq => by rw [← e k (by omega)]; exact h.top q hq⟩
theorem lo_mem {l l' : List (Int × Int)} {s : Nat → Int × Int} {k : Nat} (h : Lo l s k) (e : ∀ q, q ∈ l ↔ q ∈ l') : Lo l' s k :=
  ⟨fun i hi => (e _).1 (h.mem i hi), h.up, fun i hi q hq => h.weak i hi q ((e q).2 hq), h.turn, fun q hq => h.low q ((e q).2 hq), fun q hq => h.top q ((e q).2 hq)⟩

/-- All points are one point. -/
theorem flat_all {l : List (Int × Int)} {x : Int × Int} (h : ∀ q ∈ l, q = x) : ∀ a ∈ l, ∀ b ∈ l, ∀ c ∈ l, dt a b c = 0 := fun a ha b hb c hc => by
  rw [h a ha, h b hb]; exact dt_flat _ _
theorem line_all {l : List (Int × Int)} {x y : Int × Int} (hne : x ≠ y) (h : ∀ q ∈ l, dt x y q = 0) : ∀ a ∈ l, ∀ b ∈ l, ∀ c ∈ l, dt a b c = 0 := fun a ha b hb c hc => by
  have h1 := h a ha
  have h2 := h b hb
  have h3 := h c hc
  rw [dt_vx] at h1 h2 h3
  have e1 : vx (sb y x) (sb b a) = 0 := by
    have : vx (sb y x) (sb b a) = vx (sb y x) (sb b x) - vx (sb y x) (sb a x) := by unfold vx sb; simp only; grind
    omega
  have e2 : vx (sb y x) (sb c a) = 0 := by
    have : vx (sb y x) (sb c a) = vx (sb y x) (sb c x) - vx (sb y x) (sb a x) := by unfold vx sb; simp only; grind
    omega
  have k1 : (sb y x).1 * vx (sb b a) (sb c a) = (sb b a).1 * vx (sb y x) (sb c a) - (sb c a).1 * vx (sb y x) (sb b a) := by unfold vx; grind
  have k2 : (sb y x).2 * vx (sb b a) (sb c a) = (sb b a).2 * vx (sb y x) (sb c a) - (sb c a).2 * vx (sb y x) (sb b a) := by unfold vx; grind
  rw [e1, e2] at k1 k2
  rw [dt_vx]
  by_cases d1 : (sb y x).1 = 0
  · by_cases d2 : (sb y x).2 = 0
    · exact absurd (Prod.ext (by unfold sb at d1; simp only at d1; omega) (by unfold sb at d2; simp only at d2; omega)) hne
    · rcases Int.mul_eq_zero.1 (show (sb y x).2 * vx (sb b a) (sb c a) = 0 by omega) with g | g
      · exact absurd g d2
      · exact g
  · rcases Int.mul_eq_zero.1 (show (sb y x).1 * vx (sb b a) (sb c a) = 0 by omega) with g | g
    · exact absurd g d1
    · exact g
theorem ch_flat {l : List (Int × Int)} {x : Int × Int} (h : ∀ q ∈ l, q = x) : ∀ st, Ch l st → st.length ≤ 1
  | [], h1 => h1.elim
  | [_], _ => by simp
  | t :: s :: r, h1 => by
    have a := h t h1.1.1
    have b := h s h1.2.2.mem
    exact absurd (b.trans a.symm) (llt_ne h1.1.2.1)
theorem rev_sorted {s : List (Int × Int)} (hs : s.Pairwise lle) : (s.reverse.map ng).Pairwise lle := by
  rw [List.pairwise_map, List.pairwise_reverse]
  exact hs.imp fun h => lle_ng.2 h
theorem st_len {l : List (Int × Int)} {x : Int × Int} {st : List (Int × Int)} (h : ∀ q ∈ l, q = x) (hS : St l st) : st.length - 1 ≤ 1 := by
  rcases hS with ⟨_, rfl⟩ | ⟨_, _, _, rfl⟩ | ⟨t, r, rfl, hC, _⟩
  · simp
  · simp
  · have := ch_flat h _ hC
    omega
theorem hull_sorted {s : List (Int × Int)} (hs : s.Pairwise lle) : ((halfL s ++ halfL s.reverse).length < 3 ∧ ∀ a ∈ s, ∀ b ∈ s, ∀ c ∈ s, dt a b c = 0) ∨ (3 ≤ (halfL s ++ halfL s.reverse).length ∧ IsHull s (halfL s ++ halfL s.reverse)) := by
  have S1 := chain_st hs
  have S2 := chain_st (rev_sorted hs)
  rw [chain_ng] at S2
  have hm : ∀ q, q ∈ s.reverse.map ng ↔ q ∈ s.map ng := fun q => by simp
  have L : (halfL s ++ halfL s.reverse).length = ((chainS s).length - 1) + ((chainS s.reverse).length - 1) := by rw [List.length_append, half_len, half_len]
  -- all points are one
  have one : ∀ x, (∀ q ∈ s, q = x) → (halfL s ++ halfL s.reverse).length < 3 ∧ ∀ a ∈ s, ∀ b ∈ s, ∀ c ∈ s, dt a b c = 0 := fun x hx => by
    have a := st_len hx S1
    have b := st_len (x := ng x) (fun q hq => by
      obtain ⟨y, hy, e⟩ := List.mem_map.1 ((hm q).1 hq)
      rw [← e, hx y hy]) S2
    rw [List.length_map] at b
    exact ⟨by omega, flat_all hx⟩
  rcases S1 with ⟨rfl, h1⟩ | ⟨x, h1, h2, h3⟩ | ⟨t, r, e1, hC1, hT1⟩
  · exact .inl (one (0, 0) (fun q hq => by cases hq))
  · exact .inl (one x h1)
  have h1 := hC1.mem
  rcases S2 with ⟨h2, _⟩ | ⟨x, h2, h3, h4⟩ | ⟨t', r', e2, hC2, hT2⟩
  · have : ng t ∈ s.reverse.map ng := (hm _).2 (mem_ng.2 h1)
    rw [h2] at this
    cases this
  · exact .inl (one (ng x) fun q hq => ng_inj (by rw [ng_ng]; exact h2 _ ((hm _).2 (mem_ng.2 hq))))
  rw [← e1] at hC1
  rw [← e2] at hC2
  obtain ⟨L1, p1⟩ := lo_of_ch hC1 (by rw [e1]; exact hT1)
  obtain ⟨L2, p2⟩ := lo_of_ch hC2 (by rw [e2]; exact hT2)
  replace L2 := lo_mem L2 hm
  rw [List.length_map] at L2 p2
  have U2 : Up s (fun i => gp (chainS s.reverse) ((chainS s.reverse).length - 1 - i)) ((chainS s.reverse).length - 1) := lo_congr L2 fun i hi => by
    dsimp only
    rw [gp_map _ _ (by omega)]
  rw [half_eq, half_eq]
  rw [half_eq, half_eq] at one L
  generalize (chainS s).length - 1 = k at *
  generalize (chainS s.reverse).length - 1 = m at *
  generalize (fun i => gp (chainS s) (k - i)) = f at *
  generalize (fun i => gp (chainS s.reverse) (m - i)) = g at *
  have E1 : g 0 = f k := lle_anti (L1.top _ (U2.mem (Nat.zero_le _))) (lle_ng.1 (Lo.low U2 (ng (f k)) (mem_ng.2 (L1.mem k (Nat.le_refl _)))))
  have E2 : g m = f 0 := lle_anti (lle_ng.1 (Lo.top U2 (ng (f 0)) (mem_ng.2 (L1.mem 0 (Nat.zero_le _))))) (L1.low _ (U2.mem (Nat.le_refl _)))
  rcases Nat.eq_zero_or_pos k with hk | hk
  · subst hk
    exact .inl (one (f 0) fun q hq => (lle_anti (L1.low q hq) (L1.top q hq)).symm)
  rcases Nat.eq_zero_or_pos m with hm0 | hm0
  · subst hm0
    exact .inl (one (g 0) fun q hq => lle_anti (by rw [E1]; exact L1.top q hq) (by rw [E2]; exact L1.low q hq))
  rcases Nat.lt_or_ge (k + m) 3 with h3 | h3
  · obtain rfl : k = 1 := by omega
    obtain rfl : m = 1 := by omega
    refine .inl ⟨by rw [L]; omega, line_all (x := f 0) (y := f 1) (llt_ne (L1.up 0 (by omega))) fun q hq => ?_⟩
    have a := L1.weak 0 (by omega) q hq
    have b := U2.weak (j := 0) (by omega) hq
    rw [show (0 : Nat) + 1 = 1 from rfl] at a b
    rw [E1, E2, dt_swap] at b
    omega
  · exact .inr ⟨by rw [L]; exact h3, ring_hull L1 U2 hk hm0 h3 E1 E2⟩

section
variable {l h : List (Int × Int)}
theorem conv_tri (hC : Conv h) {i : Nat} (hi : i < h.length) : 0 < dt (gp h i) (gp h (nx h.length i)) (gp h (nx h.length (nx h.length i))) := by
  have h3 := hC.1
  refine hC.2 i _ hi (nx_lt (by omega)) (fun e => ?_) (nx_ne (by omega) (nx_lt (by omega)))
  unfold nx at e
  rcases Nat.lt_or_ge (i + 1) h.length with g | g
  · rw [Nat.mod_eq_of_lt g] at e
    rcases Nat.lt_or_ge (i + 1 + 1) h.length with g2 | g2
    · rw [Nat.mod_eq_of_lt g2] at e; omega
    · rw [show i + 1 + 1 = h.length by omega, Nat.mod_self] at e; omega
  · rw [show i + 1 = h.length by omega, Nat.mod_self, Nat.mod_eq_of_lt (by omega)] at e; omega
theorem conv_inj (hC : Conv h) {i j : Nat} (hi : i < h.length) (hj : j < h.length) (e : gp h i = gp h j) : i = j := by
  have h3 := hC.1
  refine Classical.byContradiction fun hne => ?_
  by_cases hn : j = nx h.length i
  · have := conv_tri hC hi
    rw [← hn, ← e, dt_flat] at this
    omega
  · have := hC.2 i j hi hj (fun g => hne g.symm) hn
    rw [← e, dt_self] at this
    omega
/-- The same points, the same hulls. -/
theorem isHull_mem {l l' h : List (Int × Int)} (e : ∀ q, q ∈ l ↔ q ∈ l') (hH : IsHull l h) : IsHull l' h :=
  ⟨hH.1, fun i hi => (e _).1 (hH.2.1 i hi), fun i hi q hq => hH.2.2.1 i hi q ((e q).2 hq), hH.2.2.2⟩
end
end Go.Proofs.YtalhkcmlacppjaaGreatDoor

