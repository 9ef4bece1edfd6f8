/- Helpers: what the law reaches. -/
import Derived.Test.YtalhkcmlacppjaaGreatDoorZsHuB
import Derived.Test.YtalhkcmlacppjaaGreatDoorZsHk
namespace Go.Proofs.YtalhkcmlacppjaaGreatDoor
open Go.ChangeShapes Go.WideShapes Go.ChangeAt Go.RowKit
set_option linter.unusedVariables false
set_option linter.unusedSimpArgs false

theorem pop_ng (p : Int × Int) : ∀ st : List (Int × Int), popS (ng p) (st.map ng) = (popS p st).map ng
  | [] => rfl
  | [x] => rfl
  | t :: s :: r => by
    have ih := pop_ng p (s :: r)
    show (if dt (ng s) (ng t) (ng p) ≤ 0 then popS (ng p) ((s :: r).map ng) else ng t :: ng s :: r.map ng) = _
    rw [dt_ng, ih]
    show _ = (if dt s t p ≤ 0 then popS p (s :: r) else t :: s :: r).map ng
    split <;> rfl
theorem fold_ng : ∀ (l st : List (Int × Int)), (l.map ng).foldl pushS (st.map ng) = (l.foldl pushS st).map ng
  | [], st => rfl
  | p :: l, st => by
    show (l.map ng).foldl pushS (pushS (st.map ng) (ng p)) = _
    have : pushS (st.map ng) (ng p) = (pushS st p).map ng := by unfold pushS; rw [pop_ng]; rfl
    rw [this]; exact fold_ng l _
theorem chain_ng (l : List (Int × Int)) : chainS (l.map ng) = (chainS l).map ng := fold_ng l []

def halfL (l : List (Int × Int)) : List (Int × Int) := (chainS l).tail.reverse
theorem half_len (l : List (Int × Int)) : (halfL l).length = (chainS l).length - 1 := by simp [halfL]
theorem half_eq (l : List (Int × Int)) : halfL l = (List.range ((chainS l).length - 1)).map fun i => gp (chainS l) ((chainS l).length - 1 - i) := by
  refine List.ext_getElem (by simp [halfL]) fun i h1 h2 => ?_
  rw [half_len] at h1
  simp only [halfL, List.getElem_reverse, List.getElem_tail, List.getElem_map, List.getElem_range, List.length_tail]
  rw [gp_lt (by omega)]
  congr 1
  omega
theorem gp_map (l : List (Int × Int)) (i : Nat) (hi : i < l.length) : gp (l.map ng) i = ng (gp l i) := by
  rw [gp_lt (by simpa using hi), gp_lt hi, List.getElem_map]
theorem lo_congr {l : List (Int × Int)} {s t : Nat → Int × Int} {k : Nat} (h : Lo l s k) (e : ∀ i, i ≤ k → s i = t i) : Lo l t k :=
  ⟨fun i hi => e i hi ▸ h.mem i hi, fun i hi => by rw [← e i (by omega), ← e (i + 1) (by omega)]; exact h.up i hi, fun i hi q hq => by rw [← e i (by omega), ← e (i + 1) (by omega)]; exact h.weak i hi q hq,
    fun i hi => by rw [← e i (by omega), ← e (i + 1) (by omega), ← e (i + 2) (by omega)]; exact h.turn i hi, fun q hq => by rw [← e 0 (by omega)]; exact h.low q hq, fun q hq => by rw [← e k (by omega)]; exact h.top q hq⟩
theorem lo_mem {l l' : List (Int × Int)} {s : Nat → Int × Int} {k : Nat} (h : Lo l s k) (e : ∀ q, q ∈ l ↔ q ∈ l') : Lo l' s k :=
  ⟨fun i hi => (e _).1 (h.mem i hi), h.up, fun i hi q hq => h.weak i hi q ((e q).2 hq), h.turn, fun q hq => h.low q ((e q).2 hq), fun q hq => h.top q ((e q).2 hq)⟩

/-- All points are one point. -/
theorem flat_all {l : List (Int × Int)} {x : Int × Int} (h : ∀ q ∈ l, q = x) : ∀ a ∈ l, ∀ b ∈ l, ∀ c ∈ l, dt a b c = 0 := fun a ha b hb c hc => by
  rw [h a ha, h b hb]; exact dt_flat _ _
theorem line_all {l : List (Int × Int)} {x y : Int × Int} (hne : x ≠ y) (h : ∀ q ∈ l, dt x y q = 0) : ∀ a ∈ l, ∀ b ∈ l, ∀ c ∈ l, dt a b c = 0 := fun a ha b hb c hc => by
  have h1 := h a ha
  have h2 := h b hb
  have h3 := h c hc
  rw [dt_vx] at h1 h2 h3
  have e1 : vx (sb y x) (sb b a) = 0 := by
    have : vx (sb y x) (sb b a) = vx (sb y x) (sb b x) - vx (sb y x) (sb a x) := by unfold vx sb; simp only; grind
    omega
  have e2 : vx (sb y x) (sb c a) = 0 := by
    have : vx (sb y x) (sb c a) = vx (sb y x) (sb c x) - vx (sb y x) (sb a x) := by unfold vx sb; simp only; grind
    omega
  have k1 : (sb y x).1 * vx (sb b a) (sb c a) = (sb b a).1 * vx (sb y x) (sb c a) - (sb c a).1 * vx (sb y x) (sb b a) := by unfold vx; grind
  have k2 : (sb y x).2 * vx (sb b a) (sb c a) = (sb b a).2 * vx (sb y x) (sb c a) - (sb c a).2 * vx (sb y x) (sb b a) := by unfold vx; grind
  rw [e1, e2] at k1 k2
  rw [dt_vx]
  by_cases d1 : (sb y x).1 = 0
  · by_cases d2 : (sb y x).2 = 0
    · exact absurd (Prod.ext (by unfold sb at d1; simp only at d1; omega) (by unfold sb at d2; simp only at d2; omega)) hne
    · rcases Int.mul_eq_zero.1 (show (sb y x).2 * vx (sb b a) (sb c a) = 0 by omega) with g | g
      · exact absurd g d2
      · exact g
  · rcases Int.mul_eq_zero.1 (show (sb y x).1 * vx (sb b a) (sb c a) = 0 by omega) with g | g
    · exact absurd g d1
    · exact g
theorem ch_flat {l : List (Int × Int)} {x : Int × Int} (h : ∀ q ∈ l, q = x) : ∀ st, Ch l st → st.length ≤ 1
  | [], h1 => h1.elim
  | [_], _ => by simp
  | t :: s :: r, h1 => by
    have a := h t h1.1.1
    have b := h s h1.2.2.mem
    exact absurd (b.trans a.symm) (llt_ne h1.1.2.1)
theorem rev_sorted {s : List (Int × Int)} (hs : s.Pairwise lle) : (s.reverse.map ng).Pairwise lle := by
  rw [List.pairwise_map, List.pairwise_reverse]
  exact hs.imp fun h => lle_ng.2 h
theorem st_len {l : List (Int × Int)} {x : Int × Int} {st : List (Int × Int)} (h : ∀ q ∈ l, q = x) (hS : St l st) : st.length - 1 ≤ 1 := by
  rcases hS with ⟨_, rfl⟩ | ⟨_, _, _, rfl⟩ | ⟨t, r, rfl, hC, _⟩
  · simp
  · simp
  · have := ch_flat h _ hC
    omega
theorem hull_sorted {s : List (Int × Int)} (hs : s.Pairwise lle) : ((halfL s ++ halfL s.reverse).length < 3 ∧ ∀ a ∈ s, ∀ b ∈ s, ∀ c ∈ s, dt a b c = 0) ∨ (3 ≤ (halfL s ++ halfL s.reverse).length ∧ IsHull s (halfL s ++ halfL s.reverse)) := by
  have S1 := chain_st hs
  have S2 := chain_st (rev_sorted hs)
  rw [chain_ng] at S2
  have hm : ∀ q, q ∈ s.reverse.map ng ↔ q ∈ s.map ng := fun q => by simp
  have L : (halfL s ++ halfL s.reverse).length = ((chainS s).length - 1) + ((chainS s.reverse).length - 1) := by rw [List.length_append, half_len, half_len]
  -- all points are one
  have one : ∀ x, (∀ q ∈ s, q = x) → (halfL s ++ halfL s.reverse).length < 3 ∧ ∀ a ∈ s, ∀ b ∈ s, ∀ c ∈ s, dt a b c = 0 := fun x hx => by
    have a := st_len hx S1
    have b := st_len (x := ng x) (fun q hq => by
      obtain ⟨y, hy, e⟩ := List.mem_map.1 ((hm q).1 hq)
      rw [← e, hx y hy]) S2
    rw [List.length_map] at b
    exact ⟨by omega, flat_all hx⟩
  rcases S1 with ⟨rfl, h1⟩ | ⟨x, h1, h2, h3⟩ | ⟨t, r, e1, hC1, hT1⟩
  · exact .inl (one (0, 0) (fun q hq => by cases hq))
  · exact .inl (one x h1)
  have h1 := hC1.mem
  rcases S2 with ⟨h2, _⟩ | ⟨x, h2, h3, h4⟩ | ⟨t', r', e2, hC2, hT2⟩
  · have : ng t ∈ s.reverse.map ng := (hm _).2 (mem_ng.2 h1)
    rw [h2] at this
    cases this
  · exact .inl (one (ng x) fun q hq => ng_inj (by rw [ng_ng]; exact h2 _ ((hm _).2 (mem_ng.2 hq))))
  rw [← e1] at hC1
  rw [← e2] at hC2
  obtain ⟨L1, p1⟩ := lo_of_ch hC1 (by rw [e1]; exact hT1)
  obtain ⟨L2, p2⟩ := lo_of_ch hC2 (by rw [e2]; exact hT2)
  replace L2 := lo_mem L2 hm
  rw [List.length_map] at L2 p2
  have U2 : Up s (fun i => gp (chainS s.reverse) ((chainS s.reverse).length - 1 - i)) ((chainS s.reverse).length - 1) := lo_congr L2 fun i hi => by
    dsimp only
    rw [gp_map _ _ (by omega)]
  rw [half_eq, half_eq]
  rw [half_eq, half_eq] at one L
  generalize (chainS s).length - 1 = k at *
  generalize (chainS s.reverse).length - 1 = m at *
  generalize (fun i => gp (chainS s) (k - i)) = f at *
  generalize (fun i => gp (chainS s.reverse) (m - i)) = g at *
  have E1 : g 0 = f k := lle_anti (L1.top _ (U2.mem (Nat.zero_le _))) (lle_ng.1 (Lo.low U2 (ng (f k)) (mem_ng.2 (L1.mem k (Nat.le_refl _)))))
  have E2 : g m = f 0 := lle_anti (lle_ng.1 (Lo.top U2 (ng (f 0)) (mem_ng.2 (L1.mem 0 (Nat.zero_le _))))) (L1.low _ (U2.mem (Nat.le_refl _)))
  rcases Nat.eq_zero_or_pos k with hk | hk
  · subst hk
    exact .inl (one (f 0) fun q hq => (lle_anti (L1.low q hq) (L1.top q hq)).symm)
  rcases Nat.eq_zero_or_pos m with hm0 | hm0
  · subst hm0
    exact .inl (one (g 0) fun q hq => lle_anti (by rw [E1]; exact L1.top q hq) (by rw [E2]; exact L1.low q hq))
  rcases Nat.lt_or_ge (k + m) 3 with h3 | h3
  · obtain rfl : k = 1 := by omega
    obtain rfl : m = 1 := by omega
    refine .inl ⟨by rw [L]; omega, line_all (x := f 0) (y := f 1) (llt_ne (L1.up 0 (by omega))) fun q hq => ?_⟩
    have a := L1.weak 0 (by omega) q hq
    have b := U2.weak (j := 0) (by omega) hq
    rw [show (0 : Nat) + 1 = 1 from rfl] at a b
    rw [E1, E2, dt_swap] at b
    omega
  · exact .inr ⟨by rw [L]; exact h3, ring_hull L1 U2 hk hm0 h3 E1 E2⟩

section
variable {l h : List (Int × Int)}
theorem conv_tri (hC : Conv h) {i : Nat} (hi : i < h.length) : 0 < dt (gp h i) (gp h (nx h.length i)) (gp h (nx h.length (nx h.length i))) := by
  have h3 := hC.1
  refine hC.2 i _ hi (nx_lt (by omega)) (fun e => ?_) (nx_ne (by omega) (nx_lt (by omega)))
  unfold nx at e
  rcases Nat.lt_or_ge (i + 1) h.length with g | g
  · rw [Nat.mod_eq_of_lt g] at e
    rcases Nat.lt_or_ge (i + 1 + 1) h.length with g2 | g2
    · rw [Nat.mod_eq_of_lt g2] at e; omega
    · rw [show i + 1 + 1 = h.length by omega, Nat.mod_self] at e; omega
  · rw [show i + 1 = h.length by omega, Nat.mod_self, Nat.mod_eq_of_lt (by omega)] at e; omega
theorem conv_inj (hC : Conv h) {i j : Nat} (hi : i < h.length) (hj : j < h.length) (e : gp h i = gp h j) : i = j := by
  have h3 := hC.1
  refine Classical.byContradiction fun hne => ?_
  by_cases hn : j = nx h.length i
  · have := conv_tri hC hi
    rw [← hn, ← e, dt_flat] at this
    omega
  · have := hC.2 i j hi hj (fun g => hne g.symm) hn
    rw [← e, dt_self] at this
    omega
/-- The first corner is the smallest of all points. -/
theorem hull_first (hH : IsHull l h) : ∀ q ∈ l, lle (gp h 0) q := fun q hq => by
  obtain ⟨hC, hm, hw, h0⟩ := hH
  have h3 := hC.1
  obtain ⟨z, hz⟩ : ∃ z, z = h.length - 1 := ⟨_, rfl⟩
  have nz : nx h.length z = 0 := by unfold nx; rw [hz, show h.length - 1 + 1 = h.length by omega, Nat.mod_self]
  have n0 : nx h.length 0 = 1 := nx_small (by omega)
  have a := hw 0 (by omega) q hq
  have b := hw z (by omega) q hq
  have c := hC.2 0 z (by omega) (by omega) (by omega) (by rw [n0]; omega)
  rw [nz] at b
  rw [n0] at a c
  have l1 := lle_llt (h0 1 (by omega)) (fun e => by have := conv_inj hC (by omega) (by omega) e; omega)
  have l2 := lle_llt (h0 z (by omega)) (fun e => by have := conv_inj hC (by omega) (by omega) e; omega)
  generalize gp h 0 = o at *
  generalize gp h 1 = y at *
  generalize gp h z = x at *
  -- q - o is a sum of multiples of y - o and x - o
  have k1 : dt o y x * (q.1 - o.1) = dt x o q * (y.1 - o.1) + dt o y q * (x.1 - o.1) := by unfold dt det; grind
  have k2 : dt o y x * (q.2 - o.2) = dt x o q * (y.2 - o.2) + dt o y q * (x.2 - o.2) := by unfold dt det; grind
  generalize dt o y x = D at *
  generalize dt x o q = A at *
  generalize dt o y q = B at *
  have y1 : 0 ≤ y.1 - o.1 := by unfold llt at l1; omega
  have x1 : 0 ≤ x.1 - o.1 := by unfold llt at l2; omega
  have m1 := Int.mul_nonneg b y1
  have m2 := Int.mul_nonneg a x1
  have q1 : 0 ≤ q.1 - o.1 := by
    refine Int.not_lt.1 fun hn => ?_
    have := Int.mul_neg_of_pos_of_neg c hn
    omega
  rcases Int.lt_or_eq_of_le q1 with g | g
  · left; omega
  · right
    refine ⟨by omega, ?_⟩
    rw [← g, Int.mul_zero] at k1
    have z1 : A * (y.1 - o.1) = 0 := by omega
    have z2 : B * (x.1 - o.1) = 0 := by omega
    have w1 : 0 ≤ A * (y.2 - o.2) := by
      rcases Int.mul_eq_zero.1 z1 with g1 | g1
      · rw [g1]; simp
      · exact Int.mul_nonneg b (by unfold llt at l1; omega)
    have w2 : 0 ≤ B * (x.2 - o.2) := by
      rcases Int.mul_eq_zero.1 z2 with g1 | g1
      · rw [g1]; simp
      · exact Int.mul_nonneg a (by unfold llt at l2; omega)
    refine Int.not_lt.1 fun hn => ?_
    have := Int.mul_neg_of_pos_of_neg c (show q.2 - o.2 < 0 by omega)
    omega
theorem ray_le {a b c x : Int × Int} (h0 : dt a b c = 0) (hx : 0 < dt a b x) (h1 : 0 ≤ dt b x c) : (b.1 - a.1) * (c.1 - a.1) + (b.2 - a.2) * (c.2 - a.2) ≤ (b.1 - a.1) * (b.1 - a.1) + (b.2 - a.2) * (b.2 - a.2) := by
  have e1 : dt b x c = dt a b x - dt a c x - dt a b c := by unfold dt det; grind
  have e2 : ((b.1 - a.1) * (c.1 - a.1) + (b.2 - a.2) * (c.2 - a.2)) * dt a b x = ((b.1 - a.1) * (b.1 - a.1) + (b.2 - a.2) * (b.2 - a.2)) * dt a c x + dt a b c * ((b.1 - a.1) * (x.1 - a.1) + (b.2 - a.2) * (x.2 - a.2)) := by unfold dt det; grind
  rw [h0, Int.zero_mul, Int.add_zero] at e2
  have hU : 0 ≤ (b.1 - a.1) * (b.1 - a.1) + (b.2 - a.2) * (b.2 - a.2) := by
    have p : ∀ z : Int, 0 ≤ z * z := fun z => by
      rcases Int.le_total 0 z with g | g
      · exact Int.mul_nonneg g g
      · exact Int.mul_nonneg_of_nonpos_of_nonpos g g
    have := p (b.1 - a.1)
    have := p (b.2 - a.2)
    omega
  have m : ((b.1 - a.1) * (b.1 - a.1) + (b.2 - a.2) * (b.2 - a.2)) * dt a c x ≤ ((b.1 - a.1) * (b.1 - a.1) + (b.2 - a.2) * (b.2 - a.2)) * dt a b x := Int.mul_le_mul_of_nonneg_left (by omega) hU
  rw [← e2] at m
  exact Int.le_of_mul_le_mul_right m hx
/-- Two points that both are next in the same direction are one. -/
theorem ray_same {a b c x y : Int × Int} (h0 : dt a b c = 0) (hx : 0 < dt a b x) (hy : 0 < dt a c y) (h1 : 0 ≤ dt b x c) (h2 : 0 ≤ dt c y b) (hd : 0 < (b.1 - a.1) * (c.1 - a.1) + (b.2 - a.2) * (c.2 - a.2)) : b = c := by
  have r1 := ray_le h0 hx h1
  have r2 := ray_le (a := a) (b := c) (c := b) (x := y) (by
    have : dt a c b = -dt a b c := by unfold dt det; grind
    omega) hy h2
  have e3 : ((b.1 - a.1) * (c.1 - a.1) + (b.2 - a.2) * (c.2 - a.2)) * ((b.1 - a.1) * (c.1 - a.1) + (b.2 - a.2) * (c.2 - a.2)) = ((b.1 - a.1) * (b.1 - a.1) + (b.2 - a.2) * (b.2 - a.2)) * ((c.1 - a.1) * (c.1 - a.1) + (c.2 - a.2) * (c.2 - a.2)) - dt a b c * dt a b c := by unfold dt det; grind
  rw [h0, Int.zero_mul, Int.sub_zero] at e3
  have e4 : (c.1 - a.1) * (b.1 - a.1) + (c.2 - a.2) * (b.2 - a.2) = (b.1 - a.1) * (c.1 - a.1) + (b.2 - a.2) * (c.2 - a.2) := by grind
  rw [e4] at r2
  have e5 : (b.1 - c.1) * (b.1 - c.1) + (b.2 - c.2) * (b.2 - c.2) = ((b.1 - a.1) * (b.1 - a.1) + (b.2 - a.2) * (b.2 - a.2)) - 2 * ((b.1 - a.1) * (c.1 - a.1) + (b.2 - a.2) * (c.2 - a.2)) + ((c.1 - a.1) * (c.1 - a.1) + (c.2 - a.2) * (c.2 - a.2)) := by grind
  generalize (b.1 - a.1) * (c.1 - a.1) + (b.2 - a.2) * (c.2 - a.2) = W at *
  generalize (b.1 - a.1) * (b.1 - a.1) + (b.2 - a.2) * (b.2 - a.2) = U at *
  generalize (c.1 - a.1) * (c.1 - a.1) + (c.2 - a.2) * (c.2 - a.2) = V at *
  have hU : U = W := by
    refine Int.le_antisymm (Int.not_lt.1 fun g => ?_) r1
    have m1 : W * W < U * W := Int.mul_lt_mul_of_pos_right g hd
    have m2 : U * W ≤ U * V := Int.mul_le_mul_of_nonneg_left r2 (by omega)
    omega
  have hV : V = W := by
    refine Int.le_antisymm (Int.not_lt.1 fun g => ?_) r2
    have m1 : W * W < V * W := Int.mul_lt_mul_of_pos_right g hd
    have m2 : W * V ≤ U * V := Int.mul_le_mul_of_nonneg_right r1 (by omega)
    have m3 : V * W = W * V := Int.mul_comm _ _
    omega
  have z : (b.1 - c.1) * (b.1 - c.1) + (b.2 - c.2) * (b.2 - c.2) = 0 := by omega
  have p : ∀ z : Int, 0 ≤ z * z := fun z => by
    rcases Int.le_total 0 z with g | g
    · exact Int.mul_nonneg g g
    · exact Int.mul_nonneg_of_nonpos_of_nonpos g g
  have p1 := p (b.1 - c.1)
  have p2 := p (b.2 - c.2)
  have z1 : b.1 - c.1 = 0 := by rcases Int.mul_eq_zero.1 (show (b.1 - c.1) * (b.1 - c.1) = 0 by omega) with g | g <;> exact g
  have z2 : b.2 - c.2 = 0 := by rcases Int.mul_eq_zero.1 (show (b.2 - c.2) * (b.2 - c.2) = 0 by omega) with g | g <;> exact g
  exact Prod.ext (by omega) (by omega)
theorem dot_pos {a b c : Int × Int} (h0 : dt a b c = 0) {f : Int × Int} (h1 : 0 < vx f (sb b a)) (h2 : 0 < vx f (sb c a)) : 0 < (b.1 - a.1) * (c.1 - a.1) + (b.2 - a.2) * (c.2 - a.2) := by
  -- both on the left of f, and parallel
  have k : ((b.1 - a.1) * (c.1 - a.1) + (b.2 - a.2) * (c.2 - a.2)) * vx f (sb b a) = ((b.1 - a.1) * (b.1 - a.1) + (b.2 - a.2) * (b.2 - a.2)) * vx f (sb c a) - dt a b c * (f.1 * (b.1 - a.1) + f.2 * (b.2 - a.2)) := by unfold dt det vx sb; simp only; grind
  rw [h0, Int.zero_mul, Int.sub_zero] at k
  have p : ∀ z : Int, 0 ≤ z * z := fun z => by
    rcases Int.le_total 0 z with g | g
    · exact Int.mul_nonneg g g
    · exact Int.mul_nonneg_of_nonpos_of_nonpos g g
  have hU : 0 < (b.1 - a.1) * (b.1 - a.1) + (b.2 - a.2) * (b.2 - a.2) := by
    have p1 := p (b.1 - a.1)
    have p2 := p (b.2 - a.2)
    refine Int.not_le.1 fun g => ?_
    have z1 : b.1 - a.1 = 0 := by rcases Int.mul_eq_zero.1 (show (b.1 - a.1) * (b.1 - a.1) = 0 by omega) with g | g <;> exact g
    have z2 : b.2 - a.2 = 0 := by rcases Int.mul_eq_zero.1 (show (b.2 - a.2) * (b.2 - a.2) = 0 by omega) with g | g <;> exact g
    unfold vx sb at h1
    simp only [z1, z2] at h1
    omega
  have m := Int.mul_pos hU h2
  rw [← k] at m
  refine Int.not_le.1 fun g => ?_
  have := Int.mul_nonneg (show 0 ≤ -((b.1 - a.1) * (c.1 - a.1) + (b.2 - a.2) * (c.2 - a.2)) by omega) (Int.le_of_lt h1)
  rw [Int.neg_mul] at this
  omega
theorem dot_lex {a b c : Int × Int} (h0 : dt a b c = 0) (h1 : llt a b) (h2 : llt a c) : 0 < (b.1 - a.1) * (c.1 - a.1) + (b.2 - a.2) * (c.2 - a.2) := by
  unfold dt det at h0
  rcases h1 with h1 | ⟨h1, h1'⟩
  · rcases h2 with h2 | ⟨h2, h2'⟩
    · exact dot_pos (f := (0, -1)) (by unfold dt det; exact h0) (by unfold vx sb; simp only; omega) (by unfold vx sb; simp only; omega)
    · exfalso
      have : 0 < (b.1 - a.1) * (c.2 - a.2) := Int.mul_pos (by omega) (by omega)
      rw [show c.1 - a.1 = 0 by omega, Int.mul_zero] at h0
      omega
  · rcases h2 with h2 | ⟨h2, h2'⟩
    · exfalso
      have : 0 < (b.2 - a.2) * (c.1 - a.1) := Int.mul_pos (by omega) (by omega)
      rw [show b.1 - a.1 = 0 by omega, Int.zero_mul] at h0
      omega
    · have : 0 < (b.2 - a.2) * (c.2 - a.2) := Int.mul_pos (by omega) (by omega)
      rw [show b.1 - a.1 = 0 by omega, Int.zero_mul]
      omega
/-- The next corner. -/
theorem next_same {h g : List (Int × Int)} (hH : IsHull l h) (hG : IsHull l g) {i j : Nat} (hi : i < h.length) (hj : j < g.length) (e : gp h i = gp g j) (hd : dt (gp h i) (gp h (nx h.length i)) (gp g (nx g.length j)) = 0 → 0 < ((gp h (nx h.length i)).1 - (gp h i).1) * ((gp g (nx g.length j)).1 - (gp h i).1) + ((gp h (nx h.length i)).2 - (gp h i).2) * ((gp g (nx g.length j)).2 - (gp h i).2)) : gp h (nx h.length i) = gp g (nx g.length j) := by
  have h3 := hH.1.1
  have g3 := hG.1.1
  have ni : nx h.length i < h.length := nx_lt (by omega)
  have nj : nx g.length j < g.length := nx_lt (by omega)
  have a := hH.2.2.1 i hi _ (hG.2.1 _ nj)
  have b := hG.2.2.1 j hj _ (hH.2.1 _ ni)
  rw [← e] at b
  have z : dt (gp h i) (gp h (nx h.length i)) (gp g (nx g.length j)) = 0 := by
    have : dt (gp h i) (gp g (nx g.length j)) (gp h (nx h.length i)) = -dt (gp h i) (gp h (nx h.length i)) (gp g (nx g.length j)) := by unfold dt det; grind
    omega
  have t2 := conv_tri hG.1 hj
  rw [← e] at t2
  exact ray_same z (conv_tri hH.1 hi) t2 (hH.2.2.1 _ ni _ (hG.2.1 _ nj)) (hG.2.2.1 _ nj _ (hH.2.1 _ ni)) (hd z)
theorem hull_unique {h g : List (Int × Int)} (hH : IsHull l h) (hG : IsHull l g) : h = g := by
  have h3 := hH.1.1
  have g3 := hG.1.1
  have e0 : gp h 0 = gp g 0 := lle_anti (hull_first hH _ (hG.2.1 0 (by omega))) (hull_first hG _ (hH.2.1 0 (by omega)))
  -- the corner by number, round and round
  have all : ∀ i, gp h (i % h.length) = gp g (i % g.length) ∧ gp h ((i + 1) % h.length) = gp g ((i + 1) % g.length) := fun i => by
    induction i with
    | zero =>
      refine ⟨by simpa using e0, ?_⟩
      have k := next_same hH hG (i := 0) (j := 0) (by omega) (by omega) e0 (fun z => by
        have a := conv_inj hH.1 (i := 0) (j := nx h.length 0) (by omega) (nx_lt (by omega))
        have b := conv_inj hG.1 (i := 0) (j := nx g.length 0) (by omega) (nx_lt (by omega))
        have na := nx_ne (n := h.length) (i := 0) (by omega) (by omega)
        have nb := nx_ne (n := g.length) (i := 0) (by omega) (by omega)
        exact dot_lex z (lle_llt (hull_first hH _ (hH.2.1 _ (nx_lt (by omega)))) (fun e => na (a e).symm)) (lle_llt (hull_first hH _ (hG.2.1 _ (nx_lt (by omega)))) (fun e => nb (b (e0 ▸ e)).symm)))
      simpa [nx] using k
    | succ i ih =>
      refine ⟨ih.2, ?_⟩
      have m1 : (i + 1) % h.length < h.length := Nat.mod_lt _ (by omega)
      have m2 : (i + 1) % g.length < g.length := Nat.mod_lt _ (by omega)
      have n1 : nx h.length (i % h.length) = (i + 1) % h.length := by unfold nx; simp
      have n2 : nx g.length (i % g.length) = (i + 1) % g.length := by unfold nx; simp
      have o1 : nx h.length ((i + 1) % h.length) = (i + 1 + 1) % h.length := by unfold nx; simp
      have o2 : nx g.length ((i + 1) % g.length) = (i + 1 + 1) % g.length := by unfold nx; simp
      have k := next_same hH hG m1 m2 ih.2 (fun z => by
        have t1 := conv_tri hH.1 (i := i % h.length) (Nat.mod_lt _ (by omega))
        have t2 := conv_tri hG.1 (i := i % g.length) (Nat.mod_lt _ (by omega))
        rw [n1] at t1
        rw [n2, ← ih.1, ← ih.2] at t2
        refine dot_pos z (f := sb (gp h ((i + 1) % h.length)) (gp h (i % h.length))) ?_ ?_
        · have e : ∀ p a b : Int × Int, dt p a b = vx (sb a p) (sb b a) := fun p a b => by unfold dt det vx sb; simp only; grind
          rw [← e]; exact t1
        · have e : ∀ p a b : Int × Int, dt p a b = vx (sb a p) (sb b a) := fun p a b => by unfold dt det vx sb; simp only; grind
          rw [← e]; exact t2)
      rwa [o1, o2] at k
  have len : ∀ {h g : List (Int × Int)}, Conv h → 3 ≤ g.length → (∀ i, gp h (i % h.length) = gp g (i % g.length)) → g.length % h.length = 0 := fun {h g} hC k3 hall => by
    have := hall g.length
    rw [Nat.mod_self] at this
    have z := hall 0
    rw [Nat.zero_mod, Nat.zero_mod] at z
    exact conv_inj hC (Nat.mod_lt _ (by have := hC.1; omega)) (by have := hC.1; omega) (this.trans z.symm)
  have l1 := len hH.1 g3 (fun i => (all i).1)
  have l2 := len hG.1 h3 (fun i => (all i).1.symm)
  have hl : h.length = g.length := Nat.dvd_antisymm (Nat.dvd_of_mod_eq_zero l1) (Nat.dvd_of_mod_eq_zero l2)
  refine gp_ext hl fun i hi => ?_
  have := (all i).1
  rwa [Nat.mod_eq_of_lt hi, Nat.mod_eq_of_lt (by omega)] at this
/-- The same points, the same hulls. -/
theorem isHull_mem {l l' h : List (Int × Int)} (e : ∀ q, q ∈ l ↔ q ∈ l') (hH : IsHull l h) : IsHull l' h :=
  ⟨hH.1, fun i hi => (e _).1 (hH.2.1 i hi), fun i hi q hq => hH.2.2.1 i hi q ((e q).2 hq), hH.2.2.2⟩
theorem hull_not {h : List (Int × Int)} (hH : IsHull l h) : ¬ ∀ a ∈ l, ∀ b ∈ l, ∀ c ∈ l, dt a b c = 0 := fun g => by
  have h3 := hH.1.1
  have := conv_tri hH.1 (i := 0) (by omega)
  rw [g _ (hH.2.1 _ (by omega)) _ (hH.2.1 _ (nx_lt (by omega))) _ (hH.2.1 _ (nx_lt (by omega)))] at this
  omega
end
end Go.Proofs.YtalhkcmlacppjaaGreatDoor

