/- Winding numbers of polygons, part E: the values of all edges. -/
import Derived.Test.YthmcejeeohlafaaDoorJorD
namespace Go.Proofs.YthmcejeeohlafaaDoor
open Go.ChangeShapes Go.WideShapes Go.ChangeAt Go.RowKit
set_option linter.unusedVariables false
set_option linter.unusedSimpArgs false

theorem wE_mov (a b c d p q u v : Int) : wE (a + u) (b + v) (c + u) (d + v) (p + u) (q + v) = wE a b c d p q := by
  unfold wE
  rw [upB_mov, upB_mov]
  by_cases h : d < b
  · rw [if_pos h, if_pos (by omega)]
  · rw [if_neg h, if_neg (by omega)]
theorem inQ_mov (x1 x2 y1 y2 p q u v : Int) : inQ (x1 + u) (x2 + v) (y1 + u) (y2 + v) (p + u) (q + v) = inQ x1 x2 y1 y2 p q := by
  have e : det (x1 + u) (x2 + v) (y1 + u) (y2 + v) (p + u) (q + v) = det x1 x2 y1 y2 p q := by unfold det; grind
  unfold inQ
  rw [e, lt_mov, le_mov]
theorem btw_near {N A : Int} (hN : 2 ≤ N) (B : Int) : Btw (N * A + B) B (A + B) := by
  unfold Btw
  rcases Int.le_total 0 A with g | g
  · have : 1 * A ≤ N * A := Int.mul_le_mul_of_nonneg_right (by omega) g
    right; omega
  · have : N * A ≤ 1 * A := Int.mul_le_mul_of_nonpos_right (by omega) g
    left; omega
theorem on_near {N A1 A2 B1 B2 : Int} (hN : 2 ≤ N) : onB (N * A1 + B1) (N * A2 + B2) B1 B2 (A1 + B1) (A2 + B2) = true :=
  on_iff.2 ⟨btw_near hN B1, btw_near hN B2, by grind⟩
theorem near_ne {N A1 A2 B1 B2 : Int} (hN : 2 ≤ N) (h : ¬ (A1 = 0 ∧ A2 = 0)) : ¬ (A1 + B1 = N * A1 + B1 ∧ A2 + B2 = N * A2 + B2) := by
  rintro ⟨e1, e2⟩
  have k1 : (N - 1) * A1 = 0 := by have : (N - 1) * A1 = N * A1 - A1 := by grind
                                   omega
  have k2 : (N - 1) * A2 = 0 := by have : (N - 1) * A2 = N * A2 - A2 := by grind
                                   omega
  have := Int.mul_eq_zero.1 k1
  have := Int.mul_eq_zero.1 k2
  omega
theorem gd_rel {a1 a2 b1 b2 c1 c2 : Int} (h : Gd a1 a2 b1 b2 c1 c2) : (a1 - b1) * (c2 - b2) - (a2 - b2) * (c1 - b1) ≠ 0 ∨ (a1 - b1) * (c1 - b1) + (a2 - b2) * (c2 - b2) < 0 := by
  rcases h with h | h
  · left
    have : det a1 a2 b1 b2 c1 c2 = -((a1 - b1) * (c2 - b2) - (a2 - b2) * (c1 - b1)) := by unfold det; grind
    omega
  · exact .inr h
theorem dn_rel (a b c d : Int) : dnE a b c d = dnE (a - c) (b - d) 0 0 := by
  unfold dnE
  by_cases h : d < b ∨ b = d ∧ a < c
  · rw [if_pos h, if_pos (by omega)]
  · rw [if_neg h, if_neg (by omega)]
theorem dn_rel' (a b c d : Int) : dnE a b c d = dnE 0 0 (c - a) (d - b) := by
  unfold dnE
  by_cases h : d < b ∨ b = d ∧ a < c
  · rw [if_pos h, if_pos (by omega)]
  · rw [if_neg h, if_neg (by omega)]
/-- The corner behind edge e, near by: a point on e, a point on the next edge. -/
theorem near_in {ps : List (Int × Int)} (hs : Simp ps) {e : Nat} (he : e < ps.length) {N : Int} (hN : 2 ≤ N) :
    InE (scL N ps) e ((cx ps e - cx ps (nx ps.length e)) + N * cx ps (nx ps.length e)) ((cy ps e - cy ps (nx ps.length e)) + N * cy ps (nx ps.length e)) := by
  have nd := edge_nd hs he
  have k1 : N * cx ps e = N * (cx ps e - cx ps (nx ps.length e)) + N * cx ps (nx ps.length e) := by grind
  have k2 : N * cy ps e = N * (cy ps e - cy ps (nx ps.length e)) + N * cy ps (nx ps.length e) := by grind
  refine ⟨?_, ?_, ?_⟩
  · unfold onE
    rw [scL_len, (scL_at N ps e).1, (scL_at N ps e).2, (scL_at N ps _).1, (scL_at N ps _).2, k1, k2]
    exact on_near hN
  · rw [(scL_at N ps e).1, (scL_at N ps e).2, k1, k2]
    exact near_ne hN (by omega)
  · rw [scL_len, (scL_at N ps _).1, (scL_at N ps _).2]
    omega
theorem near_in' {ps : List (Int × Int)} (hs : Simp ps) {f : Nat} (hf : f < ps.length) {N : Int} (hN : 2 ≤ N) :
    InE (scL N ps) f ((cx ps (nx ps.length f) - cx ps f) + N * cx ps f) ((cy ps (nx ps.length f) - cy ps f) + N * cy ps f) := by
  have nd := edge_nd hs hf
  have k1 : N * cx ps (nx ps.length f) = N * (cx ps (nx ps.length f) - cx ps f) + N * cx ps f := by grind
  have k2 : N * cy ps (nx ps.length f) = N * (cy ps (nx ps.length f) - cy ps f) + N * cy ps f := by grind
  refine ⟨?_, ?_, ?_⟩
  · unfold onE
    rw [scL_len, (scL_at N ps f).1, (scL_at N ps f).2, (scL_at N ps _).1, (scL_at N ps _).2, k1, k2, ← onB_rev]
    exact on_near hN
  · rw [(scL_at N ps f).1, (scL_at N ps f).2]
    omega
  · rw [scL_len, (scL_at N ps _).1, (scL_at N ps _).2, k1, k2]
    exact near_ne hN (by omega)
/-- Claim B: from an edge to the next. -/
theorem corner_step {ps : List (Int × Int)} (hs : Simp ps) {e : Nat} (he : e < ps.length) : vE ps e - vE ps (nx ps.length e) = dnEi ps e - dnEi ps (nx ps.length e) := by
  have hf := nx_lt' he
  have hef : e ≠ nx ps.length e := fun h => nx_ne (by have := hs.1; omega) he h.symm
  obtain ⟨N0, hN0⟩ := ex_all (P := fun g => g ≠ e ∧ g ≠ nx ps.length e) (R := fun g N => segB (N * cx ps g) (N * cy ps g) (N * cx ps (nx ps.length g)) (N * cy ps (nx ps.length g)) (N * cx ps (nx ps.length e) + (cx ps e - cx ps (nx ps.length e))) (N * cy ps (nx ps.length e) + (cy ps e - cy ps (nx ps.length e))) (N * cx ps (nx ps.length e) + (cx ps (nx ps.length (nx ps.length e)) - cx ps (nx ps.length e))) (N * cy ps (nx ps.length e) + (cy ps (nx ps.length (nx ps.length e)) - cy ps (nx ps.length e))) = false) ps.length (fun g hg hp => far_seg (corner_off hs he hg hp.1 hp.2) _ _ _ _)
  have hgd := gd_rel (hs.2.1 e he)
  obtain ⟨N, hN, hNN, ha, hc⟩ : ∃ N : Int, 2 ≤ N ∧ N0 ≤ N ∧ (-N < cy ps e - cy ps (nx ps.length e) ∧ cy ps e - cy ps (nx ps.length e) < N) ∧ (-N < cy ps (nx ps.length (nx ps.length e)) - cy ps (nx ps.length e) ∧ cy ps (nx ps.length (nx ps.length e)) - cy ps (nx ps.length e) < N) := ⟨N0.natAbs + (cy ps e - cy ps (nx ps.length e)).natAbs + (cy ps (nx ps.length (nx ps.length e)) - cy ps (nx ps.length e)).natAbs + 2, by omega⟩
  have hfree := hN0 N hNN (by omega)
  have yin := near_in hs he hN
  have zin := near_in' hs hf hN
  have ly := at_edge hs he (by omega) yin
  have lz := at_edge hs hf (by omega) zin
  rw [← ly, ← lz]
  clear ly lz hN0 hNN
  have he' : e < (scL N ps).length := by rw [scL_len]; exact he
  have hf' : nx ps.length e < (scL N ps).length := by rw [scL_len]; exact hf
  have w1 := wEi_on yin.1
  have w2 := wEi_on zin.1
  have ka1 : N * cx ps e = N * (cx ps e - cx ps (nx ps.length e)) + N * cx ps (nx ps.length e) := by grind
  have ka2 : N * cy ps e = N * (cy ps e - cy ps (nx ps.length e)) + N * cy ps (nx ps.length e) := by grind
  have kc1 : N * cx ps (nx ps.length (nx ps.length e)) = N * (cx ps (nx ps.length (nx ps.length e)) - cx ps (nx ps.length e)) + N * cx ps (nx ps.length e) := by grind
  have kc2 : N * cy ps (nx ps.length (nx ps.length e)) = N * (cy ps (nx ps.length (nx ps.length e)) - cy ps (nx ps.length e)) + N * cy ps (nx ps.length e) := by grind
  have U := valU (C1 := cx ps (nx ps.length (nx ps.length e)) - cx ps (nx ps.length e)) (C2 := cy ps (nx ps.length (nx ps.length e)) - cy ps (nx ps.length e)) (A1 := cx ps e - cx ps (nx ps.length e)) hN ha
  have T := valT (A1 := cx ps e - cx ps (nx ps.length e)) (A2 := cy ps e - cy ps (nx ps.length e)) (C1 := cx ps (nx ps.length (nx ps.length e)) - cx ps (nx ps.length e)) hN hc
  have hU : wEi (scL N ps) (cx ps e - cx ps (nx ps.length e) + N * cx ps (nx ps.length e)) (cy ps e - cy ps (nx ps.length e) + N * cy ps (nx ps.length e)) (nx ps.length e) = wE 0 0 (N * (cx ps (nx ps.length (nx ps.length e)) - cx ps (nx ps.length e))) (N * (cy ps (nx ps.length (nx ps.length e)) - cy ps (nx ps.length e))) (cx ps e - cx ps (nx ps.length e)) (cy ps e - cy ps (nx ps.length e)) := by
    unfold wEi
    rw [scL_len, (scL_at N ps _).1, (scL_at N ps _).2, (scL_at N ps _).1, (scL_at N ps _).2, kc1, kc2, ← wE_mov 0 0 _ _ _ _ (N * cx ps (nx ps.length e)) (N * cy ps (nx ps.length e)), Int.zero_add, Int.zero_add]
  have hT : wEi (scL N ps) (cx ps (nx ps.length (nx ps.length e)) - cx ps (nx ps.length e) + N * cx ps (nx ps.length e)) (cy ps (nx ps.length (nx ps.length e)) - cy ps (nx ps.length e) + N * cy ps (nx ps.length e)) e = wE (N * (cx ps e - cx ps (nx ps.length e))) (N * (cy ps e - cy ps (nx ps.length e))) 0 0 (cx ps (nx ps.length (nx ps.length e)) - cx ps (nx ps.length e)) (cy ps (nx ps.length (nx ps.length e)) - cy ps (nx ps.length e)) := by
    unfold wEi
    rw [scL_len, (scL_at N ps e).1, (scL_at N ps e).2, (scL_at N ps _).1, (scL_at N ps _).2, ka1, ka2, ← wE_mov _ _ 0 0 _ _ (N * cx ps (nx ps.length e)) (N * cy ps (nx ps.length e)), Int.zero_add, Int.zero_add]
  have key := corner_UT hgd
  rw [← U, ← T] at key
  rw [← dn_rel, ← dn_rel'] at key
  unfold dnEi
  rw [← key]
  have seg : ∀ i, i < (scL N ps).length → i ≠ e → i ≠ nx ps.length e → segB (cx (scL N ps) i) (cy (scL N ps) i) (cx (scL N ps) (nx (scL N ps).length i)) (cy (scL N ps) (nx (scL N ps).length i)) (cx ps e - cx ps (nx ps.length e) + N * cx ps (nx ps.length e)) (cy ps e - cy ps (nx ps.length e) + N * cy ps (nx ps.length e)) (cx ps (nx ps.length (nx ps.length e)) - cx ps (nx ps.length e) + N * cx ps (nx ps.length e)) (cy ps (nx ps.length (nx ps.length e)) - cy ps (nx ps.length e) + N * cy ps (nx ps.length e)) = false := fun i hi h1 h2 => by
    rw [scL_len] at hi ⊢
    have := hfree i hi ⟨h1, h2⟩
    rw [(scL_at N ps i).1, (scL_at N ps i).2, (scL_at N ps _).1, (scL_at N ps _).2]
    rwa [Int.add_comm (N * cx ps (nx ps.length e)), Int.add_comm (N * cy ps (nx ps.length e)), Int.add_comm (N * cx ps (nx ps.length e)), Int.add_comm (N * cy ps (nx ps.length e))] at this
  have cen1 : cx (scL N ps) (nx (scL N ps).length e) = N * cx ps (nx ps.length e) := by rw [scL_len]; exact (scL_at N ps _).1
  have cen2 : cy (scL N ps) (nx (scL N ps).length e) = N * cy ps (nx ps.length e) := by rw [scL_len]; exact (scL_at N ps _).2
  have cfn1 : cx (scL N ps) (nx (scL N ps).length (nx ps.length e)) = N * cx ps (nx ps.length (nx ps.length e)) := by rw [scL_len]; exact (scL_at N ps _).1
  have cfn2 : cy (scL N ps) (nx (scL N ps).length (nx ps.length e)) = N * cy ps (nx ps.length (nx ps.length e)) := by rw [scL_len]; exact (scL_at N ps _).2
  rcases Int.lt_trichotomy (cy ps e - cy ps (nx ps.length e)) (cy ps (nx ps.length (nx ps.length e)) - cy ps (nx ps.length e)) with h | h | h
  · have k := wnd_two (scL N ps) e (nx ps.length e) hef he' hf' (show cy ps e - cy ps (nx ps.length e) + N * cy ps (nx ps.length e) < cy ps (nx ps.length (nx ps.length e)) - cy ps (nx ps.length e) + N * cy ps (nx ps.length e) by omega) seg
    rw [w1, w2, hU, hT, cen1, cen2, cfn1, cfn2, (scL_at N ps e).1, (scL_at N ps e).2, (scL_at N ps (nx ps.length e)).1, (scL_at N ps (nx ps.length e)).2] at k
    have q1 : inQ (cx ps e - cx ps (nx ps.length e) + N * cx ps (nx ps.length e)) (cy ps e - cy ps (nx ps.length e) + N * cy ps (nx ps.length e)) (cx ps (nx ps.length (nx ps.length e)) - cx ps (nx ps.length e) + N * cx ps (nx ps.length e)) (cy ps (nx ps.length (nx ps.length e)) - cy ps (nx ps.length e) + N * cy ps (nx ps.length e)) (N * cx ps e) (N * cy ps e) = false := by
      rw [ka1, ka2, inQ_mov]; exact valQ1 hN h hc
    have q2 := valQ2 (A1 := cx ps e - cx ps (nx ps.length e)) (C1 := cx ps (nx ps.length (nx ps.length e)) - cx ps (nx ps.length e)) hN h ha
    rw [← inQ_mov _ _ _ _ _ _ (N * cx ps (nx ps.length e)) (N * cy ps (nx ps.length e)), ← kc1, ← kc2] at q2
    rw [q1, q2, show bi false = 0 from rfl] at k
    rw [if_pos h, if_neg (by omega)]
    omega
  · rw [if_neg (by omega), if_neg (by omega)]
    have seg' := seg
    rw [← h] at seg' ⊢
    have k := wnd_flat2 (scL N ps) e (nx ps.length e) hef he' hf' seg'
    rw [← h] at w2 hT hU
    rw [w1, w2, hU, hT] at k
    omega
  · have k := wnd_two (scL N ps) e (nx ps.length e) hef he' hf' (show cy ps (nx ps.length (nx ps.length e)) - cy ps (nx ps.length e) + N * cy ps (nx ps.length e) < cy ps e - cy ps (nx ps.length e) + N * cy ps (nx ps.length e) by omega) (fun i hi h1 h2 => by rw [segB_rev2]; exact seg i hi h1 h2)
    rw [w1, w2, hU, hT, cen1, cen2, cfn1, cfn2, (scL_at N ps e).1, (scL_at N ps e).2, (scL_at N ps (nx ps.length e)).1, (scL_at N ps (nx ps.length e)).2] at k
    have q1 : inQ (cx ps (nx ps.length (nx ps.length e)) - cx ps (nx ps.length e) + N * cx ps (nx ps.length e)) (cy ps (nx ps.length (nx ps.length e)) - cy ps (nx ps.length e) + N * cy ps (nx ps.length e)) (cx ps e - cx ps (nx ps.length e) + N * cx ps (nx ps.length e)) (cy ps e - cy ps (nx ps.length e) + N * cy ps (nx ps.length e)) (N * cx ps (nx ps.length (nx ps.length e))) (N * cy ps (nx ps.length (nx ps.length e))) = false := by
      rw [kc1, kc2, inQ_mov]; exact valQ1 hN h ha
    have q2 := valQ2 (A1 := cx ps (nx ps.length (nx ps.length e)) - cx ps (nx ps.length e)) (C1 := cx ps e - cx ps (nx ps.length e)) hN h hc
    rw [← inQ_mov _ _ _ _ _ _ (N * cx ps (nx ps.length e)) (N * cy ps (nx ps.length e)), ← ka1, ← ka2] at q2
    rw [q1, q2, show bi false = 0 from rfl] at k
    rw [if_neg (by omega), if_pos h]
    omega
/-- All edges have one value, but for their direction. -/
theorem edges_val {ps : List (Int × Int)} (hs : Simp ps) : ∃ R : Int, ∀ e, e < ps.length → vE ps e = R + dnEi ps e := by
  refine ⟨vE ps 0 - dnEi ps 0, fun e => ?_⟩
  induction e with
  | zero => intro _; omega
  | succ e ih =>
    intro he
    have h := ih (by omega)
    have k := corner_step hs (show e < ps.length by omega)
    rw [nx_small he] at k
    omega
/-- Above all corners, or as high as the highest, the winding number is nought. -/
theorem wnd_top (ps : List (Int × Int)) (p q : Int) (h : ∀ i, i < ps.length → cy ps i ≤ q) : wnd ps p q = 0 := by
  unfold wnd
  refine sumE_zero _ _ fun i hi => ?_
  have hi := List.mem_range.1 hi
  have h1 := h i hi
  have h2 := h _ (nx_lt' hi)
  unfold wEi wE upB
  rw [decide_eq_false (show ¬ q < cy ps i by omega), decide_eq_false (show ¬ q < cy ps (nx ps.length i) by omega)]
  simp [bi]
theorem top_corner (ps : List (Int × Int)) : ∀ n, 0 < n → ∃ f, f < n ∧ ∀ i, i < n → cy ps i < cy ps f ∨ (cy ps i = cy ps f ∧ cx ps i ≤ cx ps f)
  | 0, h => by omega
  | n + 1, _ => by
    by_cases h0 : n = 0
    · subst h0
      exact ⟨0, by omega, fun i hi => by obtain rfl : i = 0 := by omega
                                         right; omega⟩
    · obtain ⟨f, hf, hm⟩ := top_corner ps n (by omega)
      by_cases g : cy ps n < cy ps f ∨ (cy ps n = cy ps f ∧ cx ps n ≤ cx ps f)
      · exact ⟨f, by omega, fun i hi => by
          by_cases e : i = n
          · subst e; exact g
          · exact hm i (by omega)⟩
      · exact ⟨n, by omega, fun i hi => by
          by_cases e : i = n
          · subst e; right; omega
          · have := hm i (by omega); omega⟩
theorem nx_pred {n f : Nat} (hf : f < n) : ∃ e, e < n ∧ nx n e = f := by
  by_cases h : f = 0
  · refine ⟨n - 1, by omega, ?_⟩
    unfold nx
    rw [show n - 1 + 1 = n by omega, Nat.mod_self]; omega
  · exact ⟨f - 1, by omega, by unfold nx; rw [show f - 1 + 1 = f by omega]; exact Nat.mod_eq_of_lt hf⟩
/-- A segment on edge e that does not reach its beginning meets no edge but e and the next. -/
theorem edge_free2 {ps : List (Int × Int)} (hs : Simp ps) {e : Nat} (he : e < ps.length) {y1 y2 z1 z2 : Int} (hy : onE ps y1 y2 e = true) (hz : onE ps z1 z2 e = true) (ny : ¬ (y1 = cx ps e ∧ y2 = cy ps e)) (nz' : ¬ (z1 = cx ps e ∧ z2 = cy ps e)) {g : Nat} (hg : g < ps.length) (hne : g ≠ e) (hnf : g ≠ nx ps.length e) :
    segB (cx ps g) (cy ps g) (cx ps (nx ps.length g)) (cy ps (nx ps.length g)) y1 y2 z1 z2 = false := by
  obtain ⟨h1, h2, h3⟩ := hs
  by_cases k2 : nx ps.length g = e
  · have hgd := (h2 g hg).symm
    rw [k2] at hgd ⊢
    rw [← segB_rev1]
    exact seg_adj hgd (by rw [onB_rev]; exact hy) (by rw [onB_rev]; exact hz) ny nz'
  · exact seg_mono hy hz (h3 g e hg he ⟨hne, k2, fun q => hnf q.symm⟩)
end Go.Proofs.YthmcejeeohlafaaDoor
