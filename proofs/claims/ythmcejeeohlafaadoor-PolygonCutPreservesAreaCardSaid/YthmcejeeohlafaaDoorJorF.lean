/- Winding numbers of polygons, part F: a simple polygon winds round every point R or R + 1 times, and R is 0 or -1. -/
import Derived.Test.YthmcejeeohlafaaDoorJorE
namespace Go.Proofs.YthmcejeeohlafaaDoor
open Go.ChangeShapes Go.WideShapes Go.ChangeAt Go.RowKit
set_option linter.unusedVariables false
set_option linter.unusedSimpArgs false

theorem topQ {N A1 A2 C1 C2 : Int} (hN : 2 ≤ N) (ha : -N < A2) (h : A2 < 0) (hc : C2 < 0 ∨ (C2 = 0 ∧ C1 ≤ 0)) : inQ A1 A2 0 0 (N * C1) (N * C2) = false := by
  unfold inQ
  rcases hc with hc | ⟨rfl, hc⟩
  · have := sc_le (N := N) (by omega) hc
    rw [decide_eq_false (show ¬ A2 < N * C2 by omega)]; rfl
  · have e : det A1 A2 0 0 (N * C1) (N * 0) = N * (A2 * C1) := by unfold det; grind
    have m := Int.mul_nonneg_of_nonpos_of_nonpos (show A2 ≤ 0 by omega) hc
    have m2 := zz (show 0 ≤ N by omega) m
    rw [e, decide_eq_false (show ¬ N * (A2 * C1) < 0 by omega)]
    simp
/-- Claim C. -/
theorem edges_R {ps : List (Int × Int)} (hs : Simp ps) {R : Int} (hR : ∀ e, e < ps.length → vE ps e = R + dnEi ps e) : R = 0 ∨ R = -1 := by
  obtain ⟨f, hf, hm⟩ := top_corner ps ps.length (by have := hs.1; omega)
  obtain ⟨e, he, rfl⟩ := nx_pred hf
  have nd := edge_nd hs he
  have me := hm e he
  have hef : e ≠ nx ps.length e := fun h => nx_ne (by have := hs.1; omega) he h.symm
  by_cases ha : cy ps e = cy ps (nx ps.length e)
  · have k := at_edge hs he (N := 2) (by omega) (near_in hs he (by omega))
    rw [wnd_top] at k
    · have := hR e he
      have d : dnEi ps e = 1 := by
        unfold dnEi dnE
        rw [if_pos (by omega)]
      omega
    · intro i hi
      rw [scL_len] at hi
      rw [(scL_at 2 ps i).2]
      have := hm i hi
      omega
  · have hA : cy ps e - cy ps (nx ps.length e) < 0 := by omega
    obtain ⟨N, hN, hNa⟩ : ∃ N : Int, 2 ≤ N ∧ (-N < cy ps e - cy ps (nx ps.length e) ∧ cy ps e - cy ps (nx ps.length e) < N) := ⟨(cy ps e - cy ps (nx ps.length e)).natAbs + 2, by omega⟩
    have yin := near_in hs he hN
    have ly := at_edge hs he (by omega) yin
    have he' : e < (scL N ps).length := by rw [scL_len]; exact he
    have hf' : nx ps.length e < (scL N ps).length := by rw [scL_len]; exact hf
    have cen1 : cx (scL N ps) (nx (scL N ps).length e) = N * cx ps (nx ps.length e) := by rw [scL_len]; exact (scL_at N ps _).1
    have cen2 : cy (scL N ps) (nx (scL N ps).length e) = N * cy ps (nx ps.length e) := by rw [scL_len]; exact (scL_at N ps _).2
    have zon : onE (scL N ps) (N * cx ps (nx ps.length e)) (N * cy ps (nx ps.length e)) e = true := by
      unfold onE
      rw [cen1, cen2]
      exact on_last
    have zon' : onE (scL N ps) (N * cx ps (nx ps.length e)) (N * cy ps (nx ps.length e)) (nx ps.length e) = true := by
      unfold onE
      rw [(scL_at N ps (nx ps.length e)).1, (scL_at N ps (nx ps.length e)).2]
      exact on_first
    have zne : ¬ (N * cx ps (nx ps.length e) = cx (scL N ps) e ∧ N * cy ps (nx ps.length e) = cy (scL N ps) e) := by
      rw [(scL_at N ps e).1, (scL_at N ps e).2]
      exact mul_ne2 (by omega) (fun h => nd ⟨h.1.symm, h.2.symm⟩)
    have seg : ∀ i, i < (scL N ps).length → i ≠ e → i ≠ nx ps.length e → segB (cx (scL N ps) i) (cy (scL N ps) i) (cx (scL N ps) (nx (scL N ps).length i)) (cy (scL N ps) (nx (scL N ps).length i)) (cx ps e - cx ps (nx ps.length e) + N * cx ps (nx ps.length e)) (cy ps e - cy ps (nx ps.length e) + N * cy ps (nx ps.length e)) (N * cx ps (nx ps.length e)) (N * cy ps (nx ps.length e)) = false := fun i hi h1 h2 =>
      edge_free2 (hs.sc (by omega)) he' yin.1 zon yin.2.1 zne hi h1 (by rw [scL_len]; exact h2)
    have k := wnd_two (scL N ps) e (nx ps.length e) hef he' hf' (show cy ps e - cy ps (nx ps.length e) + N * cy ps (nx ps.length e) < N * cy ps (nx ps.length e) by omega) seg
    have nds : ¬ (cx (scL N ps) e = cx (scL N ps) (nx (scL N ps).length e) ∧ cy (scL N ps) e = cy (scL N ps) (nx (scL N ps).length e)) := edge_nd (hs.sc (N := N) (by omega)) he'
    have dl := det_line nds yin.1 zon
    rw [wEi_on yin.1, wEi_on zon, wEi_on zon', inQ_zero dl.1, cen1, cen2, (scL_at N ps (nx ps.length e)).1, (scL_at N ps (nx ps.length e)).2] at k
    have kc1 : N * cx ps (nx ps.length (nx ps.length e)) = N * (cx ps (nx ps.length (nx ps.length e)) - cx ps (nx ps.length e)) + N * cx ps (nx ps.length e) := by grind
    have kc2 : N * cy ps (nx ps.length (nx ps.length e)) = N * (cy ps (nx ps.length (nx ps.length e)) - cy ps (nx ps.length e)) + N * cy ps (nx ps.length e) := by grind
    have cfn1 : cx (scL N ps) (nx (scL N ps).length (nx ps.length e)) = N * cx ps (nx ps.length (nx ps.length e)) := by rw [scL_len]; exact (scL_at N ps _).1
    have cfn2 : cy (scL N ps) (nx (scL N ps).length (nx ps.length e)) = N * cy ps (nx ps.length (nx ps.length e)) := by rw [scL_len]; exact (scL_at N ps _).2
    have mc := hm _ (nx_lt' hf)
    have q := topQ (A1 := cx ps e - cx ps (nx ps.length e)) (C1 := cx ps (nx ps.length (nx ps.length e)) - cx ps (nx ps.length e)) (C2 := cy ps (nx ps.length (nx ps.length e)) - cy ps (nx ps.length e)) hN hNa.1 hA (by omega)
    rw [← inQ_mov _ _ _ _ _ _ (N * cx ps (nx ps.length e)) (N * cy ps (nx ps.length e)), ← kc1, ← kc2, Int.zero_add, Int.zero_add] at q
    rw [cfn1, cfn2, q] at k
    have U := valU (C1 := cx ps (nx ps.length (nx ps.length e)) - cx ps (nx ps.length e)) (C2 := cy ps (nx ps.length (nx ps.length e)) - cy ps (nx ps.length e)) (A1 := cx ps e - cx ps (nx ps.length e)) hN hNa
    have hU : wEi (scL N ps) (cx ps e - cx ps (nx ps.length e) + N * cx ps (nx ps.length e)) (cy ps e - cy ps (nx ps.length e) + N * cy ps (nx ps.length e)) (nx ps.length e) = wE 0 0 (N * (cx ps (nx ps.length (nx ps.length e)) - cx ps (nx ps.length e))) (N * (cy ps (nx ps.length (nx ps.length e)) - cy ps (nx ps.length e))) (cx ps e - cx ps (nx ps.length e)) (cy ps e - cy ps (nx ps.length e)) := by
      unfold wEi
      rw [cfn1, cfn2, (scL_at N ps _).1, (scL_at N ps _).2, kc1, kc2, ← wE_mov 0 0 _ _ _ _ (N * cx ps (nx ps.length e)) (N * cy ps (nx ps.length e)), Int.zero_add, Int.zero_add]
    rw [hU, U] at k
    have z : wnd (scL N ps) (N * cx ps (nx ps.length e)) (N * cy ps (nx ps.length e)) = 0 := wnd_top _ _ _ fun i hi => by
      rw [scL_len] at hi
      rw [(scL_at N ps i).2]
      exact Int.mul_le_mul_of_nonneg_left (by have := hm i hi; omega) (by omega)
    rw [z, ly, hR e he] at k
    have d : dnEi ps e = 0 := by
      unfold dnEi dnE
      rw [if_neg (by omega)]
    have b := bi_bd (decide (cy ps e - cy ps (nx ps.length e) < 0) && decide (0 < (cx ps e - cx ps (nx ps.length e)) * (cy ps (nx ps.length (nx ps.length e)) - cy ps (nx ps.length e)) - (cy ps e - cy ps (nx ps.length e)) * (cx ps (nx ps.length (nx ps.length e)) - cx ps (nx ps.length e))))
    rw [show bi false = 0 from rfl] at k
    split at k
    · omega
    · rw [if_neg (by omega)] at k
      omega

/-! ### Every point -/
theorem min_ex {P : Nat → Prop} (h : ∃ n, P n) : ∃ n, P n ∧ ∀ m, P m → n ≤ m := by
  obtain ⟨n, hn⟩ := h
  induction n using Nat.strongRecOn with
  | ind n ih =>
    by_cases k : ∃ m, m < n ∧ P m
    · obtain ⟨m, hm, hp⟩ := k
      exact ih m hm hp
    · exact ⟨n, hn, fun m hp => by
        rcases Nat.lt_or_ge m n with g | g
        · exact absurd ⟨m, g, hp⟩ k
        · exact g⟩
/-- A point inside an edge lies on no other. -/
theorem inE_only {ps : List (Int × Int)} (hs : Simp ps) {e g : Nat} (he : e < ps.length) (hg : g < ps.length) {p q : Int} (h : InE ps e p q) (h' : onE ps p q g = true) : g = e := by
  obtain ⟨h1, h2, h3⟩ := hs
  obtain ⟨a1, a2, a3⟩ := h
  false_or_by_contra
  rename_i hne
  by_cases k1 : nx ps.length e = g
  · subst k1
    exact a3 (adj_pt (h2 e he) a1 h')
  · by_cases k2 : nx ps.length g = e
    · have gd := h2 g hg
      have h'' := h'
      unfold onE at h''
      rw [k2] at gd h''
      exact a2 (adj_pt gd h'' a1)
    · have := h3 g e hg he ⟨hne, k2, k1⟩
      unfold segE at this
      rw [seg_common h' a1] at this
      cases this
theorem det_at {a b c d X p q : Int} (h : onB a b c d X q = true) : det a b c d p q = (d - b) * (X - p) := by
  have := det_on h
  have e : det a b c d p q = det a b c d X q + (d - b) * (X - p) := by unfold det; grind
  omega
theorem wE_none {a b c d p q : Int} (h : ¬ (b < q ∧ q < d) ∧ ¬ (d < q ∧ q < b)) (hb : b ≠ q) (hd : d ≠ q) : wE a b c d p q = 0 := by
  unfold wE upB
  split
  · by_cases k : d ≤ q
    · rw [decide_eq_false (show ¬ q < b by omega)]; simp [bi]
    · rw [decide_eq_false k]; simp [bi]
  · by_cases k : b ≤ q
    · rw [decide_eq_false (show ¬ q < d by omega)]; simp [bi]
    · rw [decide_eq_false k]; simp [bi]
theorem wE_up {a b c d X p q : Int} (h : b < q ∧ q < d) (hX : onB a b c d X q = true) : wE a b c d p q = bi (decide (p < X)) := by
  unfold wE upB
  rw [if_neg (by omega), ori_pos, det_at hX, decide_eq_true (show b ≤ q by omega), decide_eq_true h.2, Bool.true_and, Bool.true_and, Int.mul_comm, mul_dec (by omega), decide_eq_decide.2 (show 0 < X - p ↔ p < X by omega)]
theorem wE_down {a b c d X p q : Int} (h : d < q ∧ q < b) (hX : onB a b c d X q = true) : wE a b c d p q = -bi (decide (p < X)) := by
  unfold wE upB
  rw [if_pos (by omega), ori_pos, det_at (a := c) (b := d) (c := a) (d := b) (X := X) (by rw [onB_rev]; exact hX), decide_eq_true (show d ≤ q by omega), decide_eq_true h.2, Bool.true_and, Bool.true_and, Int.mul_comm, mul_dec (by omega), decide_eq_decide.2 (show 0 < X - p ↔ p < X by omega)]
/-- Claim D, at a point that lies on no edge and as high as no corner, where the edges cross its height at whole numbers. -/
theorem wnd_gen {ps : List (Int × Int)} (hs : Simp ps) {R : Int} (hR : ∀ e, e < ps.length → vE ps e = R + dnEi ps e) {p q : Int} (g1 : ∀ i, i < ps.length → cy ps i ≠ q) (g2 : ∀ i, i < ps.length → onE ps p q i = false)
    (g3 : ∀ i, i < ps.length → (cy ps i < q ∧ q < cy ps (nx ps.length i)) ∨ (cy ps (nx ps.length i) < q ∧ q < cy ps i) → ∃ X, onE ps X q i = true) : wnd ps p q = R ∨ wnd ps p q = R + 1 := by
  by_cases hex : ∃ k : Nat, ∃ i, i < ps.length ∧ onE ps (p + 1 + k) q i = true
  · obtain ⟨k, ⟨e, he, hon⟩, hmin⟩ := min_ex hex
    obtain ⟨X, hX⟩ : ∃ X, p + 1 + (k : Int) = X := ⟨_, rfl⟩
    rw [hX] at hon
    have hpX : p < X := by omega
    have hmin' : ∀ i Y, i < ps.length → onE ps Y q i = true → p < Y → X ≤ Y := fun i Y hi hY hpY => by
      have := hmin (Y - p - 1).toNat ⟨i, hi, by rw [show p + 1 + ((Y - p - 1).toNat : Int) = Y by omega]; exact hY⟩
      omega
    have yin : InE ps e X q := ⟨hon, fun h => g1 e he h.2.symm, fun h => g1 _ (nx_lt' he) h.2.symm⟩
    have span : ∀ i N X', i < ps.length → 0 < N → onB (N * cx ps i) (N * cy ps i) (N * cx ps (nx ps.length i)) (N * cy ps (nx ps.length i)) X' (N * q) = true → (cy ps i < q ∧ q < cy ps (nx ps.length i)) ∨ (cy ps (nx ps.length i) < q ∧ q < cy ps i) := fun i N X' hi h0 h => by
      have b := (on_iff.1 h).2.1
      have a1 := g1 i hi
      have a2 := g1 _ (nx_lt' hi)
      unfold Btw at b
      rw [le_sc h0, le_sc h0, le_sc h0, le_sc h0] at b
      omega
    have seg : ∀ i, i < ps.length → i ≠ e → segB (cx ps i) (cy ps i) (cx ps (nx ps.length i)) (cy ps (nx ps.length i)) p q X q = false := fun i hi hne => seg_none fun N X' Y' h0 h1 h2 => by
      have hy : Y' = N * q := by have := (on_iff.1 h2).2.1; unfold Btw at this; omega
      subst hy
      have sp := span i N X' hi h0 h1
      obtain ⟨Z, hZ⟩ := g3 i hi sp
      have d1 := det_on h1
      have d2 := det_on (show onB (N * cx ps i) (N * cy ps i) (N * cx ps (nx ps.length i)) (N * cy ps (nx ps.length i)) (N * Z) (N * q) = true by rw [onB_sc h0]; exact hZ)
      have e2 : (N * cy ps (nx ps.length i) - N * cy ps i) * (N * Z - X') = 0 := by
        unfold det at d1 d2
        grind
      have e3 : N * cy ps (nx ps.length i) - N * cy ps i ≠ 0 := by
        intro e
        have : cy ps (nx ps.length i) = cy ps i := Int.eq_of_mul_eq_mul_left (show N ≠ 0 by omega) (by omega)
        omega
      have hXZ : X' = N * Z := by have := Int.mul_eq_zero.1 e2; omega
      subst hXZ
      have bx := (on_iff.1 h2).1
      unfold Btw at bx
      rw [le_sc h0, le_sc h0, le_sc h0, le_sc h0] at bx
      have hpZ : p ≠ Z := fun h => by
        subst h
        rw [g2 i hi] at hZ
        cases hZ
      have := hmin' i Z hi hZ (by omega)
      have hZX : Z = X := by omega
      subst hZX
      exact hne (inE_only hs he hi yin hZ)
    have k1 := wnd_flat1 ps e he seg
    have k2 := at_edge hs he (N := 1) (by omega) (p := X) (q := q) (by rw [scL_one]; exact yin)
    rw [scL_one, hR e he] at k2
    rw [wEi_on hon] at k1
    have sp := span e 1 X he (by omega) (by simpa [onE] using hon)
    rcases sp with sp | sp
    · have w : wEi ps p q e = 1 := by
        unfold wEi
        rw [wE_up sp hon, decide_eq_true hpX]; rfl
      have d : dnEi ps e = 0 := by
        unfold dnEi dnE
        rw [if_neg (by omega)]
      omega
    · have w : wEi ps p q e = -1 := by
        unfold wEi
        rw [wE_down sp hon, decide_eq_true hpX]; rfl
      have d : dnEi ps e = 1 := by
        unfold dnEi dnE
        rw [if_pos (by omega)]
      omega
  · have z : wnd ps p q = 0 := by
      unfold wnd
      refine sumE_zero _ _ fun i hi => ?_
      have hi := List.mem_range.1 hi
      have nr : ∀ X, onE ps X q i = true → ¬ p < X := fun X hX h => hex ⟨(X - p - 1).toNat, i, hi, by rw [show p + 1 + ((X - p - 1).toNat : Int) = X by omega]; exact hX⟩
      have a1 := g1 i hi
      have a2 := g1 _ (nx_lt' hi)
      unfold wEi
      by_cases u : cy ps i < q ∧ q < cy ps (nx ps.length i)
      · obtain ⟨X, hX⟩ := g3 i hi (.inl u)
        rw [wE_up u hX, decide_eq_false (nr X hX)]; rfl
      · by_cases v : cy ps (nx ps.length i) < q ∧ q < cy ps i
        · obtain ⟨X, hX⟩ := g3 i hi (.inr v)
          rw [wE_down v hX, decide_eq_false (nr X hX)]; rfl
        · exact wE_none ⟨u, v⟩ a1 a2
    have := edges_R hs hR
    omega
end Go.Proofs.YthmcejeeohlafaaDoor
