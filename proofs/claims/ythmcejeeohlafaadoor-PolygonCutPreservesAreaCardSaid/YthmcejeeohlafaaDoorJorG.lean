/- Winding numbers of polygons, part G: every point. -/
import Derived.Test.YthmcejeeohlafaaDoorJorF
namespace Go.Proofs.YthmcejeeohlafaaDoor
open Go.ChangeShapes Go.WideShapes Go.ChangeAt Go.RowKit
set_option linter.unusedVariables false
set_option linter.unusedSimpArgs false

theorem vE_sc {N : Int} (hN : 0 < N) (ps : List (Int × Int)) (e : Nat) : vE (scL N ps) e = vE ps e := by
  unfold vE
  rw [scL_len, (scL_at N ps e).1, (scL_at N ps e).2, (scL_at N ps _).1, (scL_at N ps _).2, scL_scL, Int.mul_comm 2 N, ← scL_scL, ← Int.mul_add, ← Int.mul_add, wnd_sc hN]
theorem dnEi_sc {N : Int} (hN : 0 < N) (ps : List (Int × Int)) (e : Nat) : dnEi (scL N ps) e = dnEi ps e := by
  unfold dnEi dnE
  rw [scL_len, (scL_at N ps e).1, (scL_at N ps e).2, (scL_at N ps _).1, (scL_at N ps _).2]
  have a := lt_sc hN (cy ps (nx ps.length e)) (cy ps e)
  have b := lt_sc hN (cx ps e) (cx ps (nx ps.length e))
  have c : N * cy ps e = N * cy ps (nx ps.length e) ↔ cy ps e = cy ps (nx ps.length e) := ⟨fun h => Int.eq_of_mul_eq_mul_left (by omega) h, fun h => by rw [h]⟩
  by_cases h : cy ps (nx ps.length e) < cy ps e ∨ cy ps e = cy ps (nx ps.length e) ∧ cx ps e < cx ps (nx ps.length e)
  · rw [if_pos h, if_pos (by omega)]
  · rw [if_neg h, if_neg (by omega)]
theorem val_sc {ps : List (Int × Int)} {R : Int} (hR : ∀ e, e < ps.length → vE ps e = R + dnEi ps e) {N : Int} (hN : 0 < N) : ∀ e, e < (scL N ps).length → vE (scL N ps) e = R + dnEi (scL N ps) e := fun e he => by
  rw [scL_len] at he
  rw [vE_sc hN, dnEi_sc hN]
  exact hR e he
theorem ex_L (d : Nat → Int) : ∀ n : Nat, ∃ L : Int, 0 < L ∧ ∀ i, i < n → d i ≠ 0 → ∃ k, L = k * d i
  | 0 => ⟨1, by omega, fun i h => by omega⟩
  | n + 1 => by
    obtain ⟨L, h0, hL⟩ := ex_L d n
    by_cases g : d n = 0
    · exact ⟨L, h0, fun i hi hne => by
        by_cases e : i = n
        · subst e; exact absurd g hne
        · exact hL i (by omega) hne⟩
    · rcases Int.lt_or_gt_of_ne g with k | k
      · refine ⟨L * (-d n), pp h0 (by omega), fun i hi hne => ?_⟩
        by_cases e : i = n
        · subst e; exact ⟨-L, by rw [Int.mul_neg, Int.neg_mul]⟩
        · obtain ⟨m, hm⟩ := hL i (by omega) hne
          exact ⟨m * (-d n), by rw [hm]; grind⟩
      · refine ⟨L * d n, pp h0 k, fun i hi hne => ?_⟩
        by_cases e : i = n
        · subst e; exact ⟨L, rfl⟩
        · obtain ⟨m, hm⟩ := hL i (by omega) hne
          exact ⟨m * d n, by rw [hm]; grind⟩
theorem btw_t {D U : Int} (u0 : 0 ≤ U) (u1 : U ≤ D) (x y : Int) : Btw (D * x) (D * y) (D * x + U * (y - x)) := by
  unfold Btw
  rcases Int.le_total x y with g | g
  · have m1 := Int.mul_nonneg u0 (show 0 ≤ y - x by omega)
    have m2 := Int.mul_nonneg (show 0 ≤ D - U by omega) (show 0 ≤ y - x by omega)
    have : (D - U) * (y - x) = D * y - D * x - U * (y - x) := by grind
    left; omega
  · have m1 := Int.mul_nonneg u0 (show 0 ≤ x - y by omega)
    have m2 := Int.mul_nonneg (show 0 ≤ D - U by omega) (show 0 ≤ x - y by omega)
    have e1 : (D - U) * (x - y) = D * x - D * y + U * (y - x) := by grind
    have e2 : U * (x - y) = -(U * (y - x)) := by grind
    right; omega
theorem on_t {D U : Int} (u0 : 0 ≤ U) (u1 : U ≤ D) (a b c d : Int) : onB (D * a) (D * b) (D * c) (D * d) (D * a + U * (c - a)) (D * b + U * (d - b)) = true :=
  on_iff.2 ⟨btw_t u0 u1 a c, btw_t u0 u1 b d, by grind⟩
theorem mneg {L m d : Int} (h : L = m * d) (h0 : 0 < L) (hd : d < 0) : m < 0 := by
  have e : -m * -d = m * d := by grind
  have := pos_of (x := -m) (y := -d) (by omega) (by omega)
  omega
theorem wnd_gen2 {ps : List (Int × Int)} (hs : Simp ps) {R : Int} (hR : ∀ e, e < ps.length → vE ps e = R + dnEi ps e) {p q : Int} (g1 : ∀ i, i < ps.length → cy ps i ≠ q) (g2 : ∀ i, i < ps.length → onE ps p q i = false) : wnd ps p q = R ∨ wnd ps p q = R + 1 := by
  obtain ⟨L, h0, hL⟩ := ex_L (fun i => cy ps (nx ps.length i) - cy ps i) ps.length
  have k := wnd_gen (hs.sc h0) (val_sc hR h0) (p := L * p) (q := L * q) (fun i hi h => by
    rw [scL_len] at hi
    rw [(scL_at L ps i).2] at h
    exact g1 i hi (Int.eq_of_mul_eq_mul_left (by omega) h)) (fun i hi => by
    rw [scL_len] at hi
    rw [onE_sc h0]
    exact g2 i hi) (fun i hi h => by
    rw [scL_len] at hi h
    rw [(scL_at L ps i).2, (scL_at L ps _).2, lt_sc h0, lt_sc h0, lt_sc h0, lt_sc h0] at h
    obtain ⟨m, hm⟩ := hL i hi (by omega)
    have hy : L * q = L * cy ps i + (m * (q - cy ps i)) * (cy ps (nx ps.length i) - cy ps i) := by
      have : (m * (q - cy ps i)) * (cy ps (nx ps.length i) - cy ps i) = (m * (cy ps (nx ps.length i) - cy ps i)) * (q - cy ps i) := by grind
      rw [this, ← hm]; grind
    refine ⟨L * cx ps i + (m * (q - cy ps i)) * (cx ps (nx ps.length i) - cx ps i), ?_⟩
    unfold onE
    rw [scL_len, (scL_at L ps i).1, (scL_at L ps i).2, (scL_at L ps _).1, (scL_at L ps _).2, hy]
    refine on_t ?_ ?_ _ _ _ _
    · rcases h with h | h
      · have : 0 < m := pos_of (y := cy ps (nx ps.length i) - cy ps i) (by omega) (by rw [← hm]; exact h0)
        exact zz (by omega) (by omega)
      · have : m < 0 := mneg hm h0 (by omega)
        exact Int.mul_nonneg_of_nonpos_of_nonpos (by omega) (by omega)
    · rw [hm]
      rcases h with h | h
      · have : 0 < m := pos_of (y := cy ps (nx ps.length i) - cy ps i) (by omega) (by rw [← hm]; exact h0)
        exact Int.mul_le_mul_of_nonneg_left (by omega) (by omega)
      · have : m < 0 := mneg hm h0 (by omega)
        exact Int.mul_le_mul_of_nonpos_left (by omega) (by omega))
  rwa [wnd_sc h0] at k
theorem ex_bd (f g : Nat → Int) : ∀ n : Nat, ∃ m : Int, 0 < m ∧ ∀ i, i < n → (-m < f i ∧ f i < m) ∧ -m < g i ∧ g i < m
  | 0 => ⟨1, by omega, fun i h => by omega⟩
  | n + 1 => by
    obtain ⟨m, h0, hm⟩ := ex_bd f g n
    refine ⟨m + (f n).natAbs + (g n).natAbs + 1, by omega, fun i hi => ?_⟩
    by_cases e : i = n
    · subst e; omega
    · have := hm i (by omega); omega
theorem shift_le {M x y : Int} (hM : 2 ≤ M) : M * x ≤ M * y + 1 ↔ x ≤ y := by
  constructor
  · intro h
    rcases Int.lt_or_le y x with g | g
    · have : M * (x - y) ≥ M * 1 := Int.mul_le_mul_of_nonneg_left (by omega) (by omega)
      have e : M * (x - y) = M * x - M * y := by grind
      omega
    · exact g
  · intro h
    have := (le_sc (N := M) (by omega) x y).2 h
    omega
theorem shift_lt {M x y : Int} (hM : 2 ≤ M) : M * y + 1 < M * x ↔ y < x := by
  have := shift_le (x := x) (y := y) hM
  omega
/-- A little to the right and upwards. -/
theorem up_shift {M m a b c d p q : Int} (hm : 0 < m) (hM : m * m + m + 2 ≤ M) (h1 : -m < c - a ∧ c - a < m) (h2 : -m < d - b ∧ d - b < m) : upB (M * a) (M * b) (M * c) (M * d) (M * p + m) (M * q + 1) = upB a b c d p q := by
  have mm : 0 ≤ m * m := sq_nn m
  have hM2 : 2 ≤ M := by omega
  unfold upB
  rw [ori_pos, ori_pos, decide_eq_decide.2 (shift_le hM2), decide_eq_decide.2 (shift_lt hM2)]
  by_cases k1 : b ≤ q
  · by_cases k2 : q < d
    · have e : det (M * a) (M * b) (M * c) (M * d) (M * p + m) (M * q + 1) = M * (M * det a b c d p q + ((c - a) - (d - b) * m)) := by unfold det; grind
      have l1 : 1 * m ≤ (d - b) * m := Int.mul_le_mul_of_nonneg_right (by omega) (by omega)
      have l2 : (d - b) * m ≤ m * m := Int.mul_le_mul_of_nonneg_right (by omega) (by omega)
      have : decide (0 < det (M * a) (M * b) (M * c) (M * d) (M * p + m) (M * q + 1)) = decide (0 < det a b c d p q) := by
        rw [e, dec_sc (by omega), decide_eq_decide]
        rcases Int.lt_or_le 0 (det a b c d p q) with g | g
        · have : M * 1 ≤ M * det a b c d p q := Int.mul_le_mul_of_nonneg_left (by omega) (by omega)
          omega
        · have : M * det a b c d p q ≤ M * 0 := Int.mul_le_mul_of_nonneg_left (by omega) (by omega)
          omega
      rw [this]
    · rw [decide_eq_false k2, Bool.and_false, Bool.false_and, Bool.false_and]
  · rw [decide_eq_false k1, Bool.false_and, Bool.false_and, Bool.false_and]
/-- Claim D: round every point a simple polygon winds R or R + 1 times. -/
theorem wnd_all {ps : List (Int × Int)} (hs : Simp ps) {R : Int} (hR : ∀ e, e < ps.length → vE ps e = R + dnEi ps e) (p q : Int) : wnd ps p q = R ∨ wnd ps p q = R + 1 := by
  obtain ⟨m, h0, hm⟩ := ex_bd (fun i => cx ps (nx ps.length i) - cx ps i) (fun i => cy ps (nx ps.length i) - cy ps i) ps.length
  obtain ⟨M, hM⟩ : ∃ M : Int, m * m + m + 2 ≤ M := ⟨_, Int.le_refl _⟩
  have mm : 0 ≤ m * m := sq_nn m
  have hM2 : 2 ≤ M := by omega
  have k := wnd_gen2 (hs.sc (N := M) (by omega)) (val_sc hR (by omega)) (p := M * p + m) (q := M * q + 1) (fun i hi h => by
    rw [(scL_at M ps i).2] at h
    have a := (shift_le (x := cy ps i) (y := q) hM2).1 (by omega)
    have b := (le_sc (N := M) (by omega) (cy ps i) q).2 a
    omega) (fun i hi => by
    rw [scL_len] at hi
    cases g : onE (scL M ps) (M * p + m) (M * q + 1) i with
    | false => rfl
    | true =>
      exfalso
      unfold onE at g
      rw [scL_len, (scL_at M ps i).1, (scL_at M ps i).2, (scL_at M ps _).1, (scL_at M ps _).2] at g
      obtain ⟨hx, hy⟩ := hm i hi
      have e : det (M * cx ps i) (M * cy ps i) (M * cx ps (nx ps.length i)) (M * cy ps (nx ps.length i)) (M * p + m) (M * q + 1) = M * (M * det (cx ps i) (cy ps i) (cx ps (nx ps.length i)) (cy ps (nx ps.length i)) p q + ((cx ps (nx ps.length i) - cx ps i) - (cy ps (nx ps.length i) - cy ps i) * m)) := by unfold det; grind
      rw [det_on g] at e
      have b := (on_iff.1 g).2.1
      unfold Btw at b
      rw [shift_le hM2, shift_le hM2] at b
      have b' : cy ps i ≠ cy ps (nx ps.length i) := fun h => by
        rw [h] at b
        have := (le_sc (N := M) (by omega) (cy ps (nx ps.length i)) q)
        rcases b with ⟨b1, b2⟩ | ⟨b1, b2⟩
        · have := this.2 b1; omega
        · have := this.2 b1; omega
      have z := Int.mul_eq_zero.1 e.symm
      have z : M * det (cx ps i) (cy ps i) (cx ps (nx ps.length i)) (cy ps (nx ps.length i)) p q + ((cx ps (nx ps.length i) - cx ps i) - (cy ps (nx ps.length i) - cy ps i) * m) = 0 := by omega
      have l2 : (cy ps (nx ps.length i) - cy ps i) * m ≤ m * m := Int.mul_le_mul_of_nonneg_right (by omega) (by omega)
      have l3 : (-m) * m ≤ (cy ps (nx ps.length i) - cy ps i) * m := Int.mul_le_mul_of_nonneg_right (by omega) (by omega)
      have e3 : (-m) * m = -(m * m) := by grind
      have d0 : det (cx ps i) (cy ps i) (cx ps (nx ps.length i)) (cy ps (nx ps.length i)) p q = 0 := by
        rcases Int.lt_trichotomy (det (cx ps i) (cy ps i) (cx ps (nx ps.length i)) (cy ps (nx ps.length i)) p q) 0 with q' | q' | q'
        · have := sc_le (N := M) (by omega) q'; omega
        · exact q'
        · have := sc_ge (N := M) (by omega) q'; omega
      rw [d0, Int.mul_zero] at z
      rcases Int.lt_or_gt_of_ne b' with u | u
      · have : 1 * m ≤ (cy ps (nx ps.length i) - cy ps i) * m := Int.mul_le_mul_of_nonneg_right (by omega) (by omega)
        omega
      · have : (cy ps (nx ps.length i) - cy ps i) * m ≤ (-1) * m := Int.mul_le_mul_of_nonneg_right (by omega) (by omega)
        omega)
  have e : wnd (scL M ps) (M * p + m) (M * q + 1) = wnd ps p q := by
    unfold wnd
    rw [scL_len]
    exact sumE_congr fun i hi => by
      have hi := List.mem_range.1 hi
      obtain ⟨hx, hy⟩ := hm i hi
      unfold wEi wE
      rw [scL_len, (scL_at M ps i).1, (scL_at M ps i).2, (scL_at M ps _).1, (scL_at M ps _).2, up_shift h0 hM hx hy, up_shift h0 hM (by omega) (by omega)]
      have := lt_sc (N := M) (by omega) (cy ps (nx ps.length i)) (cy ps i)
      by_cases g : cy ps (nx ps.length i) < cy ps i
      · rw [if_pos g, if_pos (this.2 g)]
      · rw [if_neg g, if_neg (fun q => g (this.1 q))]
  rwa [e] at k
/-- Round every point a simple polygon winds nought or one time, or nought or minus one time. -/
theorem wnd_two_ways {ps : List (Int × Int)} (hs : Simp ps) : (∀ p q, wnd ps p q = 0 ∨ wnd ps p q = 1) ∨ (∀ p q, wnd ps p q = -1 ∨ wnd ps p q = 0) := by
  obtain ⟨R, hR⟩ := edges_val hs
  rcases edges_R hs hR with rfl | rfl
  · exact .inl fun p q => by have := wnd_all hs hR p q; omega
  · exact .inr fun p q => by have := wnd_all hs hR p q; omega
#print axioms wnd_two_ways
end Go.Proofs.YthmcejeeohlafaaDoor
