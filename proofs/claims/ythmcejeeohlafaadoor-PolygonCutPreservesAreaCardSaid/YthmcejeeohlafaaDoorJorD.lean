/- Winding numbers of polygons, part D: round a corner; the values of the edges. -/
import Derived.Test.YthmcejeeohlafaaDoorJorC
namespace Go.Proofs.YthmcejeeohlafaaDoor
open Go.ChangeShapes Go.WideShapes Go.ChangeAt Go.RowKit
set_option linter.unusedVariables false
set_option linter.unusedSimpArgs false

theorem dec_sc {N x : Int} (hN : 0 < N) : decide (0 < N * x) = decide (0 < x) := by
  rw [decide_eq_decide]
  have := lt_sc hN 0 x
  rwa [Int.mul_zero] at this
theorem sc_le {N x : Int} (hN : 0 < N) (h : x < 0) : N * x ≤ -N := by
  have : N * x ≤ N * (-1) := Int.mul_le_mul_of_nonneg_left (by omega) (by omega)
  omega
theorem sc_ge {N x : Int} (hN : 0 < N) (h : 0 < x) : N ≤ N * x := by
  have : N * 1 ≤ N * x := Int.mul_le_mul_of_nonneg_left (by omega) (by omega)
  omega
section
variable {N A1 A2 C1 C2 : Int} (hN : 2 ≤ N)
include hN
theorem valU (hA : -N < A2 ∧ A2 < N) : wE 0 0 (N * C1) (N * C2) A1 A2 = if C2 < 0 then -bi (decide (A2 < 0) && decide (0 < A1 * C2 - A2 * C1)) else if 0 < C2 then bi (decide (0 ≤ A2) && decide (0 < A2 * C1 - A1 * C2)) else 0 := by
  have d1 : det (N * C1) (N * C2) 0 0 A1 A2 = N * (A1 * C2 - A2 * C1) := by unfold det; grind
  have d2 : det 0 0 (N * C1) (N * C2) A1 A2 = N * (A2 * C1 - A1 * C2) := by unfold det; grind
  unfold wE upB
  rw [ori_pos, ori_pos, d1, d2, dec_sc (by omega), dec_sc (by omega)]
  rcases Int.lt_trichotomy C2 0 with g | g | g
  · have := sc_le (N := N) (by omega) g
    rw [if_pos (by omega), if_pos g, decide_eq_true (show N * C2 ≤ A2 by omega), Bool.true_and]
  · subst g
    rw [Int.mul_zero, if_neg (by omega), if_neg (by omega), if_neg (by omega)]
    by_cases h : 0 ≤ A2
    · rw [decide_eq_false (show ¬ A2 < 0 by omega)]; simp [bi]
    · rw [decide_eq_false h]; simp [bi]
  · have := sc_ge (N := N) (by omega) g
    rw [if_neg (by omega), if_neg (by omega), if_pos g, decide_eq_true (show A2 < N * C2 by omega), Bool.and_true]
theorem valT (hC : -N < C2 ∧ C2 < N) : wE (N * A1) (N * A2) 0 0 C1 C2 = if 0 < A2 then -bi (decide (0 ≤ C2) && decide (0 < A1 * C2 - A2 * C1)) else if A2 < 0 then bi (decide (C2 < 0) && decide (0 < A2 * C1 - A1 * C2)) else 0 := by
  have d1 : det (N * A1) (N * A2) 0 0 C1 C2 = N * (A2 * C1 - A1 * C2) := by unfold det; grind
  have d2 : det 0 0 (N * A1) (N * A2) C1 C2 = N * (A1 * C2 - A2 * C1) := by unfold det; grind
  unfold wE upB
  rw [ori_pos, ori_pos, d1, d2, dec_sc (by omega), dec_sc (by omega)]
  rcases Int.lt_trichotomy A2 0 with g | g | g
  · have := sc_le (N := N) (by omega) g
    rw [if_neg (by omega), if_neg (by omega), if_pos g, decide_eq_true (show N * A2 ≤ C2 by omega), Bool.true_and]
  · subst g
    rw [Int.mul_zero, if_neg (by omega), if_neg (by omega), if_neg (by omega)]
    by_cases h : 0 ≤ C2
    · rw [decide_eq_false (show ¬ C2 < 0 by omega)]; simp [bi]
    · rw [decide_eq_false h]; simp [bi]
  · have := sc_ge (N := N) (by omega) g
    rw [if_pos (by omega), if_pos g, decide_eq_true (show C2 < N * A2 by omega), Bool.and_true]
/-- Q of the far ends: of a's. -/
theorem valQ1 (h : A2 < C2) (hC : -N < C2 ∧ C2 < N) : inQ A1 A2 C1 C2 (N * A1) (N * A2) = false := by
  unfold inQ
  rcases Int.lt_trichotomy A2 0 with g | g | g
  · have : (N - 1) * A2 ≤ -(N - 1) := sc_le (by omega) g
    have e : (N - 1) * A2 = N * A2 - A2 := by grind
    rw [decide_eq_false (by omega)]; rfl
  · subst g
    rw [Int.mul_zero, decide_eq_false (show ¬ (0 : Int) < 0 by omega)]; rfl
  · have := sc_ge (N := N) (by omega) g
    rw [decide_eq_false (show ¬ N * A2 ≤ C2 by omega)]; simp
theorem valQ2 (h : A2 < C2) (hA : -N < A2 ∧ A2 < N) : inQ A1 A2 C1 C2 (N * C1) (N * C2) = decide (C2 = 0 ∧ 0 < C1) := by
  unfold inQ
  rcases Int.lt_trichotomy C2 0 with g | g | g
  · have := sc_le (N := N) (by omega) g
    rw [decide_eq_false (show ¬ A2 < N * C2 by omega), decide_eq_false (show ¬ (C2 = 0 ∧ 0 < C1) by omega)]; rfl
  · subst g
    have e : det A1 A2 C1 0 (N * C1) (N * 0) = (N - 1) * (A2 * C1) := by unfold det; grind
    rw [e, Int.mul_zero, decide_eq_true h, decide_eq_true (show (0 : Int) ≤ 0 by omega), Bool.true_and, Bool.true_and, decide_eq_decide]
    constructor
    · intro k
      refine ⟨rfl, ?_⟩
      have : 0 < (N - 1) * (-(A2 * C1)) := by rw [Int.mul_neg]; omega
      have := pos_of (x := -(A2 * C1)) (y := N - 1) (by omega) (by rw [Int.mul_comm]; exact this)
      exact pos_of (y := -A2) (by omega) (by rw [Int.mul_neg, Int.mul_comm]; exact this)
    · rintro ⟨_, k⟩
      exact pn (by omega) (np h k)
  · have : N ≤ N * C2 := sc_ge (by omega) g
    have k : (N - 1) * 1 ≤ (N - 1) * C2 := Int.mul_le_mul_of_nonneg_left (by omega) (by omega)
    have e : (N - 1) * C2 = N * C2 - C2 := by grind
    rw [decide_eq_false (show ¬ N * C2 ≤ C2 by omega), decide_eq_false (show ¬ (C2 = 0 ∧ 0 < C1) by omega)]; simp
end
theorem gd_side {A1 A2 C1 C2 : Int} (h : 0 < A2 * C2) (g : A1 * C2 - A2 * C1 ≠ 0 ∨ A1 * C1 + A2 * C2 < 0) : A1 * C2 - A2 * C1 ≠ 0 := by
  rcases g with g | g
  · exact g
  · intro e
    have hc : C2 ≠ 0 := fun k => by rw [k, Int.mul_zero] at h; omega
    have k : (A1 * C1 + A2 * C2) * (C2 * C2) = (A2 * C2) * (C1 * C1 + C2 * C2) := by
      have : (A1 * C2) * (C1 * C2) = (A2 * C1) * (C1 * C2) := by rw [show A1 * C2 = A2 * C1 by omega]
      grind
    have q := sq_pos hc
    have q' := sq_nn C1
    have l := np g q
    have r := pp h (show 0 < C1 * C1 + C2 * C2 by omega)
    omega
theorem mul_dec {x y : Int} (hy : 0 < y) : decide (0 < x * y) = decide (0 < x) := by
  rw [decide_eq_decide]
  exact ⟨pos_of hy, fun h => pp h hy⟩
/-- Round a corner: what the two edges say. -/
theorem corner_UT {A1 A2 C1 C2 : Int} (hg : A1 * C2 - A2 * C1 ≠ 0 ∨ A1 * C1 + A2 * C2 < 0) :
    (if C2 < 0 then -bi (decide (A2 < 0) && decide (0 < A1 * C2 - A2 * C1)) else if 0 < C2 then bi (decide (0 ≤ A2) && decide (0 < A2 * C1 - A1 * C2)) else 0)
    - (if 0 < A2 then -bi (decide (0 ≤ C2) && decide (0 < A1 * C2 - A2 * C1)) else if A2 < 0 then bi (decide (C2 < 0) && decide (0 < A2 * C1 - A1 * C2)) else 0)
    - (if A2 < C2 then bi (decide (C2 = 0 ∧ 0 < C1)) else 0) - (if C2 < A2 then bi (decide (A2 = 0 ∧ 0 < A1)) else 0) = dnE A1 A2 0 0 - dnE 0 0 C1 C2 := by
  have bt : bi true = 1 := rfl
  have bf : bi false = 0 := rfl
  have two : ∀ x : Int, x ≠ 0 → bi (decide (0 < x)) + bi (decide (0 < -x)) = 1 := fun x hx => by
    rcases Int.lt_or_gt_of_ne hx with k | k
    · rw [decide_eq_false (by omega), decide_eq_true (by omega)]; rfl
    · rw [decide_eq_true (by omega), decide_eq_false (by omega)]; rfl
  have eneg : A2 * C1 - A1 * C2 = -(A1 * C2 - A2 * C1) := by omega
  unfold dnE
  rcases Int.lt_trichotomy A2 0 with a | a | a <;> rcases Int.lt_trichotomy C2 0 with c | c | c
  · have hd := two _ (gd_side (nn a c) hg)
    rw [eneg]
    rw [if_pos c, if_neg (by omega), if_pos a, decide_eq_true a, decide_eq_true c, Bool.true_and, Bool.true_and, decide_eq_false (show ¬ (C2 = 0 ∧ 0 < C1) by omega), decide_eq_false (show ¬ (A2 = 0 ∧ 0 < A1) by omega), bf, if_neg (show ¬ (0 < A2 ∨ A2 = 0 ∧ A1 < 0) by omega), if_pos (show C2 < 0 ∨ 0 = C2 ∧ 0 < C1 by omega)]
    split <;> split <;> omega
  · subst c
    rw [if_neg (by omega), if_neg (by omega), if_neg (by omega), if_pos a, decide_eq_false (show ¬ (0 : Int) < 0 by omega), Bool.false_and, bf, if_pos a, if_neg (show ¬ 0 < A2 by omega), if_neg (show ¬ (0 < A2 ∨ A2 = 0 ∧ A1 < 0) by omega)]
    by_cases k : 0 < C1
    · rw [decide_eq_true ⟨rfl, k⟩, bt, if_pos (by omega)]; omega
    · rw [decide_eq_false (by omega), bf, if_neg (by omega)]; omega
  · rw [if_neg (by omega), if_pos c, if_neg (by omega), if_pos a, decide_eq_false (show ¬ 0 ≤ A2 by omega), decide_eq_false (show ¬ C2 < 0 by omega), Bool.false_and, bf]
    rw [decide_eq_false (show ¬ (C2 = 0 ∧ 0 < C1) by omega), bf, if_neg (show ¬ C2 < A2 by omega), if_neg (show ¬ (0 < A2 ∨ A2 = 0 ∧ A1 < 0) by omega), if_neg (show ¬ (C2 < 0 ∨ 0 = C2 ∧ 0 < C1) by omega)]
    simp
  · subst a
    rw [if_pos c, decide_eq_false (show ¬ (0 : Int) < 0 by omega), Bool.false_and, bf, if_neg (show ¬ (0 : Int) < 0 by omega), if_neg (show ¬ (0 : Int) < 0 by omega), if_neg (show ¬ 0 < C2 by omega), if_pos c, if_pos (show C2 < 0 ∨ 0 = C2 ∧ 0 < C1 by omega)]
    have ha : A1 ≠ 0 := fun e => by rw [e] at hg; simp at hg
    by_cases k : 0 < A1
    · rw [decide_eq_true ⟨rfl, k⟩, bt, if_neg (by omega)]; omega
    · rw [decide_eq_false (by omega), bf, if_pos (by omega)]; omega
  · subst a c
    have hg' : A1 * C1 < 0 := by
      rcases hg with hg | hg
      · exact absurd (by simp) hg
      · simpa using hg
    by_cases k : 0 < A1
    · have : C1 < 0 := by
        rcases Int.lt_or_le C1 0 with q | q
        · exact q
        · have := zz (show 0 ≤ A1 by omega) q; omega
      rw [if_neg (show ¬ ((0 : Int) < 0 ∨ (0 : Int) = 0 ∧ A1 < 0) by omega), if_neg (show ¬ ((0 : Int) < 0 ∨ (0 : Int) = 0 ∧ 0 < C1) by omega)]
      simp
    · have k1 : A1 < 0 := by
        rcases Int.lt_or_eq_of_le (show A1 ≤ 0 by omega) with q | q
        · exact q
        · rw [q, Int.zero_mul] at hg'; omega
      have : 0 < C1 := by
        rcases Int.lt_or_le 0 C1 with q | q
        · exact q
        · have := Int.mul_nonneg_of_nonpos_of_nonpos (show A1 ≤ 0 by omega) q; omega
      rw [if_pos (show (0 : Int) < 0 ∨ (0 : Int) = 0 ∧ A1 < 0 by omega), if_pos (show (0 : Int) < 0 ∨ (0 : Int) = 0 ∧ 0 < C1 by omega)]
      simp
  · subst a
    have e : (0 : Int) * C1 - A1 * C2 = -A1 * C2 := by grind
    rw [e, mul_dec c]
    rw [if_neg (by omega), if_pos c, decide_eq_true (show (0 : Int) ≤ 0 by omega), Bool.true_and, if_neg (show ¬ (0 : Int) < 0 by omega), if_neg (show ¬ (0 : Int) < 0 by omega), if_pos c, decide_eq_false (show ¬ (C2 = 0 ∧ 0 < C1) by omega), bf, if_neg (show ¬ C2 < 0 by omega), if_neg (show ¬ (C2 < 0 ∨ 0 = C2 ∧ 0 < C1) by omega)]
    by_cases k : A1 < 0
    · rw [decide_eq_true (by omega), bt, if_pos (by omega)]; omega
    · rw [decide_eq_false (by omega), bf, if_neg (by omega)]; omega
  · rw [if_pos c, decide_eq_false (show ¬ A2 < 0 by omega), Bool.false_and, bf, if_pos a, decide_eq_false (show ¬ 0 ≤ C2 by omega), Bool.false_and, bf, if_neg (show ¬ A2 < C2 by omega), if_pos (show C2 < A2 by omega), decide_eq_false (show ¬ (A2 = 0 ∧ 0 < A1) by omega), bf, if_pos (show 0 < A2 ∨ A2 = 0 ∧ A1 < 0 by omega), if_pos (show C2 < 0 ∨ 0 = C2 ∧ 0 < C1 by omega)]
    omega
  · subst c
    have hc : C1 ≠ 0 := fun e => by rw [e] at hg; simp at hg
    have e : A1 * 0 - A2 * C1 = -C1 * A2 := by grind
    rw [e, mul_dec a]
    rw [if_neg (by omega), if_neg (by omega), if_pos a, decide_eq_true (show (0 : Int) ≤ 0 by omega), Bool.true_and, if_neg (show ¬ A2 < 0 by omega), if_pos a, decide_eq_false (show ¬ (A2 = 0 ∧ 0 < A1) by omega), bf, if_pos (show 0 < A2 ∨ A2 = 0 ∧ A1 < 0 by omega)]
    by_cases k : 0 < C1
    · rw [decide_eq_false (by omega), bf, if_pos (by omega)]; omega
    · rw [decide_eq_true (by omega), bt, if_neg (by omega)]; omega
  · have hd := two _ (gd_side (pp a c) hg)
    rw [eneg]
    rw [if_neg (by omega), if_pos c, if_pos a, decide_eq_true (show 0 ≤ A2 by omega), decide_eq_true (show 0 ≤ C2 by omega), Bool.true_and, Bool.true_and, decide_eq_false (show ¬ (C2 = 0 ∧ 0 < C1) by omega), decide_eq_false (show ¬ (A2 = 0 ∧ 0 < A1) by omega), bf, if_pos (show 0 < A2 ∨ A2 = 0 ∧ A1 < 0 by omega), if_neg (show ¬ (C2 < 0 ∨ 0 = C2 ∧ 0 < C1) by omega)]
    split <;> split <;> omega
end Go.Proofs.YthmcejeeohlafaaDoor
