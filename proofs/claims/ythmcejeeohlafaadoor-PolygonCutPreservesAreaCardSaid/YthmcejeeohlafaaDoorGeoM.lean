/- Plain mathematics of layer 2: what it means that a point lies on a segment and that two segments meet. -/
import Derived.Test.YthmcejeeohlafaaDoorGeoD
namespace Go.Proofs.YthmcejeeohlafaaDoor

theorem cmpI_lt_iff {x y : Int} : cmpI x y < 0 ↔ x < y := by unfold cmpI; split <;> (try split) <;> omega
theorem cmpI_gt_iff {x y : Int} : 0 < cmpI x y ↔ y < x := by unfold cmpI; split <;> (try split) <;> omega
theorem cmpI_eq_iff {x y : Int} : cmpI x y = 0 ↔ x = y := by unfold cmpI; split <;> (try split) <;> omega
theorem cmpI_same {x y z t : Int} (h : x - y = z - t) : cmpI x y = cmpI z t := by unfold cmpI; split <;> split <;> (try split) <;> (try split) <;> omega
theorem cmpI_neg {x y z t : Int} (h : x - y = -(z - t)) : cmpI x y = -cmpI z t := by unfold cmpI; split <;> split <;> (try split) <;> (try split) <;> omega
theorem cmpI_zero {x y : Int} (h : x - y = 0) : cmpI x y = 0 := by unfold cmpI; split <;> (try split) <;> omega
def Btw (a c p : Int) : Prop := (a ≤ p ∧ p ≤ c) ∨ (c ≤ p ∧ p ≤ a)
theorem btw_iff {a c p : Int} : (mnI a c ≤ p ∧ p ≤ mxI a c) ↔ Btw a c p := by unfold mnI mxI Btw; split <;> split <;> omega
theorem on_iff {a b c d p q : Int} : onB a b c d p q = true ↔ Btw a c p ∧ Btw b d q ∧ (c - a) * (q - b) = (d - b) * (p - a) := by
  unfold onB
  simp only [Bool.and_eq_true, decide_eq_true_eq, beq_iff_eq]
  rw [show ori a b c d p q = 0 ↔ _ from cmpI_eq_iff, ← btw_iff, ← btw_iff]
  constructor
  · rintro ⟨⟨⟨⟨h1, h2⟩, h3⟩, h4⟩, h5⟩; exact ⟨⟨h1, h2⟩, ⟨h3, h4⟩, h5⟩
  · rintro ⟨⟨h1, h2⟩, ⟨h3, h4⟩, h5⟩; exact ⟨⟨⟨⟨h1, h2⟩, h3⟩, h4⟩, h5⟩
theorem opp_iff {x y z t : Int} : oppB (cmpI x y) (cmpI z t) = true ↔ (x < y ∧ t < z) ∨ (y < x ∧ z < t) := by
  unfold oppB
  rw [decide_eq_true_eq]
  rcases Int.lt_trichotomy x y with h | h | h <;> rcases Int.lt_trichotomy z t with g | g | g
  all_goals
    first | rw [cmpI_lt h] | rw [cmpI_eq h] | rw [cmpI_gt h]
    first | rw [cmpI_lt g] | rw [cmpI_eq g] | rw [cmpI_gt g]
    omega

theorem pos_mul {x y : Int} (hx : 0 < x) (h : 0 ≤ x * y) : 0 ≤ y := by
  false_or_by_contra
  have := Int.mul_neg_of_pos_of_neg hx (show y < 0 by omega)
  omega
theorem nn_of {u v : Int} (h : 0 ≤ v * (u - v)) : (0 ≤ v ∧ v ≤ u) ∨ (u ≤ v ∧ v ≤ 0) := by
  rcases Int.lt_trichotomy v 0 with h1 | h1 | h1
  · right
    have : 0 ≤ -v * (v - u) := by rw [Int.neg_mul, ← Int.mul_neg]; rw [show -(v - u) = u - v by omega]; exact h
    have := pos_mul (by omega) this
    omega
  · omega
  · left
    have := pos_mul h1 h
    omega
theorem of_nn {u v : Int} (h : (0 ≤ v ∧ v ≤ u) ∨ (u ≤ v ∧ v ≤ 0)) : 0 ≤ v * (u - v) := by
  rcases h with ⟨h1, h2⟩ | ⟨h1, h2⟩
  · exact Int.mul_nonneg h1 (by omega)
  · have := Int.mul_nonneg (show 0 ≤ -v by omega) (show 0 ≤ -(u - v) by omega)
    rwa [Int.neg_mul_neg] at this
theorem sq_pos {u : Int} (h : u ≠ 0) : 0 < u * u := by
  rcases Int.lt_trichotomy u 0 with h1 | h1 | h1
  · have := Int.mul_pos (show 0 < -u by omega) (show 0 < -u by omega); rwa [Int.neg_mul_neg] at this
  · exact absurd h1 h
  · exact Int.mul_pos h1 h1
theorem sq_nn (u : Int) : 0 ≤ u * u := by
  by_cases h : u = 0
  · subst h; decide
  · exact Int.le_of_lt (sq_pos h)
/-- The scalar product decides on a line. -/
theorem dot_iff {u0 u1 v0 v1 : Int} (hc : u0 * v1 = u1 * v0) : (0 ≤ v0 * (u0 - v0) + v1 * (u1 - v1) ∧ ((u0 ≠ 0 ∨ u1 ≠ 0) ∨ (v0 = 0 ∧ v1 = 0))) ↔ (((0 ≤ v0 ∧ v0 ≤ u0) ∨ (u0 ≤ v0 ∧ v0 ≤ 0)) ∧ ((0 ≤ v1 ∧ v1 ≤ u1) ∨ (u1 ≤ v1 ∧ v1 ≤ 0))) := by
  constructor
  · rintro ⟨hd, h | ⟨h0, h1⟩⟩
    · have hS : 0 < u0 * u0 + u1 * u1 := by
        have := sq_nn u0; have := sq_nn u1
        rcases h with h | h
        · have := sq_pos h; omega
        · have := sq_pos h; omega
      have e0 : (u0 * u0 + u1 * u1) * (v0 * (u0 - v0)) = (u0 * u0) * (v0 * (u0 - v0) + v1 * (u1 - v1)) := by grind
      have e1 : (u0 * u0 + u1 * u1) * (v1 * (u1 - v1)) = (u1 * u1) * (v0 * (u0 - v0) + v1 * (u1 - v1)) := by grind
      refine ⟨nn_of (pos_mul hS ?_), nn_of (pos_mul hS ?_)⟩
      · rw [e0]; exact Int.mul_nonneg (sq_nn _) hd
      · rw [e1]; exact Int.mul_nonneg (sq_nn _) hd
    · subst h0 h1; omega
  · rintro ⟨h0, h1⟩
    have := of_nn h0
    have := of_nn h1
    omega
theorem on_dot {a b c d p q : Int} : onB a b c d p q = ((ori a b c d p q == 0) && (decide (0 ≤ (p - a) * (c - p) + (q - b) * (d - q)) && (decide (¬ (a = c ∧ b = d)) || decide (p = a ∧ q = b)))) := by
  rw [Bool.eq_iff_iff, on_iff]
  simp only [Bool.and_eq_true, Bool.or_eq_true, decide_eq_true_eq, beq_iff_eq]
  rw [show ori a b c d p q = 0 ↔ _ from cmpI_eq_iff]
  have key := fun h => dot_iff (u0 := c - a) (u1 := d - b) (v0 := p - a) (v1 := q - b) h
  rw [show c - a - (p - a) = c - p by omega, show d - b - (q - b) = d - q by omega] at key
  unfold Btw
  constructor
  · rintro ⟨h1, h2, h3⟩
    have := (key h3).2 ⟨by omega, by omega⟩
    exact ⟨h3, this.1, by omega⟩
  · rintro ⟨h3, h4, h5⟩
    have := (key h3).1 ⟨h4, by omega⟩
    exact ⟨by omega, by omega, h3⟩
theorem on_first {a b c d : Int} : onB a b c d a b = true := on_iff.2 ⟨by unfold Btw; omega, by unfold Btw; omega, by grind⟩
theorem on_last {a b c d : Int} : onB a b c d c d = true := on_iff.2 ⟨by unfold Btw; omega, by unfold Btw; omega, by grind⟩
theorem on_mid {a b c d p q : Int} (h : 2 * p = a + c) (g : 2 * q = b + d) : onB a b c d p q = true := on_iff.2 ⟨by unfold Btw; omega, by unfold Btw; omega, by
  have : 2 * ((c - a) * (q - b)) = 2 * ((d - b) * (p - a)) := by grind
  omega⟩
theorem on_swap {a b c d p q : Int} : onB c d a b p q = onB a b c d p q := by
  rw [Bool.eq_iff_iff, on_iff, on_iff]
  unfold Btw
  constructor
  · rintro ⟨h1, h2, h3⟩; exact ⟨by omega, by omega, by grind⟩
  · rintro ⟨h1, h2, h3⟩; exact ⟨by omega, by omega, by grind⟩
theorem on_point {a b p q : Int} : onB a b a b p q = decide (a = p ∧ b = q) := by
  rw [Bool.eq_iff_iff, on_iff, decide_eq_true_eq]
  unfold Btw
  constructor
  · rintro ⟨h1, h2, _⟩; omega
  · rintro ⟨rfl, rfl⟩; exact ⟨by omega, by omega, by grind⟩
end Go.Proofs.YthmcejeeohlafaaDoor
