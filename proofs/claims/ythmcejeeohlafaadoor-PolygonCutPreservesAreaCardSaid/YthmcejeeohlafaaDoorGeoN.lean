/- Plain mathematics of layer 2: two segments meet exactly if the common point of their lines lies on both; symmetries; boxes. -/
import Derived.Test.YthmcejeeohlafaaDoorGeoM
namespace Go.Proofs.YthmcejeeohlafaaDoor

theorem scale1p {D S x y : Int} (hD : 0 < D) (h : D * x = S * y) (h0 : 0 ≤ S) (h1 : S ≤ D) : (0 ≤ x ∧ x ≤ y) ∨ (y ≤ x ∧ x ≤ 0) := by
  have e : D * (y - x) = (D - S) * y := by grind
  rcases Int.le_total 0 y with hy | hy
  · left
    have a := pos_mul hD (by rw [h]; exact Int.mul_nonneg h0 hy)
    have b := pos_mul hD (by rw [e]; exact Int.mul_nonneg (by omega) hy)
    omega
  · right
    have a := pos_mul (x := D) (y := -x) hD (by rw [Int.mul_neg, h, ← Int.mul_neg]; exact Int.mul_nonneg h0 (by omega))
    have b := pos_mul (x := D) (y := -(y - x)) hD (by rw [Int.mul_neg, e, ← Int.mul_neg]; exact Int.mul_nonneg (by omega) (by omega))
    omega
theorem scale2p {D S x y : Int} (hD : 0 < D) (h : D * x = S * y) (hy : y ≠ 0) (hb : (0 ≤ x ∧ x ≤ y) ∨ (y ≤ x ∧ x ≤ 0)) : 0 ≤ S ∧ S ≤ D := by
  have e : D * (y - x) = (D - S) * y := by grind
  rcases Int.lt_or_gt_of_ne hy with g | g
  · have a := pos_mul (x := -y) (y := S) (by omega) (by
      have := Int.mul_nonneg (show 0 ≤ D by omega) (show 0 ≤ -x by omega)
      grind)
    have b := pos_mul (x := -y) (y := D - S) (by omega) (by
      have := Int.mul_nonneg (show 0 ≤ D by omega) (show 0 ≤ -(y - x) by omega)
      grind)
    omega
  · have a := pos_mul (x := y) (y := S) g (by
      have := Int.mul_nonneg (show 0 ≤ D by omega) (show 0 ≤ x by omega)
      grind)
    have b := pos_mul (x := y) (y := D - S) g (by
      have := Int.mul_nonneg (show 0 ≤ D by omega) (show 0 ≤ y - x by omega)
      grind)
    omega
/-- S lies between 0 and D, and D is not 0. -/
def Inn (D S : Int) : Prop := (0 < D ∧ 0 ≤ S ∧ S ≤ D) ∨ (D < 0 ∧ D ≤ S ∧ S ≤ 0)
theorem scale1 {D S x y : Int} (h : D * x = S * y) (hi : Inn D S) : (0 ≤ x ∧ x ≤ y) ∨ (y ≤ x ∧ x ≤ 0) := by
  rcases hi with ⟨h0, h1, h2⟩ | ⟨h0, h1, h2⟩
  · exact scale1p h0 h h1 h2
  · exact scale1p (D := -D) (S := -S) (by omega) (by grind) (by omega) (by omega)
theorem scale2 {D S x y : Int} (hD : D ≠ 0) (h : D * x = S * y) (hy : y ≠ 0) (hb : (0 ≤ x ∧ x ≤ y) ∨ (y ≤ x ∧ x ≤ 0)) : Inn D S := by
  unfold Inn
  rcases Int.lt_or_gt_of_ne hD with g | g
  · have := scale2p (D := -D) (S := -S) (by omega) (by grind) hy hb
    omega
  · have := scale2p g h hy hb
    omega
theorem scale3 {D S x y z t : Int} (hD : D ≠ 0) (h : D * x = S * y) (g : D * z = S * t) (hy : y ≠ 0 ∨ t ≠ 0) (hb : (0 ≤ x ∧ x ≤ y) ∨ (y ≤ x ∧ x ≤ 0)) (hc : (0 ≤ z ∧ z ≤ t) ∨ (t ≤ z ∧ z ≤ 0)) : Inn D S := by
  rcases hy with hy | hy
  · exact scale2 hD h hy hb
  · exact scale2 hD g hy hc

def dD (a b c d p q r s : Int) : Int := (c - a) * (s - q) - (d - b) * (r - p)
def dS (a b p q r s : Int) : Int := (p - a) * (s - q) - (q - b) * (r - p)
def dT (a b c d p q : Int) : Int := (p - a) * (d - b) - (q - b) * (c - a)
theorem opp12 {a b c d p q r s : Int} : oppB (ori a b c d p q) (ori a b c d r s) = true ↔ (0 < dT a b c d p q ∧ dT a b c d p q < dD a b c d p q r s) ∨ (dD a b c d p q r s < dT a b c d p q ∧ dT a b c d p q < 0) := by
  have e1 : (c - a) * (q - b) - (d - b) * (p - a) = -dT a b c d p q := by unfold dT; grind
  have e2 : (c - a) * (s - b) - (d - b) * (r - a) = dD a b c d p q r s - dT a b c d p q := by unfold dT dD; grind
  rw [show oppB (ori a b c d p q) (ori a b c d r s) = true ↔ _ from opp_iff]
  generalize dD a b c d p q r s = D at *
  generalize dT a b c d p q = T at *
  omega
theorem opp34 {a b c d p q r s : Int} : oppB (ori p q r s a b) (ori p q r s c d) = true ↔ (0 < dS a b p q r s ∧ dS a b p q r s < dD a b c d p q r s) ∨ (dD a b c d p q r s < dS a b p q r s ∧ dS a b p q r s < 0) := by
  have e1 : (r - p) * (b - q) - (s - q) * (a - p) = dS a b p q r s := by unfold dS; grind
  have e2 : (r - p) * (d - q) - (s - q) * (c - p) = dS a b p q r s - dD a b c d p q r s := by unfold dS dD; grind
  rw [show oppB (ori p q r s a b) (ori p q r s c d) = true ↔ _ from opp_iff]
  generalize dD a b c d p q r s = D at *
  generalize dS a b p q r s = T at *
  omega
theorem seg_iff {a b c d p q r s : Int} : segB a b c d p q r s = true ↔ ((onB a b c d p q = true ∨ onB a b c d r s = true) ∨ (onB p q r s a b = true ∨ onB p q r s c d = true)) ∨ (oppB (ori a b c d p q) (ori a b c d r s) = true ∧ oppB (ori p q r s a b) (ori p q r s c d) = true) := by
  unfold segB
  simp only [Bool.or_eq_true, Bool.and_eq_true]
/-- Segments that are not parallel. -/
theorem seg_meets {a b c d p q r s : Int} (hD : dD a b c d p q r s ≠ 0) : segB a b c d p q r s = true ↔ Inn (dD a b c d p q r s) (dS a b p q r s) ∧ Inn (dD a b c d p q r s) (dT a b c d p q) := by
  have i0 : dD a b c d p q r s * (p - a) = dS a b p q r s * (c - a) - dT a b c d p q * (r - p) := by unfold dD dS dT; grind
  have i1 : dD a b c d p q r s * (q - b) = dS a b p q r s * (d - b) - dT a b c d p q * (s - q) := by unfold dD dS dT; grind
  have n1 : c - a ≠ 0 ∨ d - b ≠ 0 := by
    false_or_by_contra
    rename_i h
    have h1 : c - a = 0 := by omega
    have h2 : d - b = 0 := by omega
    apply hD; unfold dD; rw [h1, h2]; simp
  have n2 : r - p ≠ 0 ∨ s - q ≠ 0 := by
    false_or_by_contra
    rename_i h
    have h1 : r - p = 0 := by omega
    have h2 : s - q = 0 := by omega
    apply hD; unfold dD; rw [h1, h2]; simp
  have c1 : (c - a) * (q - b) - (d - b) * (p - a) = -dT a b c d p q := by unfold dT; grind
  have c2 : (c - a) * (s - b) - (d - b) * (r - a) = dD a b c d p q r s - dT a b c d p q := by unfold dT dD; grind
  have c3 : (r - p) * (b - q) - (s - q) * (a - p) = dS a b p q r s := by unfold dS; grind
  have c4 : (r - p) * (d - q) - (s - q) * (c - p) = dS a b p q r s - dD a b c d p q r s := by unfold dS dD; grind
  rw [seg_iff, opp12, opp34, on_iff, on_iff, on_iff, on_iff]
  generalize dD a b c d p q r s = D at *
  generalize dS a b p q r s = S at *
  generalize dT a b c d p q = T at *
  constructor
  · rintro (((⟨h1, h2, h3⟩ | ⟨h1, h2, h3⟩) | (⟨h1, h2, h3⟩ | ⟨h1, h2, h3⟩)) | ⟨h1, h2⟩)
    · have hT : T = 0 := by omega
      subst hT
      unfold Btw at h1 h2
      exact ⟨scale3 (x := p - a) (y := c - a) (z := q - b) (t := d - b) hD (by grind) (by grind) n1 (by omega) (by omega), by unfold Inn; omega⟩
    · have hT : T = D := by omega
      subst hT
      unfold Btw at h1 h2
      exact ⟨scale3 (x := r - a) (y := c - a) (z := s - b) (t := d - b) hD (by grind) (by grind) n1 (by omega) (by omega), by unfold Inn; omega⟩
    · have hS : S = 0 := by omega
      subst hS
      unfold Btw at h1 h2
      exact ⟨by unfold Inn; omega, scale3 (x := a - p) (y := r - p) (z := b - q) (t := s - q) hD (by grind) (by grind) n2 (by omega) (by omega)⟩
    · have hS : S = D := by omega
      subst hS
      unfold Btw at h1 h2
      exact ⟨by unfold Inn; omega, scale3 (x := c - p) (y := r - p) (z := d - q) (t := s - q) hD (by grind) (by grind) n2 (by omega) (by omega)⟩
    · unfold Inn; omega
  · rintro ⟨hS, hT⟩
    by_cases t0 : T = 0
    · subst t0
      left; left; left
      have s0 := scale1 (x := p - a) (y := c - a) (show D * (p - a) = S * (c - a) by grind) hS
      have s1 := scale1 (x := q - b) (y := d - b) (show D * (q - b) = S * (d - b) by grind) hS
      exact ⟨by unfold Btw; omega, by unfold Btw; omega, by omega⟩
    · by_cases t1 : T = D
      · subst t1
        left; left; right
        have s0 := scale1 (x := r - a) (y := c - a) (show T * (r - a) = S * (c - a) by grind) hS
        have s1 := scale1 (x := s - b) (y := d - b) (show T * (s - b) = S * (d - b) by grind) hS
        exact ⟨by unfold Btw; omega, by unfold Btw; omega, by omega⟩
      · by_cases s2 : S = 0
        · subst s2
          left; right; left
          have s0 := scale1 (x := a - p) (y := r - p) (show D * (a - p) = T * (r - p) by grind) hT
          have s1 := scale1 (x := b - q) (y := s - q) (show D * (b - q) = T * (s - q) by grind) hT
          exact ⟨by unfold Btw; omega, by unfold Btw; omega, by omega⟩
        · by_cases s3 : S = D
          · subst s3
            left; right; right
            have s0 := scale1 (x := c - p) (y := r - p) (show S * (c - p) = T * (r - p) by grind) hT
            have s1 := scale1 (x := d - q) (y := s - q) (show S * (d - q) = T * (s - q) by grind) hT
            exact ⟨by unfold Btw; omega, by unfold Btw; omega, by omega⟩
          · right
            unfold Inn at hS hT
            omega
/-- Parallel or degenerate segments. -/
theorem seg_par {a b c d p q r s : Int} (hD : dD a b c d p q r s = 0) : segB a b c d p q r s = ((onB a b c d p q || onB a b c d r s) || (onB p q r s a b || onB p q r s c d)) := by
  have : oppB (ori a b c d p q) (ori a b c d r s) = false := by
    rw [← Bool.not_eq_true, opp12, hD]; omega
  unfold segB
  rw [this]
  simp
theorem opp_neg {x y z t u v m n : Int} (h : x - y = -(u - v)) (g : z - t = -(m - n)) : oppB (cmpI x y) (cmpI z t) = oppB (cmpI u v) (cmpI m n) := by
  rw [cmpI_neg h, cmpI_neg g]; unfold oppB; rw [Int.neg_mul_neg]
theorem opp_comm (x y : Int) : oppB x y = oppB y x := by unfold oppB; rw [Int.mul_comm]
theorem seg_first {a b c d p q r s : Int} : segB c d a b p q r s = segB a b c d p q r s := by
  unfold segB
  rw [on_swap, on_swap (p := r), Bool.or_comm (onB p q r s c d), opp_comm (ori p q r s c d)]
  congr 2
  exact opp_neg (by grind) (by grind)
theorem seg_second {a b c d p q r s : Int} : segB a b c d r s p q = segB a b c d p q r s := by
  unfold segB
  rw [on_swap (a := p), on_swap (a := p) (p := c), Bool.or_comm (onB a b c d r s), opp_comm (ori a b c d r s)]
  congr 2
  exact opp_neg (by grind) (by grind)
theorem seg_both {a b c d p q r s : Int} : segB p q r s a b c d = segB a b c d p q r s := by
  unfold segB
  rw [Bool.or_comm (onB p q r s a b || onB p q r s c d), Bool.and_comm]
theorem seg_same {a b c d r s : Int} : segB a b c d a b r s = true := by
  unfold segB; rw [on_first]; simp

/-! ### The boxes of segments that meet -/
theorem no_gap {D S T a c p r : Int} (h : D * (p - a) = S * (c - a) - T * (r - p)) (hS : (0 < S ∧ S < D) ∨ (D < S ∧ S < 0)) (hT : (0 < T ∧ T < D) ∨ (D < T ∧ T < 0)) : ¬ (a < p ∧ c < p ∧ a < r ∧ c < r) := by
  rintro ⟨h1, h2, h3, h4⟩
  obtain ⟨m, m1, m2, m3, m4⟩ : ∃ m, a ≤ m ∧ c ≤ m ∧ m < p ∧ m < r := by
    rcases Int.le_total a c with g | g
    · exact ⟨c, g, Int.le_refl _, h2, h4⟩
    · exact ⟨a, Int.le_refl _, g, h1, h3⟩
  have e : (D - T) * (p - m) + T * (r - m) + (D - S) * (m - a) + S * (m - c) = 0 := by grind
  rcases hS with ⟨s1, s2⟩ | ⟨s1, s2⟩ <;> rcases hT with ⟨t1, t2⟩ | ⟨t1, t2⟩
  · have x1 := Int.mul_pos (show 0 < D - T by omega) (show 0 < p - m by omega)
    have x2 := Int.mul_pos t1 (show 0 < r - m by omega)
    have x3 := Int.mul_nonneg (show 0 ≤ D - S by omega) (show 0 ≤ m - a by omega)
    have x4 := Int.mul_nonneg (show 0 ≤ S by omega) (show 0 ≤ m - c by omega)
    omega
  · omega
  · omega
  · have x1 := Int.mul_pos (show 0 < T - D by omega) (show 0 < p - m by omega)
    have x2 := Int.mul_pos (show 0 < -T by omega) (show 0 < r - m by omega)
    have x3 := Int.mul_nonneg (show 0 ≤ S - D by omega) (show 0 ≤ m - a by omega)
    have x4 := Int.mul_nonneg (show 0 ≤ -S by omega) (show 0 ≤ m - c by omega)
    have e' : (T - D) * (p - m) + -T * (r - m) + (S - D) * (m - a) + -S * (m - c) = 0 := by grind
    omega
theorem seg_boxes {a b c d p q r s : Int} (h : segB a b c d p q r s = true) :
    (¬ (a < p ∧ c < p ∧ a < r ∧ c < r) ∧ ¬ (p < a ∧ p < c ∧ r < a ∧ r < c)) ∧ ¬ (b < q ∧ d < q ∧ b < s ∧ d < s) ∧ ¬ (q < b ∧ q < d ∧ s < b ∧ s < d) := by
  have i0 : dD a b c d p q r s * (p - a) = dS a b p q r s * (c - a) - dT a b c d p q * (r - p) := by unfold dD dS dT; grind
  have i1 : dD a b c d p q r s * (q - b) = dS a b p q r s * (d - b) - dT a b c d p q * (s - q) := by unfold dD dS dT; grind
  rw [seg_iff, opp12, opp34, on_iff, on_iff, on_iff, on_iff] at h
  generalize dD a b c d p q r s = D at *
  generalize dS a b p q r s = S at *
  generalize dT a b c d p q = T at *
  unfold Btw at h
  rcases h with ((⟨h1, h2, _⟩ | ⟨h1, h2, _⟩) | (⟨h1, h2, _⟩ | ⟨h1, h2, _⟩)) | ⟨h1, h2⟩
  · omega
  · omega
  · omega
  · omega
  · refine ⟨⟨no_gap i0 h2 h1, ?_⟩, no_gap i1 h2 h1, ?_⟩
    · have := no_gap (a := -a) (c := -c) (p := -p) (r := -r) (D := D) (S := S) (T := T) (by grind) h2 h1
      omega
    · have := no_gap (a := -b) (c := -d) (p := -q) (r := -s) (D := D) (S := S) (T := T) (by grind) h2 h1
      omega

/-! ### A common point -/
theorem cancel {k x y : Int} (hk : k ≠ 0) (h : k * x = k * y) : x = y := Int.eq_of_mul_eq_mul_left hk h
theorem on_tr {a b c d p q : Int} : onB b a d c q p = onB a b c d p q := by
  rw [Bool.eq_iff_iff, on_iff, on_iff]
  constructor
  · rintro ⟨h1, h2, h3⟩; exact ⟨h2, h1, by grind⟩
  · rintro ⟨h1, h2, h3⟩; exact ⟨h2, h1, by grind⟩
theorem on_axis {a b c d p q : Int} (hn : c - a ≠ 0) (h : Btw a c p) (hc : (c - a) * (q - b) = (d - b) * (p - a)) : onB a b c d p q = true := by
  rw [on_iff]
  refine ⟨h, ?_, hc⟩
  have := scale1 (D := c - a) (S := p - a) (x := q - b) (y := d - b) (by grind) (by unfold Btw at h; unfold Inn; omega)
  unfold Btw
  omega
theorem par_axis {a b c d p q r s x y : Int} (hD : dD a b c d p q r s = 0) (hn : c - a ≠ 0) (hm : r - p ≠ 0 ∨ s - q ≠ 0) (h : onB a b c d x y = true) (g : onB p q r s x y = true) :
    (onB a b c d p q = true ∨ onB a b c d r s = true) ∨ (onB p q r s a b = true ∨ onB p q r s c d = true) := by
  obtain ⟨h1, h2, h3⟩ := on_iff.1 h
  obtain ⟨g1, g2, g3⟩ := on_iff.1 g
  unfold dD at hD
  have hD' : (c - a) * (s - q) = (d - b) * (r - p) := by omega
  have hr : r - p ≠ 0 := by
    rcases hm with hm | hm
    · exact hm
    · intro h0
      rw [h0, Int.mul_zero] at hD'
      rcases Int.mul_eq_zero.1 hD' with e | e
      · exact hn e
      · exact hm e
  have k1 : (c - a) * (q - y) = (d - b) * (p - x) := cancel hr (by grind)
  have l1 : (c - a) * (q - b) = (d - b) * (p - a) := by grind
  have l2 : (c - a) * (s - b) = (d - b) * (r - a) := by grind
  have l3 : (r - p) * (b - q) = (s - q) * (a - p) := cancel hn (by grind)
  have l4 : (r - p) * (d - q) = (s - q) * (c - p) := cancel hn (by grind)
  have one : Btw a c p ∨ Btw a c r ∨ Btw p r a ∨ Btw p r c := by unfold Btw at *; omega
  rcases one with o | o | o | o
  · exact .inl (.inl (on_axis hn o l1))
  · exact .inl (.inr (on_axis hn o l2))
  · exact .inr (.inl (on_axis hr o l3))
  · exact .inr (.inr (on_axis hr o l4))
theorem seg_common {a b c d p q r s x y : Int} (h : onB a b c d x y = true) (g : onB p q r s x y = true) : segB a b c d p q r s = true := by
  obtain ⟨h1, h2, h3⟩ := on_iff.1 h
  obtain ⟨g1, g2, g3⟩ := on_iff.1 g
  by_cases hD : dD a b c d p q r s = 0
  · rw [seg_iff]
    left
    by_cases hu : c - a = 0 ∧ d - b = 0
    · have e1 : x = a := by unfold Btw at h1; omega
      have e2 : y = b := by unfold Btw at h2; omega
      subst e1 e2
      exact .inr (.inl g)
    · by_cases hv : r - p = 0 ∧ s - q = 0
      · have e1 : x = p := by unfold Btw at g1; omega
        have e2 : y = q := by unfold Btw at g2; omega
        subst e1 e2
        exact .inl (.inl h)
      · by_cases hn : c - a = 0
        · have := par_axis (a := b) (b := a) (c := d) (d := c) (p := q) (q := p) (r := s) (s := r) (x := y) (y := x) (by unfold dD at *; grind) (by omega) (by omega) (by rw [on_tr]; exact h) (by rw [on_tr]; exact g)
          rw [on_tr (a := a) (b := b) (c := c) (d := d) (p := p) (q := q), on_tr (a := a) (b := b) (c := c) (d := d) (p := r) (q := s), on_tr (a := p) (b := q) (c := r) (d := s) (p := a) (q := b), on_tr (a := p) (b := q) (c := r) (d := s) (p := c) (q := d)] at this
          exact this
        · exact par_axis hD hn (by omega) h g
  · rw [seg_meets hD]
    have e1 : dD a b c d p q r s * (x - a) = dS a b p q r s * (c - a) := by unfold dD dS; grind
    have e2 : dD a b c d p q r s * (y - b) = dS a b p q r s * (d - b) := by unfold dD dS; grind
    have e3 : dD a b c d p q r s * (x - p) = dT a b c d p q * (r - p) := by unfold dD dT; grind
    have e4 : dD a b c d p q r s * (y - q) = dT a b c d p q * (s - q) := by unfold dD dT; grind
    have n1 : c - a ≠ 0 ∨ d - b ≠ 0 := by
      false_or_by_contra
      rename_i h
      have h1 : c - a = 0 := by omega
      have h2 : d - b = 0 := by omega
      apply hD; unfold dD; rw [h1, h2]; simp
    have n2 : r - p ≠ 0 ∨ s - q ≠ 0 := by
      false_or_by_contra
      rename_i h
      have h1 : r - p = 0 := by omega
      have h2 : s - q = 0 := by omega
      apply hD; unfold dD; rw [h1, h2]; simp
    unfold Btw at h1 h2 g1 g2
    exact ⟨scale3 hD e1 e2 n1 (by omega) (by omega), scale3 hD e3 e4 n2 (by omega) (by omega)⟩
end Go.Proofs.YthmcejeeohlafaaDoor
