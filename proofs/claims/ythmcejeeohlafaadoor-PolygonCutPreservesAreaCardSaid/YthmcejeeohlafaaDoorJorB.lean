/- Winding numbers of polygons, part B: common points of segments; segments that meet nothing. -/
import Derived.Test.YthmcejeeohlafaaDoorJorA
namespace Go.Proofs.YthmcejeeohlafaaDoor
open Go.ChangeShapes Go.WideShapes Go.ChangeAt Go.RowKit
set_option linter.unusedVariables false
set_option linter.unusedSimpArgs false

theorem btw_mul {a c p : Int} (v : Int) (h : Btw a c p) : v * a ≤ v * p ∨ v * c ≤ v * p := by
  unfold Btw at h
  rcases Int.le_total 0 v with g | g
  · rcases h with ⟨h1, h2⟩ | ⟨h1, h2⟩
    · exact .inl (Int.mul_le_mul_of_nonneg_left h1 g)
    · exact .inr (Int.mul_le_mul_of_nonneg_left h1 g)
  · rcases h with ⟨h1, h2⟩ | ⟨h1, h2⟩
    · exact .inr (Int.mul_le_mul_of_nonpos_left g h2)
    · exact .inl (Int.mul_le_mul_of_nonpos_left g h2)
/-- What is positive at both ends of a segment is positive on it. -/
theorem on_pos {x1 x2 y1 y2 p q : Int} (u v k : Int) (h : onB x1 x2 y1 y2 p q = true) (hx : 0 < u * x1 + v * x2 + k) (hy : 0 < u * y1 + v * y2 + k) : 0 < u * p + v * q + k := by
  obtain ⟨h1, h2, h3⟩ := on_iff.1 h
  by_cases e : y1 = x1
  · have hp : p = x1 := by unfold Btw at h1; omega
    subst hp e
    rcases btw_mul v h2 with g | g <;> omega
  · have key : (y1 - x1) * (u * p + v * q + k) = (y1 - p) * (u * x1 + v * x2 + k) + (p - x1) * (u * y1 + v * y2 + k) := by
      have : (y1 - x1) * (v * q) = v * ((y1 - x1) * x2 + (y2 - x2) * (p - x1)) := by
        have e3 : (y1 - x1) * q = (y1 - x1) * x2 + (y2 - x2) * (p - x1) := by have := h3; grind
        rw [← e3]; grind
      grind
    generalize u * x1 + v * x2 + k = fx at *
    generalize u * y1 + v * y2 + k = fy at *
    generalize u * p + v * q + k = fp at *
    unfold Btw at h1
    rcases Int.lt_or_gt_of_ne e with g | g
    · have m1 : (y1 - p) * fx ≤ 0 := Int.mul_nonpos_of_nonpos_of_nonneg (by omega) (by omega)
      have m2 : (p - x1) * fy ≤ 0 := Int.mul_nonpos_of_nonpos_of_nonneg (by omega) (by omega)
      have m3 : (y1 - p) * fx < 0 ∨ (p - x1) * fy < 0 := by
        by_cases z : y1 - p = 0
        · exact .inr (np (by omega) hy)
        · exact .inl (np (by omega) hx)
      rcases Int.lt_or_le 0 fp with z | z
      · exact z
      · have := Int.mul_nonneg_of_nonpos_of_nonpos (show y1 - x1 ≤ 0 by omega) z
        omega
    · have m1 : 0 ≤ (y1 - p) * fx := zz (by omega) (by omega)
      have m2 : 0 ≤ (p - x1) * fy := zz (by omega) (by omega)
      have m3 : 0 < (y1 - p) * fx ∨ 0 < (p - x1) * fy := by
        by_cases z : y1 - p = 0
        · exact .inr (pp (by omega) hy)
        · exact .inl (pp (by omega) hx)
      exact pos_of (y := y1 - x1) (by omega) (by rw [Int.mul_comm]; omega)
theorem det_on {a b c d p q : Int} (h : onB a b c d p q = true) : det a b c d p q = 0 := by
  have := (on_iff.1 h).2.2
  unfold det
  omega
theorem det_lin (a b c d p q : Int) : det a b c d p q = -(d - b) * p + (c - a) * q + ((d - b) * a - (c - a) * b) := by unfold det; grind
theorem on_det_pos {a b c d x1 x2 y1 y2 p q : Int} (h : onB x1 x2 y1 y2 p q = true) (hx : 0 < det a b c d x1 x2) (hy : 0 < det a b c d y1 y2) : 0 < det a b c d p q := by
  rw [det_lin] at *
  exact on_pos _ _ _ h hx hy
theorem on_det_neg {a b c d x1 x2 y1 y2 p q : Int} (h : onB x1 x2 y1 y2 p q = true) (hx : det a b c d x1 x2 < 0) (hy : det a b c d y1 y2 < 0) : det a b c d p q < 0 := by
  have := on_det_pos (a := c) (b := d) (c := a) (d := b) h (by rw [det_rev]; omega) (by rw [det_rev]; omega)
  rw [det_rev] at this
  omega
/-- Segments that meet have a common point, where all is scaled. -/
theorem seg_pt {a b c d p q r s : Int} (h : segB a b c d p q r s = true) : ∃ N X Y : Int, 0 < N ∧ onB (N * a) (N * b) (N * c) (N * d) X Y = true ∧ onB (N * p) (N * q) (N * r) (N * s) X Y = true := by
  have one : ∀ X Y, onB a b c d X Y = true → onB p q r s X Y = true → ∃ N X Y : Int, 0 < N ∧ onB (N * a) (N * b) (N * c) (N * d) X Y = true ∧ onB (N * p) (N * q) (N * r) (N * s) X Y = true := fun X Y h g => ⟨1, X, Y, by omega, by simpa using h, by simpa using g⟩
  by_cases hD : dD a b c d p q r s = 0
  · rw [seg_par hD, Bool.or_eq_true, Bool.or_eq_true, Bool.or_eq_true] at h
    rcases h with (h | h) | (h | h)
    · exact one _ _ h on_first
    · exact one _ _ h on_last
    · exact one _ _ on_first h
    · exact one _ _ on_last h
  · obtain ⟨hS, hT⟩ := (seg_meets hD).1 h
    have main : ∀ D S T : Int, 0 < D → (0 ≤ S ∧ S ≤ D) → (0 ≤ T ∧ T ≤ D) → D * (p - a) = S * (c - a) - T * (r - p) → D * (q - b) = S * (d - b) - T * (s - q) → ∃ N X Y : Int, 0 < N ∧ onB (N * a) (N * b) (N * c) (N * d) X Y = true ∧ onB (N * p) (N * q) (N * r) (N * s) X Y = true := by
      intro D S T h0 ⟨s0, s1⟩ ⟨t0, t1⟩ e1 e2
      have bt : ∀ x y U : Int, 0 ≤ U → U ≤ D → Btw (D * x) (D * y) (D * x + U * (y - x)) := fun x y U u0 u1 => by
        unfold Btw
        rcases Int.le_total x y with g | g
        · have m1 := Int.mul_nonneg u0 (show 0 ≤ y - x by omega)
          have m2 := Int.mul_nonneg (show 0 ≤ D - U by omega) (show 0 ≤ y - x by omega)
          have : (D - U) * (y - x) = D * y - D * x - U * (y - x) := by grind
          left; omega
        · have m1 := Int.mul_nonneg u0 (show 0 ≤ x - y by omega)
          have m2 := Int.mul_nonneg (show 0 ≤ D - U by omega) (show 0 ≤ x - y by omega)
          have : (D - U) * (x - y) = D * x - D * y + U * (y - x) := by grind
          have : U * (x - y) = -(U * (y - x)) := by grind
          right; omega
      have g1 : D * (p - a) = D * p - D * a := by grind
      have g2 : D * (q - b) = D * q - D * b := by grind
      have f1 : D * a + S * (c - a) = D * p + T * (r - p) := by omega
      have f2 : D * b + S * (d - b) = D * q + T * (s - q) := by omega
      refine ⟨D, D * a + S * (c - a), D * b + S * (d - b), h0, on_iff.2 ⟨bt a c S s0 s1, bt b d S s0 s1, by grind⟩, ?_⟩
      rw [f1, f2]
      exact on_iff.2 ⟨bt p r T t0 t1, bt q s T t0 t1, by grind⟩
    have i0 : dD a b c d p q r s * (p - a) = dS a b p q r s * (c - a) - dT a b c d p q * (r - p) := by unfold dD dS dT; grind
    have i1 : dD a b c d p q r s * (q - b) = dS a b p q r s * (d - b) - dT a b c d p q * (s - q) := by unfold dD dS dT; grind
    generalize dD a b c d p q r s = D at *
    generalize dS a b p q r s = S at *
    generalize dT a b c d p q = T at *
    unfold Inn at hS hT
    rcases Int.lt_or_gt_of_ne hD with g | g
    · exact main (-D) (-S) (-T) (by omega) (by omega) (by omega) (by rw [Int.neg_mul, Int.neg_mul, Int.neg_mul]; omega) (by rw [Int.neg_mul, Int.neg_mul, Int.neg_mul]; omega)
    · exact main D S T g (by omega) (by omega) i0 i1
theorem seg_none {a b c d p q r s : Int} (h : ∀ N X Y : Int, 0 < N → onB (N * a) (N * b) (N * c) (N * d) X Y = true → onB (N * p) (N * q) (N * r) (N * s) X Y = true → False) : segB a b c d p q r s = false := by
  cases g : segB a b c d p q r s with
  | false => rfl
  | true => obtain ⟨N, X, Y, h0, h1, h2⟩ := seg_pt g; exact (h N X Y h0 h1 h2).elim
/-- Both ends strictly on one side of the line of the other segment. -/
theorem seg_side {a b c d p q r s : Int} (h : (0 < det a b c d p q ∧ 0 < det a b c d r s) ∨ (det a b c d p q < 0 ∧ det a b c d r s < 0)) : segB a b c d p q r s = false := seg_none fun N X Y h0 h1 h2 => by
  have e := det_on h1
  rcases h with ⟨k1, k2⟩ | ⟨k1, k2⟩
  · have := on_det_pos h2 ((det_sc h0 a b c d p q).2.2 k1) ((det_sc h0 a b c d r s).2.2 k2)
    omega
  · have := on_det_neg h2 ((det_sc h0 a b c d p q).1.2 k1) ((det_sc h0 a b c d r s).1.2 k2)
    omega
/-- A segment between two points of a segment is a part of it. -/
theorem on_trans {a b c d x1 x2 y1 y2 p q : Int} (hx : onB a b c d x1 x2 = true) (hy : onB a b c d y1 y2 = true) (h : onB x1 x2 y1 y2 p q = true) : onB a b c d p q = true := by
  obtain ⟨a1, a2, a3⟩ := on_iff.1 hx
  obtain ⟨b1, b2, b3⟩ := on_iff.1 hy
  obtain ⟨c1, c2, c3⟩ := on_iff.1 h
  refine on_iff.2 ⟨by unfold Btw at *; omega, by unfold Btw at *; omega, ?_⟩
  by_cases e : y1 = x1
  · by_cases f : y2 = x2
    · have : p = x1 := by unfold Btw at c1; omega
      have : q = x2 := by unfold Btw at c2; omega
      subst p q
      exact a3
    · have k : (y2 - x2) * ((c - a) * (q - b) - (d - b) * (p - a)) = (y2 - q) * ((c - a) * (x2 - b) - (d - b) * (x1 - a)) + (q - x2) * ((c - a) * (y2 - b) - (d - b) * (y1 - a)) := by
        have : (d - b) * ((y2 - x2) * p) = (d - b) * ((y2 - x2) * x1 + (y1 - x1) * (q - x2)) := by
          rw [show (y2 - x2) * p = (y2 - x2) * x1 + (y1 - x1) * (q - x2) by have := c3; grind]
        grind
      rw [show (c - a) * (x2 - b) - (d - b) * (x1 - a) = 0 by omega, show (c - a) * (y2 - b) - (d - b) * (y1 - a) = 0 by omega, Int.mul_zero, Int.mul_zero] at k
      have := (Int.mul_eq_zero.1 (show (y2 - x2) * ((c - a) * (q - b) - (d - b) * (p - a)) = 0 by omega))
      omega
  · have k : (y1 - x1) * ((c - a) * (q - b) - (d - b) * (p - a)) = (y1 - p) * ((c - a) * (x2 - b) - (d - b) * (x1 - a)) + (p - x1) * ((c - a) * (y2 - b) - (d - b) * (y1 - a)) := by
      have : (c - a) * ((y1 - x1) * q) = (c - a) * ((y1 - x1) * x2 + (y2 - x2) * (p - x1)) := by
        rw [show (y1 - x1) * q = (y1 - x1) * x2 + (y2 - x2) * (p - x1) by have := c3; grind]
      grind
    rw [show (c - a) * (x2 - b) - (d - b) * (x1 - a) = 0 by omega, show (c - a) * (y2 - b) - (d - b) * (y1 - a) = 0 by omega, Int.mul_zero, Int.mul_zero] at k
    have := (Int.mul_eq_zero.1 (show (y1 - x1) * ((c - a) * (q - b) - (d - b) * (p - a)) = 0 by omega))
    omega
theorem seg_mono {a b c d p q r s x1 x2 y1 y2 : Int} (hx : onB p q r s x1 x2 = true) (hy : onB p q r s y1 y2 = true) (h : segB a b c d p q r s = false) : segB a b c d x1 x2 y1 y2 = false := seg_none fun N X Y h0 h1 h2 => by
  have k := on_trans (by rw [onB_sc h0]; exact hx) (by rw [onB_sc h0]; exact hy) h2
  have := seg_common h1 k
  rw [segB_sc h0] at this
  rw [this] at h
  cases h
/-- The angle at (b1, b2) is not nought. -/
def Gd (a1 a2 b1 b2 c1 c2 : Int) : Prop := det a1 a2 b1 b2 c1 c2 ≠ 0 ∨ (a1 - b1) * (c1 - b1) + (a2 - b2) * (c2 - b2) < 0
theorem Gd.sc {a1 a2 b1 b2 c1 c2 N : Int} (hN : 0 < N) (h : Gd a1 a2 b1 b2 c1 c2) : Gd (N * a1) (N * a2) (N * b1) (N * b2) (N * c1) (N * c2) := by
  rcases h with h | h
  · left
    have := det_sc hN a1 a2 b1 b2 c1 c2
    omega
  · right
    have e : (N * a1 - N * b1) * (N * c1 - N * b1) + (N * a2 - N * b2) * (N * c2 - N * b2) = N * (N * ((a1 - b1) * (c1 - b1) + (a2 - b2) * (c2 - b2))) := by grind
    rw [e]
    exact pn hN (pn hN h)
/-- Neighbouring edges have but one common point. -/
theorem adj_pt {a1 a2 b1 b2 c1 c2 X Y : Int} (hg : Gd a1 a2 b1 b2 c1 c2) (h1 : onB a1 a2 b1 b2 X Y = true) (h2 : onB b1 b2 c1 c2 X Y = true) : X = b1 ∧ Y = b2 := by
  obtain ⟨p1, p2, p3⟩ := on_iff.1 h1
  obtain ⟨q1, q2, q3⟩ := on_iff.1 h2
  have e1 : (a1 - b1) * (Y - b2) = (a2 - b2) * (X - b1) := by grind
  have e2 : (c1 - b1) * (Y - b2) = (c2 - b2) * (X - b1) := by grind
  have k1 : Btw 0 (a1 - b1) (X - b1) := by unfold Btw at *; omega
  have k2 : Btw 0 (a2 - b2) (Y - b2) := by unfold Btw at *; omega
  have k3 : Btw 0 (c1 - b1) (X - b1) := by unfold Btw at *; omega
  have k4 : Btw 0 (c2 - b2) (Y - b2) := by unfold Btw at *; omega
  have hd : det a1 a2 b1 b2 c1 c2 = -((a1 - b1) * (c2 - b2) - (a2 - b2) * (c1 - b1)) := by unfold det; grind
  unfold Gd at hg
  rw [hd] at hg
  have r : X - b1 = 0 ∧ Y - b2 = 0 := by
    generalize X - b1 = Z1 at *
    generalize Y - b2 = Z2 at *
    generalize a1 - b1 = A1 at *
    generalize a2 - b2 = A2 at *
    generalize c1 - b1 = C1 at *
    generalize c2 - b2 = C2 at *
    clear p1 p2 p3 q1 q2 q3 hd h1 h2
    unfold Btw at k1 k2 k3 k4
    false_or_by_contra
    rename_i hz
    have d0 : A1 * C2 - A2 * C1 = 0 := by
      by_cases z : Z1 = 0
      · have z2 : Z2 ≠ 0 := fun g => hz ⟨z, g⟩
        rw [z, Int.mul_zero] at e1 e2
        have := Int.mul_eq_zero.1 e1
        have := Int.mul_eq_zero.1 e2
        have a0 : A1 = 0 := by omega
        have c0 : C1 = 0 := by omega
        rw [a0, c0]; simp
      · have k : Z1 * (A1 * C2 - A2 * C1) = 0 := by
          have m1 : A1 * (C2 * Z1) = A1 * (C1 * Z2) := by rw [e2]
          have m2 : C1 * (A2 * Z1) = C1 * (A1 * Z2) := by rw [e1]
          grind
        have := Int.mul_eq_zero.1 k
        omega
    have s1 : 0 ≤ A1 * C1 := by
      rcases Int.lt_trichotomy Z1 0 with g | g | g
      · exact Int.mul_nonneg_of_nonpos_of_nonpos (by omega) (by omega)
      · have z2 : Z2 ≠ 0 := fun g' => hz ⟨g, g'⟩
        rw [g, Int.mul_zero] at e1
        have := Int.mul_eq_zero.1 e1
        have a0 : A1 = 0 := by omega
        rw [a0, Int.zero_mul]; omega
      · exact Int.mul_nonneg (by omega) (by omega)
    have s2 : 0 ≤ A2 * C2 := by
      rcases Int.lt_trichotomy Z2 0 with g | g | g
      · exact Int.mul_nonneg_of_nonpos_of_nonpos (by omega) (by omega)
      · have z1 : Z1 ≠ 0 := fun g' => hz ⟨g', g⟩
        rw [g, Int.mul_zero] at e1
        have := Int.mul_eq_zero.1 e1.symm
        have a0 : A2 = 0 := by omega
        rw [a0, Int.zero_mul]; omega
      · exact Int.mul_nonneg (by omega) (by omega)
    omega
  omega
/-- A part of an edge that does not reach the corner does not meet the edge behind the corner. -/
theorem seg_adj {a1 a2 b1 b2 c1 c2 x1 x2 y1 y2 : Int} (hg : Gd a1 a2 b1 b2 c1 c2) (hx : onB a1 a2 b1 b2 x1 x2 = true) (hy : onB a1 a2 b1 b2 y1 y2 = true) (nx' : ¬ (x1 = b1 ∧ x2 = b2)) (ny : ¬ (y1 = b1 ∧ y2 = b2)) : segB b1 b2 c1 c2 x1 x2 y1 y2 = false := seg_none fun N X Y h0 h1 h2 => by
  have k := on_trans (by rw [onB_sc h0]; exact hx) (by rw [onB_sc h0]; exact hy) h2
  obtain ⟨rfl, rfl⟩ := adj_pt (Gd.sc h0 hg) k h1
  rw [onB_sc h0] at h2
  obtain ⟨p1, p2, p3⟩ := on_iff.1 hx
  obtain ⟨q1, q2, q3⟩ := on_iff.1 hy
  obtain ⟨r1, r2, r3⟩ := on_iff.1 h2
  clear hx hy h1 h2 k
  by_cases e : b1 = a1
  · have ex : x1 = b1 := by unfold Btw at p1; omega
    have ey : y1 = b1 := by unfold Btw at q1; omega
    unfold Btw at *
    omega
  · have ex : x1 ≠ b1 := fun h => nx' ⟨h, by
      rw [h] at p3
      have : (b1 - a1) * (x2 - b2) = 0 := by grind
      have := Int.mul_eq_zero.1 this
      omega⟩
    have ey : y1 ≠ b1 := fun h => ny ⟨h, by
      rw [h] at q3
      have : (b1 - a1) * (y2 - b2) = 0 := by grind
      have := Int.mul_eq_zero.1 this
      omega⟩
    unfold Btw at *
    omega
theorem ex_bd2 (x y : Int) : ∃ m : Int, 0 < m ∧ (-m < x ∧ x < m) ∧ -m < y ∧ y < m := ⟨x.natAbs + y.natAbs + 1, by omega⟩
theorem sc_gap {N x y m : Int} (hxy : x < y) (hN : m ≤ N) (hm : 0 < m) : N * x + m ≤ N * y := by
  have : N * 1 ≤ N * (y - x) := Int.mul_le_mul_of_nonneg_left (by omega) (by omega)
  have e : N * (y - x) = N * y - N * x := by grind
  omega
/-- Near a point that is not on a segment, where all is scaled enough, nothing meets it. -/
theorem far_seg {a b c d p q : Int} (h : onB a b c d p q = false) (A1 A2 C1 C2 : Int) : ∃ N0 : Int, ∀ N : Int, N0 ≤ N → 0 < N → segB (N * a) (N * b) (N * c) (N * d) (N * p + A1) (N * q + A2) (N * p + C1) (N * q + C2) = false := by
  have dl : ∀ N A1 A2 : Int, det (N * a) (N * b) (N * c) (N * d) (N * p + A1) (N * q + A2) = N * (N * det a b c d p q + ((c - a) * A2 - (d - b) * A1)) := fun N A1 A2 => by unfold det; grind
  obtain ⟨m, m0, m1, m2⟩ := ex_bd2 ((c - a) * A2 - (d - b) * A1) ((c - a) * C2 - (d - b) * C1)
  rcases Int.lt_trichotomy (det a b c d p q) 0 with g | g | g
  · refine ⟨m, fun N hN h0 => seg_side (.inr ⟨?_, ?_⟩)⟩
    · rw [dl]
      have := sc_gap g hN m0
      exact pn h0 (by omega)
    · rw [dl]
      have := sc_gap g hN m0
      exact pn h0 (by omega)
  · have out : (p < a ∧ p < c) ∨ (a < p ∧ c < p) ∨ (q < b ∧ q < d) ∨ (b < q ∧ d < q) := by
      false_or_by_contra
      rename_i k
      rw [on_of g (by omega) (by omega)] at h
      cases h
    obtain ⟨u, u0, ⟨u1, u2⟩, u3, u4⟩ := ex_bd2 A1 C1
    obtain ⟨v, v0, ⟨v1, v2⟩, v3, v4⟩ := ex_bd2 A2 C2
    clear dl m1 m2 h g
    refine ⟨u + v, fun N hN h0 => ?_⟩
    have hu : u ≤ N := by omega
    have hv : v ≤ N := by omega
    cases k : segB (N * a) (N * b) (N * c) (N * d) (N * p + A1) (N * q + A2) (N * p + C1) (N * q + C2) with
    | false => rfl
    | true =>
      obtain ⟨⟨b1, b2⟩, b3, b4⟩ := seg_boxes k
      clear k
      rcases out with ⟨o1, o2⟩ | ⟨o1, o2⟩ | ⟨o1, o2⟩ | ⟨o1, o2⟩
      · have r1 := sc_gap o1 hu u0
        have r2 := sc_gap o2 hu u0
        exact absurd ⟨by omega, by omega, by omega, by omega⟩ b2
      · have r1 := sc_gap o1 hu u0
        have r2 := sc_gap o2 hu u0
        exact absurd ⟨by omega, by omega, by omega, by omega⟩ b1
      · have r1 := sc_gap o1 hv v0
        have r2 := sc_gap o2 hv v0
        exact absurd ⟨by omega, by omega, by omega, by omega⟩ b4
      · have r1 := sc_gap o1 hv v0
        have r2 := sc_gap o2 hv v0
        exact absurd ⟨by omega, by omega, by omega, by omega⟩ b3
  · refine ⟨m, fun N hN h0 => seg_side (.inl ⟨?_, ?_⟩)⟩
    · rw [dl]
      have := sc_gap g hN m0
      exact pp h0 (by omega)
    · rw [dl]
      have := sc_gap g hN m0
      exact pp h0 (by omega)
end Go.Proofs.YthmcejeeohlafaaDoor
