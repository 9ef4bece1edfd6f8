/- Helpers: what the law reaches. -/
import Derived.Test.YtalhkcmlacppjaaGreatDoorZlHuD
namespace Go.Proofs.YtalhkcmlacppjaaGreatDoor
open Go.ChangeShapes Go.WideShapes Go.ChangeAt Go.RowKit
set_option linter.unusedVariables false
set_option linter.unusedSimpArgs false

/-- A convex list of few corners in range with an area is a valid polygon. -/
theorem conv_valid {h : List (Int × Int)} (hC : Conv h) (h12 : h.length ≤ 12) (hV : AllV h) (ha : 0 < area2 h) : validP h = true := by
  have hS := conv_simp hC
  unfold validP
  rw [Bool.and_eq_true, Bool.and_eq_true, Bool.and_eq_true]
  refine ⟨(validC_iff h).2 ⟨hC.1, h12, hV⟩, List.all_eq_true.2 fun i hi => ?_, (simple_iff h).2 hS.2.2, decide_eq_true ha⟩
  have g := conv_gd hC (List.mem_range.1 hi)
  have : (oriE h i == 0) = false := by
    unfold oriE
    rw [ori_zero]
    simp
    omega
  simpa using this
/-- The body of a link: from A along n E, half as wide as w E. -/
def rectL (A E : Int × Int) (n w : Int) : List (Int × Int) :=
  [(A.1 + w * E.2, A.2 - w * E.1), (A.1 + n * E.1 + w * E.2, A.2 + n * E.2 - w * E.1), (A.1 + n * E.1 - w * E.2, A.2 + n * E.2 + w * E.1), (A.1 - w * E.2, A.2 + w * E.1)]
theorem rect_pos {E : Int × Int} {n w : Int} (hn : 0 < n) (hw : 0 < w) (hE : 0 < E.1 * E.1 + E.2 * E.2) : 0 < n * w * (E.1 * E.1 + E.2 * E.2) := Int.mul_pos (Int.mul_pos hn hw) hE
theorem rect_conv (A E : Int × Int) {n w : Int} (hn : 0 < n) (hw : 0 < w) (hE : 0 < E.1 * E.1 + E.2 * E.2) : Conv (rectL A E n w) := by
  have k := rect_pos hn hw hE
  refine ⟨by show 3 ≤ 4; omega, fun i j hi hj h1 h2 => ?_⟩
  change i < 4 at hi
  change j < 4 at hj
  have hl : (rectL A E n w).length = 4 := rfl
  rw [hl] at h2 ⊢
  have hi' : i = 0 ∨ i = 1 ∨ i = 2 ∨ i = 3 := by omega
  have hj' : j = 0 ∨ j = 1 ∨ j = 2 ∨ j = 3 := by omega
  obtain ⟨a, b⟩ := A
  obtain ⟨e, f⟩ := E
  have key : ∀ x : Int, x = 2 * (n * w * (e * e + f * f)) → 0 < x := fun x hx => by rw [hx]; simp only at k; omega
  rcases hi' with rfl | rfl | rfl | rfl <;> rcases hj' with rfl | rfl | rfl | rfl <;> first
    | exact absurd rfl h1
    | exact absurd rfl h2
    | (refine key _ ?_; show det _ _ _ _ _ _ = _; simp only [rectL, nx, gp, List.getD_cons_zero, List.getD_cons_succ, Nat.reduceAdd, Nat.reduceMod]; unfold det; grind)
theorem rect_area (A E : Int × Int) (n w : Int) : area2 (rectL A E n w) = 4 * (n * w * (E.1 * E.1 + E.2 * E.2)) := by
  obtain ⟨a, b⟩ := A
  obtain ⟨e, f⟩ := E
  have hl : (rectL (a, b) (e, f) n w).length = 4 := rfl
  unfold area2
  rw [hl]
  simp only [List.range, List.range.loop, sumE, crossE, hl, rectL, nx, cx, cy, List.getD_cons_zero, List.getD_cons_succ, Nat.reduceAdd, Nat.reduceMod, List.map, List.sum_cons, List.sum_nil, List.foldl]
  grind
theorem mn_mid (a d : Int) : mnI (a - d) (a + d) ≤ a ∧ a ≤ mxI (a - d) (a + d) ∧ mnI (a + d) (a - d) ≤ a ∧ a ≤ mxI (a + d) (a - d) := by
  unfold mnI mxI
  split <;> split <;> omega
/-- The middle of a segment lies on it. -/
theorem mid_on (a b x y : Int) : onB (a - x) (b - y) (a + x) (b + y) a b = true := by
  obtain ⟨h1, h2, _, _⟩ := mn_mid a x
  obtain ⟨h3, h4, _, _⟩ := mn_mid b y
  unfold onB
  rw [ori_zero]
  have e : det (a - x) (b - y) (a + x) (b + y) a b = 0 := by unfold det; grind
  rw [e, decide_eq_true h1, decide_eq_true h2, decide_eq_true h3, decide_eq_true h4]
  rfl
theorem rect_on (A E : Int × Int) (n w : Int) : locE (rectL A E n w) A.1 A.2 = 0 ∧ locE (rectL A E n w) (A.1 + n * E.1) (A.2 + n * E.2) = 0 := by
  have hl : (rectL A E n w).length = 4 := rfl
  refine ⟨loc_zero.2 ⟨3, by rw [hl]; omega, ?_⟩, loc_zero.2 ⟨1, by rw [hl]; omega, ?_⟩⟩
  · have := mid_on A.1 A.2 (w * E.2) (-(w * E.1))
    unfold onE
    rw [hl, show nx 4 3 = 0 from rfl]
    show onB (A.1 - w * E.2) (A.2 + w * E.1) (A.1 + w * E.2) (A.2 - w * E.1) A.1 A.2 = true
    rwa [Int.sub_neg, ← Int.sub_eq_add_neg] at this
  · have := mid_on (A.1 + n * E.1) (A.2 + n * E.2) (-(w * E.2)) (w * E.1)
    unfold onE
    rw [hl, show nx 4 1 = 2 from rfl]
    show onB (A.1 + n * E.1 + w * E.2) (A.2 + n * E.2 - w * E.1) (A.1 + n * E.1 - w * E.2) (A.2 + n * E.2 + w * E.1) _ _ = true
    rwa [Int.sub_neg, ← Int.sub_eq_add_neg] at this
/-- A product of lengths bounds the product of vectors. -/
theorem dot_le {u1 u2 v1 v2 a b : Int} (ha : 0 ≤ a) (hb : 0 ≤ b) (hu : u1 * u1 + u2 * u2 = a * a) (hv : v1 * v1 + v2 * v2 = b * b) : -(a * b) ≤ u1 * v1 + u2 * v2 ∧ u1 * v1 + u2 * v2 ≤ a * b := by
  have hab := Int.mul_nonneg ha hb
  have e : (u1 * v1 + u2 * v2) * (u1 * v1 + u2 * v2) + (u1 * v2 - u2 * v1) * (u1 * v2 - u2 * v1) = (a * b) * (a * b) := by
    have : (a * b) * (a * b) = (a * a) * (b * b) := by grind
    rw [this, ← hu, ← hv]; grind
  have h0 := sq_nn (u1 * v2 - u2 * v1)
  obtain ⟨x, hx⟩ : ∃ x, u1 * v1 + u2 * v2 = x := ⟨_, rfl⟩
  obtain ⟨c, hc⟩ : ∃ c, a * b = c := ⟨_, rfl⟩
  rw [hx, hc] at e
  rw [hc] at hab
  rw [hx, hc]
  have key : ∀ x : Int, x * x ≤ c * c → x ≤ c := fun x h => by
    rcases Int.lt_or_le c x with g | g
    · have := Int.mul_lt_mul' (Int.le_of_lt g) g hab (show 0 < x by omega)
      omega
    · exact g
  refine ⟨?_, key x (by omega)⟩
  have := key (-x) (by rw [Int.neg_mul_neg]; omega)
  omega
/-- The tip of a chain of three links: no farther than they are long, no nearer than one exceeds the others. -/
theorem reach {u1 u2 v1 v2 w1 w2 a b c : Int} (ha : 0 ≤ a) (hb : 0 ≤ b) (hc : 0 ≤ c) (hu : u1 * u1 + u2 * u2 = a * a) (hv : v1 * v1 + v2 * v2 = b * b) (hw : w1 * w1 + w2 * w2 = c * c) :
    (u1 + v1 + w1) * (u1 + v1 + w1) + (u2 + v2 + w2) * (u2 + v2 + w2) ≤ (a + b + c) * (a + b + c) ∧
    (b + c ≤ a → (a - b - c) * (a - b - c) ≤ (u1 + v1 + w1) * (u1 + v1 + w1) + (u2 + v2 + w2) * (u2 + v2 + w2)) := by
  obtain ⟨p1, p2⟩ := dot_le ha hb hu hv
  obtain ⟨q1, q2⟩ := dot_le ha hc hu hw
  obtain ⟨r1, r2⟩ := dot_le hb hc hv hw
  have e : (u1 + v1 + w1) * (u1 + v1 + w1) + (u2 + v2 + w2) * (u2 + v2 + w2) = a * a + b * b + c * c + 2 * (u1 * v1 + u2 * v2) + 2 * (u1 * w1 + u2 * w2) + 2 * (v1 * w1 + v2 * w2) := by
    rw [← hu, ← hv, ← hw]; grind
  have e1 : (a + b + c) * (a + b + c) = a * a + b * b + c * c + 2 * (a * b) + 2 * (a * c) + 2 * (b * c) := by grind
  rw [e]
  refine ⟨by omega, fun h => ?_⟩
  -- the tip is u - (-(v + w)), and v + w is no longer than b + c
  have hs : (v1 + w1) * (v1 + w1) + (v2 + w2) * (v2 + w2) ≤ (b + c) * (b + c) := by
    have e2 : (v1 + w1) * (v1 + w1) + (v2 + w2) * (v2 + w2) = b * b + c * c + 2 * (v1 * w1 + v2 * w2) := by rw [← hv, ← hw]; grind
    have e3 : (b + c) * (b + c) = b * b + c * c + 2 * (b * c) := by grind
    omega
  obtain ⟨s1, hs1⟩ : ∃ z, v1 + w1 = z := ⟨_, rfl⟩
  obtain ⟨s2, hs2⟩ : ∃ z, v2 + w2 = z := ⟨_, rfl⟩
  obtain ⟨d, hd⟩ : ∃ z, b + c = z := ⟨_, rfl⟩
  rw [hs1, hs2, hd] at hs
  have hd0 : 0 ≤ d := by omega
  have e4 : a * a + b * b + c * c + 2 * (u1 * v1 + u2 * v2) + 2 * (u1 * w1 + u2 * w2) + 2 * (v1 * w1 + v2 * w2) = (u1 + s1) * (u1 + s1) + (u2 + s2) * (u2 + s2) := by
    rw [← hs1, ← hs2, ← hu, ← hv, ← hw]; grind
  rw [e4, show a - b - c = a - d by omega]
  -- a |s| bounds u·s from below: (u·s)² ≤ a² |s|² ≤ a² d²
  have cs : (u1 * s1 + u2 * s2) * (u1 * s1 + u2 * s2) ≤ (a * a) * (s1 * s1 + s2 * s2) := by
    have h0 := sq_nn (u1 * s2 - u2 * s1)
    have e5 : (a * a) * (s1 * s1 + s2 * s2) = (u1 * s1 + u2 * s2) * (u1 * s1 + u2 * s2) + (u1 * s2 - u2 * s1) * (u1 * s2 - u2 * s1) := by rw [← hu]; grind
    omega
  obtain ⟨S, hS⟩ : ∃ z, s1 * s1 + s2 * s2 = z := ⟨_, rfl⟩
  obtain ⟨x, hx⟩ : ∃ z, u1 * s1 + u2 * s2 = z := ⟨_, rfl⟩
  rw [hS] at hs cs
  rw [hx] at cs
  have e6 : (u1 + s1) * (u1 + s1) + (u2 + s2) * (u2 + s2) = a * a + 2 * x + S := by rw [← hu, ← hS, ← hx]; grind
  rw [e6]
  have hS0 : 0 ≤ S := by have := sq_nn s1; have := sq_nn s2; omega
  -- (a - d)² ≤ a² + 2x + S: where x < 0, by x² ≤ a² S, S ≤ d² and d ≤ a
  rcases Int.le_total 0 x with g | g
  · have e7 : (a - d) * (a - d) = a * a - d * (2 * a - d) := by grind
    have := Int.mul_nonneg hd0 (show 0 ≤ 2 * a - d by omega)
    omega
  · obtain ⟨y, rfl⟩ : ∃ y, x = -y := ⟨-x, by omega⟩
    have hy : 0 ≤ y := by omega
    rw [Int.neg_mul_neg] at cs
    -- 4 a² y² ≤ 4 a⁴ S ≤ (a² (…)): from (2 a y)² ≤ 4 a² · a² S and the arithmetic of squares
    have f1 : 2 * y ≤ 2 * a * d - d * d + S := by
      rcases Int.lt_or_le (2 * a * d - d * d + S) (2 * y) with g2 | g2
      · exfalso
        obtain ⟨m, hm⟩ : ∃ m, 2 * a * d - d * d + S = m := ⟨_, rfl⟩
        rw [hm] at g2
        have hm0 : 0 ≤ m := by
          have := Int.mul_nonneg hd0 (show 0 ≤ 2 * a - d by omega)
          have e8 : d * (2 * a - d) = 2 * a * d - d * d := by grind
          omega
        have l1 : m * m < (2 * y) * (2 * y) := Int.mul_lt_mul' (Int.le_of_lt g2) g2 hm0 (by omega)
        have e9 : m * m = 4 * (a * a * S) + (d * d - S) * (4 * (a * a) - 4 * (a * d) + (d * d - S)) := by rw [← hm]; grind
        have e10 : (2 * y) * (2 * y) = 4 * (y * y) := by grind
        have l2 : 0 ≤ (d * d - S) * (4 * (a * a) - 4 * (a * d) + (d * d - S)) := by
          refine Int.mul_nonneg (by omega) ?_
          have := Int.mul_nonneg ha (show 0 ≤ a - d by omega)
          have e11 : a * (a - d) = a * a - a * d := by grind
          omega
        omega
      · exact g2
    have e7 : (a - d) * (a - d) = a * a - (2 * a * d - d * d) := by grind
    omega
end Go.Proofs.YtalhkcmlacppjaaGreatDoor

