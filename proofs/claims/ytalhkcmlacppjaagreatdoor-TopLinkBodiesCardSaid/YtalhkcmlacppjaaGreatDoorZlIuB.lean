/- Helpers: what the law reaches. -/
import Derived.Test.YtalhkcmlacppjaaGreatDoorZlHuD
namespace Go.Proofs.YtalhkcmlacppjaaGreatDoor
open Go.ChangeShapes Go.WideShapes Go.ChangeAt Go.RowKit
set_option linter.unusedVariables false
set_option linter.unusedSimpArgs false

theorem b_no {b : Bool} (h : ¬ b = true) : b = false := by cases b <;> simp_all
theorem dt_sum (u v w x : Int × Int) : dt v w x + dt w u x + dt u v x = dt u v w := by unfold dt det; grind
/-- What all corners of a triangle have at least, all its points have at least. -/
theorem tri_least {u v w q a b : Int × Int} {c : Int} (hD : 0 < dt u v w) (k1 : 0 ≤ dt u v q) (k2 : 0 ≤ dt v w q) (k3 : 0 ≤ dt w u q) (hu : c ≤ dt a b u) (hv : c ≤ dt a b v) (hw : c ≤ dt a b w) : c ≤ dt a b q := by
  have e' : dt u v w * (dt a b q - c) = dt v w q * (dt a b u - c) + dt w u q * (dt a b v - c) + dt u v q * (dt a b w - c) := by
    have e1 := dt_lin a b u v w q
    have e2 := dt_sum u v w q
    generalize dt u v w = D at *
    generalize dt a b q = Q at *
    generalize dt v w q = x at *
    generalize dt w u q = y at *
    generalize dt u v q = z at *
    generalize dt a b u = U at *
    generalize dt a b v = V at *
    generalize dt a b w = W at *
    subst e2
    grind
  have := nng_of_mul (a := dt u v w) (b := dt a b q - c) (by rw [e']; exact Int.add_nonneg (Int.add_nonneg (Int.mul_nonneg k2 (by omega)) (Int.mul_nonneg k3 (by omega))) (Int.mul_nonneg k1 (by omega))) hD
  omega
/-- What all corners have at least, all points of the polygon have at least. -/
theorem good_left {ps : List (Int × Int)} (hG : Good ps) {q a b : Int × Int} {c : Int} (hq : 0 ≤ locE ps q.1 q.2) (hl : ∀ y, y ∈ ps → c ≤ dt a b y) : c ≤ dt a b q := by
  obtain ⟨parts, hp⟩ := clips_ex ps.length ps rfl hG
  obtain ⟨t, ht, h0⟩ := (hp.loc hG q.1 q.2).1 hq
  obtain ⟨h3, hD, hm⟩ := hp.part hG ht
  match t, h3 with
  | [u, v, w], _ =>
    have hD' : 0 < det u.1 u.2 v.1 v.2 w.1 w.2 := hD
    obtain ⟨k1, k2, k3⟩ := (tri_closed hD' (p := q.1) (q := q.2)).1 ((loc_ge _ _ _).1 h0)
    exact tri_least hD' k1 k2 k3 (hl u (hm u (by simp))) (hl v (hm v (by simp))) (hl w (hm w (by simp)))

theorem gp_sc (N : Int) (ps : List (Int × Int)) (i : Nat) : gp (scL N ps) i = (N * (gp ps i).1, N * (gp ps i).2) := Prod.ext (scL_at N ps i).1 (scL_at N ps i).2
theorem nng_det {N : Int} (hN : 0 < N) (a b c d p q : Int) : 0 ≤ det (N * a) (N * b) (N * c) (N * d) (N * p) (N * q) ↔ 0 ≤ det a b c d p q := by
  have := (det_sc hN a b c d p q).1
  omega
theorem Near3.sc {N : Int} (hN : 0 < N) {ps : List (Int × Int)} {e : Nat} {p q : Int} : Near3 (scL N ps) e (N * p) (N * q) ↔ Near3 ps e p q := by
  unfold Near3
  rw [scL_len, (scL_at N ps e).1, (scL_at N ps e).2, (scL_at N ps (nx ps.length e)).1, (scL_at N ps (nx ps.length e)).2, (scL_at N ps (nx ps.length (nx ps.length e))).1, (scL_at N ps (nx ps.length (nx ps.length e))).2, nng_det hN, nng_det hN, nng_det hN]
theorem Ear.sc {N : Int} (hN : 0 < N) {ps : List (Int × Int)} {e : Nat} (h : Ear ps e) : Ear (scL N ps) e := by
  obtain ⟨h1, h2⟩ := h
  refine ⟨?_, fun x hx n1 n2 n3 hn => ?_⟩
  · rw [scL_len, (scL_at N ps e).1, (scL_at N ps e).2, (scL_at N ps (nx ps.length e)).1, (scL_at N ps (nx ps.length e)).2, (scL_at N ps (nx ps.length (nx ps.length e))).1, (scL_at N ps (nx ps.length (nx ps.length e))).2]
    exact (det_sc hN _ _ _ _ _ _).2.2 h1
  · rw [scL_len] at hx n2 n3
    rw [(scL_at N ps x).1, (scL_at N ps x).2, Near3.sc hN] at hn
    exact h2 x hx n1 n2 n3 hn
theorem triE_sc (N : Int) (ps : List (Int × Int)) (e : Nat) : triE (scL N ps) e = scL N (triE ps e) := by
  unfold triE
  rw [scL_len, (scL_at N ps e).1, (scL_at N ps e).2, (scL_at N ps (nx ps.length e)).1, (scL_at N ps (nx ps.length e)).2, (scL_at N ps (nx ps.length (nx ps.length e))).1, (scL_at N ps (nx ps.length (nx ps.length e))).2]
  rfl
theorem map_erase0 {α β : Type} (f : α → β) : ∀ (l : List α) (e : Nat), (l.map f).eraseIdx e = (l.eraseIdx e).map f
  | [], e => by simp
  | a :: l, 0 => by simp
  | a :: l, e + 1 => by simp [map_erase0 f l e]
theorem Clips.sc {N : Int} (hN : 0 < N) {ps : List (Int × Int)} {parts : List (List (Int × Int))} (h : Clips ps parts) : Clips (scL N ps) (parts.map (scL N)) := by
  induction h with
  | done h => exact .done (by rw [scL_len]; exact h)
  | step h4 he hE _ ih =>
    rw [List.map_cons, ← triE_sc]
    refine .step (by rw [scL_len]; exact h4) (by rw [scL_len]; exact he) (hE.sc hN) ?_
    rw [scL_len]
    show Clips ((List.map _ _).eraseIdx _) _
    rw [map_erase0]
    exact ih
theorem Clips.locN {ps : List (Int × Int)} {parts : List (List (Int × Int))} (h : Clips ps parts) (hG : Good ps) {N : Int} (hN : 0 < N) (p q : Int) : 0 ≤ locE (scL N ps) p q ↔ ∃ t, t ∈ parts ∧ 0 ≤ locE (scL N t) p q := by
  rw [(h.sc hN).loc (hG.sc hN)]
  constructor
  · rintro ⟨t, ht, k⟩
    obtain ⟨s, hs, rfl⟩ := List.mem_map.1 ht
    exact ⟨s, hs, k⟩
  · rintro ⟨t, ht, k⟩
    exact ⟨_, List.mem_map.2 ⟨t, ht, rfl⟩, k⟩

def eeB (a b : List (Int × Int)) (i j : Nat) : Bool := segB (cx a i) (cy a i) (cx a (nx a.length i)) (cy a (nx a.length i)) (cx b j) (cy b j) (cx b (nx b.length j)) (cy b (nx b.length j))
def inC (a b : List (Int × Int)) (i : Nat) : Bool := decide (0 ≤ locE b (cx a i) (cy a i))
def anyE (a b : List (Int × Int)) : Bool := (List.range a.length).any fun i => (List.range b.length).any (eeB a b i)
def anyC (a b : List (Int × Int)) : Bool := (List.range a.length).any (inC a b)
def touchB (a b : List (Int × Int)) : Bool := anyE a b || (anyC a b || anyC b a)
theorem anyE_iff (a b : List (Int × Int)) : anyE a b = true ↔ ∃ i j, i < a.length ∧ j < b.length ∧ eeB a b i j = true := by
  unfold anyE
  simp only [List.any_eq_true, List.mem_range]
  exact ⟨fun ⟨i, hi, j, hj, h⟩ => ⟨i, j, hi, hj, h⟩, fun ⟨i, j, hi, hj, h⟩ => ⟨i, hi, j, hj, h⟩⟩
theorem anyC_iff (a b : List (Int × Int)) : anyC a b = true ↔ ∃ i, i < a.length ∧ inC a b i = true := by
  unfold anyC
  simp only [List.any_eq_true, List.mem_range]
theorem touch_iff (a b : List (Int × Int)) : touchB a b = true ↔ (∃ i j, i < a.length ∧ j < b.length ∧ eeB a b i j = true) ∨ (∃ i, i < a.length ∧ inC a b i = true) ∨ ∃ j, j < b.length ∧ inC b a j = true := by
  unfold touchB
  rw [Bool.or_eq_true, Bool.or_eq_true, anyE_iff, anyC_iff, anyC_iff]
theorem loc_lt {ps : List (Int × Int)} {p q : Int} : ¬ 0 ≤ locE ps p q ↔ locE ps p q = -1 := by
  have := loc_three ps p q
  omega
theorem inC_no {a b : List (Int × Int)} {i : Nat} : inC a b i = false ↔ locE b (cx a i) (cy a i) = -1 := by
  unfold inC
  rw [decide_eq_false_iff_not, loc_lt]
theorem touch_no {a b : List (Int × Int)} (h : touchB a b = false) : (∀ i j, i < a.length → j < b.length → eeB a b i j = false) ∧ (∀ i, i < a.length → locE b (cx a i) (cy a i) = -1) ∧ ∀ j, j < b.length → locE a (cx b j) (cy b j) = -1 := by
  have hn : ¬ touchB a b = true := by rw [h]; simp
  rw [touch_iff] at hn
  refine ⟨fun i j hi hj => ?_, fun i hi => ?_, fun j hj => ?_⟩
  · exact b_no fun k => hn (.inl ⟨i, j, hi, hj, k⟩)
  · exact inC_no.1 (b_no fun k => hn (.inr (.inl ⟨i, hi, k⟩)))
  · exact inC_no.1 (b_no fun k => hn (.inr (.inr ⟨j, hj, k⟩)))
theorem loc_on {ps : List (Int × Int)} {p q : Int} {i : Nat} (hi : i < ps.length) (h : onE ps p q i = true) : locE ps p q = 0 := loc_zero.2 ⟨i, hi, h⟩
theorem goes_out {ps : List (Int × Int)} (h0 : 0 < ps.length) {x1 x2 y1 y2 : Int} (hx : 0 ≤ locE ps x1 x2) (hy : locE ps y1 y2 = -1) : ∃ i, i < ps.length ∧ segB (cx ps i) (cy ps i) (cx ps (nx ps.length i)) (cy ps (nx ps.length i)) x1 x2 y1 y2 = true := by
  refine Classical.byContradiction fun hn => ?_
  have hF : Free2 ps x1 x2 y1 y2 := fun i hi => b_no fun k => hn ⟨i, hi, k⟩
  rcases loc_three ps x1 x2 with k | k | k
  · obtain ⟨i, hi, o⟩ := loc_zero.1 k
    exact hn ⟨i, hi, seg_common o on_first⟩
  · have := loc_stays ps h0 hF k
    omega
  · omega
theorem on_det_nng {a b c d x1 x2 y1 y2 p q : Int} (h : onB x1 x2 y1 y2 p q = true) (hx : 0 ≤ det a b c d x1 x2) (hy : 0 ≤ det a b c d y1 y2) : 0 ≤ det a b c d p q := by
  rw [det_lin] at hx hy ⊢
  have := on_pos (-(d - b)) (c - a) ((d - b) * a - (c - a) * b + 1) h (by omega) (by omega)
  omega
/-- A segment between two points of a triangle. -/
theorem tri_seg {u1 u2 v1 v2 w1 w2 x1 x2 y1 y2 p q : Int} (hD : 0 < det u1 u2 v1 v2 w1 w2) (hx : 0 ≤ locE (triL u1 u2 v1 v2 w1 w2) x1 x2) (hy : 0 ≤ locE (triL u1 u2 v1 v2 w1 w2) y1 y2) (h : onB x1 x2 y1 y2 p q = true) : 0 ≤ locE (triL u1 u2 v1 v2 w1 w2) p q := by
  rw [loc_ge, tri_closed hD] at hx hy ⊢
  exact ⟨on_det_nng h hx.1 hy.1, on_det_nng h hx.2.1 hy.2.1, on_det_nng h hx.2.2 hy.2.2⟩

def Both (a b : List (Int × Int)) : Prop := ∃ N X Y : Int, 0 < N ∧ 0 ≤ locE (scL N a) X Y ∧ 0 ≤ locE (scL N b) X Y
theorem Both.symm {a b : List (Int × Int)} (h : Both a b) : Both b a := by obtain ⟨N, X, Y, h0, h1, h2⟩ := h; exact ⟨N, X, Y, h0, h2, h1⟩
theorem onE_scl {N : Int} {ps : List (Int × Int)} {e : Nat} {p q : Int} : onE (scL N ps) p q e = onB (N * cx ps e) (N * cy ps e) (N * cx ps (nx ps.length e)) (N * cy ps (nx ps.length e)) p q := by
  unfold onE
  rw [scL_len, (scL_at N ps e).1, (scL_at N ps e).2, (scL_at N ps (nx ps.length e)).1, (scL_at N ps (nx ps.length e)).2]
theorem both_of {a b : List (Int × Int)} (h : touchB a b = true) : Both a b := by
  have one : ∀ a b : List (Int × Int), (∃ i, i < a.length ∧ inC a b i = true) → Both a b := fun a b ⟨i, hi, k⟩ => by
    refine ⟨1, cx a i, cy a i, by omega, ?_, ?_⟩
    · rw [scL_one, loc_corner a hi]; omega
    · rw [scL_one]; exact of_decide_eq_true k
  rcases (touch_iff a b).1 h with ⟨i, j, hi, hj, e⟩ | k | k
  · obtain ⟨N, X, Y, hN, o1, o2⟩ := seg_pt e
    refine ⟨N, X, Y, hN, ?_, ?_⟩
    · rw [loc_on (i := i) (by rw [scL_len]; exact hi) (by rw [onE_scl]; exact o1)]; omega
    · rw [loc_on (i := j) (by rw [scL_len]; exact hj) (by rw [onE_scl]; exact o2)]; omega
  · exact one a b k
  · exact (one b a k).symm
theorem touch_of {a b : List (Int × Int)} (hA : Good a) (hB : Good b) (h : Both a b) : touchB a b = true := by
  obtain ⟨N, X, Y, hN, h1, h2⟩ := h
  refine Classical.byContradiction fun hn => ?_
  obtain ⟨e0, c1, c2⟩ := touch_no (b_no hn)
  obtain ⟨parts, hp⟩ := clips_ex a.length a rfl hA
  obtain ⟨t, ht, k0⟩ := (hp.locN hA hN X Y).1 h1
  obtain ⟨t3, tD, tm⟩ := hp.part hA ht
  have a0 : 0 < a.length := by have := hA.1.1; omega
  have b0 : 0 < b.length := by have := hB.1.1; omega
  match t, t3 with
  | [u, v, w], _ =>
    have hD : 0 < det u.1 u.2 v.1 v.2 w.1 w.2 := tD
    obtain ⟨iu, hiu, eu⟩ := mem_gp (tm u (by simp))
    have lu : locE (scL N b) (N * u.1) (N * u.2) = -1 := by
      rw [loc_sc hN, ← eu]
      exact c1 iu hiu
    obtain ⟨j, hj, s⟩ := goes_out (by rw [scL_len]; exact b0) h2 lu
    rw [scL_len] at hj
    obtain ⟨M, P, Q, hM, o1, o2⟩ := seg_pt s
    have hMN : 0 < M * N := Int.mul_pos hM hN
    rw [scL_len, (scL_at N b j).1, (scL_at N b j).2, (scL_at N b (nx b.length j)).1, (scL_at N b (nx b.length j)).2, ← Int.mul_assoc, ← Int.mul_assoc, ← Int.mul_assoc, ← Int.mul_assoc] at o1
    have inT : 0 ≤ locE (scL (M * N) [u, v, w]) P Q := by
      have z1 : 0 ≤ locE (scL (M * N) [u, v, w]) (M * X) (M * Y) := by rw [← scL_scL, loc_sc hM]; exact k0
      have z2 : 0 ≤ locE (scL (M * N) [u, v, w]) (M * (N * u.1)) (M * (N * u.2)) := by
        have := loc_corner (scL (M * N) [u, v, w]) (i := 0) (by rw [scL_len]; simp)
        rw [(scL_at (M * N) [u, v, w] 0).1, (scL_at (M * N) [u, v, w] 0).2, Int.mul_assoc, Int.mul_assoc] at this
        have this : locE (scL (M * N) [u, v, w]) (M * (N * u.1)) (M * (N * u.2)) = 0 := this
        omega
      exact tri_seg ((det_sc hMN _ _ _ _ _ _).2.2 hD) z1 z2 o2
    have inA : 0 ≤ locE (scL (M * N) a) P Q := (hp.locN hA hMN P Q).2 ⟨_, ht, inT⟩
    have lb : locE (scL (M * N) a) (M * N * cx b j) (M * N * cy b j) = -1 := by rw [loc_sc hMN]; exact c2 j hj
    obtain ⟨i, hi, s2⟩ := goes_out (by rw [scL_len]; exact a0) inA lb
    rw [scL_len] at hi
    rw [scL_len, (scL_at (M * N) a i).1, (scL_at (M * N) a i).2, (scL_at (M * N) a (nx a.length i)).1, (scL_at (M * N) a (nx a.length i)).2] at s2
    have s3 := e0 i j hi hj
    unfold eeB at s3
    rw [← segB_sc hMN] at s3
    have := seg_mono o1 on_first s3
    rw [this] at s2
    cases s2
end Go.Proofs.YtalhkcmlacppjaaGreatDoor

namespace Go.Proofs.YtalhkcmlacppjaaGreatDoor
open Go.ChangeShapes Go.WideShapes Go.ChangeAt Go.RowKit
set_option linter.unusedVariables false
set_option linter.unusedSimpArgs false

theorem mem_sc {N : Int} {a : List (Int × Int)} {y : Int × Int} : y ∈ scL N a ↔ ∃ p, p ∈ a ∧ (N * p.1, N * p.2) = y := List.mem_map
theorem Conv.sc {N : Int} (hN : 0 < N) {a : List (Int × Int)} (h : Conv a) : Conv (scL N a) := by
  refine ⟨by rw [scL_len]; exact h.1, fun i j hi hj n1 n2 => ?_⟩
  rw [scL_len] at hi hj n2 ⊢
  rw [gp_sc, gp_sc, gp_sc]
  exact (det_sc hN _ _ _ _ _ _).2.2 (h.2 i j hi hj n1 n2)
end Go.Proofs.YtalhkcmlacppjaaGreatDoor

