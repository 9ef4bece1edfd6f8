/- Helpers, merged: what the law reaches. -/
import Derived.Test.YtalhkcmlacppjaaDoorSc1
namespace Go.Proofs.YtalhkcmlacppjaaDoor
open Go.ChangeShapes Go.WideShapes Go.ChangeAt Go.RowKit
set_option linter.unusedVariables false
set_option linter.unusedSimpArgs false

def bi (b : Bool) : Int := if b then 1 else 0
theorem bi_bd (b : Bool) : 0 ≤ bi b ∧ bi b ≤ 1 := by cases b <;> simp [bi]
/-- The signed crossing of the edge (a, b) - (c, d) by the ray from (p, q) to the right: an edge that goes up counts 1, one that goes down -1. -/
def wE (a b c d p q : Int) : Int := if d < b then -bi (upB c d a b p q) else bi (upB a b c d p q)
def wEi (ps : List (Int × Int)) (p q : Int) (i : Nat) : Int := wE (cx ps i) (cy ps i) (cx ps (nx ps.length i)) (cy ps (nx ps.length i)) p q
/-- The winding number; on an edge it is that of a point a little to the right and upwards. -/
def wnd (ps : List (Int × Int)) (p q : Int) : Int := sumE (wEi ps p q) (List.range ps.length)

theorem xor_signed {u v s t : Bool} (h : Bool.xor u v = Bool.xor s t) (h1 : u = true → s = false) (h2 : v = true → t = false) : bi u - bi v = bi t - bi s := by
  cases u <;> cases v <;> cases s <;> cases t <;> simp_all [bi]
theorem up_signed {a b c d x1 x2 y1 y2 : Int} (hbd : b ≤ d) (hxy : x2 < y2) (h : segB a b c d x1 x2 y1 y2 = false) :
    bi (upB a b c d x1 x2) - bi (upB a b c d y1 y2) = bi (inQ x1 x2 y1 y2 c d) - bi (inQ x1 x2 y1 y2 a b) := by
  refine xor_signed (edge_key hbd hxy h) (fun k => ?_) (fun k => ?_)
  · unfold upB at k
    rw [Bool.and_eq_true, Bool.and_eq_true, decide_eq_true_eq] at k
    unfold inQ
    rw [decide_eq_false (by omega)]; rfl
  · unfold upB at k
    rw [Bool.and_eq_true, Bool.and_eq_true, decide_eq_true_eq, decide_eq_true_eq] at k
    unfold inQ
    rw [decide_eq_false (p := d ≤ y2) (by omega)]; simp
/-- Along a segment upwards that does not meet an edge its crossing changes by what the edge's ends say. -/
theorem wE_key {a b c d x1 x2 y1 y2 : Int} (hxy : x2 < y2) (h : segB a b c d x1 x2 y1 y2 = false) :
    wE a b c d x1 x2 - wE a b c d y1 y2 = bi (inQ x1 x2 y1 y2 c d) - bi (inQ x1 x2 y1 y2 a b) := by
  unfold wE
  by_cases g : d < b
  · rw [if_pos g, if_pos g]
    have := up_signed (a := c) (b := d) (c := a) (d := b) (by omega) hxy (by rw [segB_rev1]; exact h)
    omega
  · rw [if_neg g, if_neg g]
    exact up_signed (by omega) hxy h
theorem wE_flat {a b c d x1 y1 z : Int} (h : segB a b c d x1 z y1 z = false) : wE a b c d x1 z = wE a b c d y1 z := by
  unfold wE
  split
  · rw [edge_flat (by omega) (by rw [segB_rev1]; exact h)]
  · rw [edge_flat (by omega) h]
theorem sumE_zero (f : Nat → Int) : ∀ l : List Nat, (∀ i ∈ l, f i = 0) → sumE f l = 0
  | [], _ => rfl
  | i :: l, h => by
    simp only [sumE]
    rw [h i List.mem_cons_self, sumE_zero f l (fun j hj => h j (List.mem_cons_of_mem _ hj))]
    omega
theorem sumE_one (f : Nat → Int) (e : Nat) : ∀ n, e < n → (∀ i, i < n → i ≠ e → f i = 0) → sumE f (List.range n) = f e
  | 0, h, _ => by omega
  | n + 1, h, hz => by
    rw [List.range_succ, sumE_snoc]
    by_cases g : e = n
    · subst g
      rw [sumE_zero f _ (fun i hi => hz i (by have := List.mem_range.1 hi; omega) (by have := List.mem_range.1 hi; omega))]
      omega
    · rw [sumE_one f e n (by omega) (fun i hi => hz i (by omega)), hz n (by omega) (fun k => g k.symm)]
      omega
theorem sumE_two (f : Nat → Int) (e g : Nat) (heg : e ≠ g) : ∀ n, e < n → g < n → (∀ i, i < n → i ≠ e → i ≠ g → f i = 0) → sumE f (List.range n) = f e + f g
  | 0, h, _, _ => by omega
  | n + 1, h, h', hz => by
    rw [List.range_succ, sumE_snoc]
    by_cases k : e = n
    · subst k
      rw [sumE_one f g e (by omega) (fun i hi hne => hz i (by omega) (by omega) hne)]
      omega
    · by_cases k' : g = n
      · subst k'
        rw [sumE_one f e g (by omega) (fun i hi hne => hz i (by omega) hne (by omega))]
      · rw [sumE_two f e g heg n (by omega) (by omega) (fun i hi => hz i (by omega)), hz n (by omega) (fun q => k q.symm) (fun q => k' q.symm)]
        omega
theorem sumE_sub (f g : Nat → Int) (l : List Nat) : sumE (fun i => f i - g i) l = sumE f l - sumE g l := by
  rw [show (fun i => f i - g i) = (fun i => f i + (fun i => -g i) i) from funext fun i => by show f i - g i = f i + -g i; omega, sumE_add, sumE_neg]
  omega
/-- Round a closed polygon the differences of a function on the corners add up to nothing. -/
theorem sum_round (Q : Nat → Int) (n : Nat) (hn : 0 < n) : sumE (fun i => Q (nx n i) - Q i) (List.range n) = 0 := by
  rw [sumE_sub]
  have := sumE_turn Q n 1 hn
  show sumE (fun i => Q ((i + 1) % n)) (List.range n) - sumE Q (List.range n) = 0
  omega
/-- The change of the winding number along a segment that meets only edge e, or e and g. -/
theorem wnd_one (ps : List (Int × Int)) {x1 x2 y1 y2 : Int} (e : Nat) (he : e < ps.length) (hxy : x2 < y2)
    (h : ∀ i, i < ps.length → i ≠ e → segB (cx ps i) (cy ps i) (cx ps (nx ps.length i)) (cy ps (nx ps.length i)) x1 x2 y1 y2 = false) :
    wnd ps x1 x2 - wnd ps y1 y2 = wEi ps x1 x2 e - wEi ps y1 y2 e - (bi (inQ x1 x2 y1 y2 (cx ps (nx ps.length e)) (cy ps (nx ps.length e))) - bi (inQ x1 x2 y1 y2 (cx ps e) (cy ps e))) := by
  have k := sum_round (fun i => bi (inQ x1 x2 y1 y2 (cx ps i) (cy ps i))) ps.length (by omega)
  have r := sumE_one (fun i => (wEi ps x1 x2 i - wEi ps y1 y2 i) - (bi (inQ x1 x2 y1 y2 (cx ps (nx ps.length i)) (cy ps (nx ps.length i))) - bi (inQ x1 x2 y1 y2 (cx ps i) (cy ps i)))) e ps.length he (fun i hi hne => by
    have := wE_key hxy (h i hi hne)
    show (wEi ps x1 x2 i - wEi ps y1 y2 i) - _ = 0
    unfold wEi
    omega)
  rw [sumE_sub, sumE_sub] at r
  unfold wnd
  rw [← r]
  have k' : sumE (fun i => bi (inQ x1 x2 y1 y2 (cx ps (nx ps.length i)) (cy ps (nx ps.length i))) - bi (inQ x1 x2 y1 y2 (cx ps i) (cy ps i))) (List.range ps.length) = 0 := k
  rw [k']
  omega
theorem wnd_two (ps : List (Int × Int)) {x1 x2 y1 y2 : Int} (e g : Nat) (heg : e ≠ g) (he : e < ps.length) (hg : g < ps.length) (hxy : x2 < y2)
    (h : ∀ i, i < ps.length → i ≠ e → i ≠ g → segB (cx ps i) (cy ps i) (cx ps (nx ps.length i)) (cy ps (nx ps.length i)) x1 x2 y1 y2 = false) :
    wnd ps x1 x2 - wnd ps y1 y2 = (wEi ps x1 x2 e - wEi ps y1 y2 e - (bi (inQ x1 x2 y1 y2 (cx ps (nx ps.length e)) (cy ps (nx ps.length e))) - bi (inQ x1 x2 y1 y2 (cx ps e) (cy ps e)))) + (wEi ps x1 x2 g - wEi ps y1 y2 g - (bi (inQ x1 x2 y1 y2 (cx ps (nx ps.length g)) (cy ps (nx ps.length g))) - bi (inQ x1 x2 y1 y2 (cx ps g) (cy ps g)))) := by
  have k := sum_round (fun i => bi (inQ x1 x2 y1 y2 (cx ps i) (cy ps i))) ps.length (by omega)
  have r := sumE_two (fun i => (wEi ps x1 x2 i - wEi ps y1 y2 i) - (bi (inQ x1 x2 y1 y2 (cx ps (nx ps.length i)) (cy ps (nx ps.length i))) - bi (inQ x1 x2 y1 y2 (cx ps i) (cy ps i)))) e g heg ps.length he hg (fun i hi hne hne' => by
    have := wE_key hxy (h i hi hne hne')
    show (wEi ps x1 x2 i - wEi ps y1 y2 i) - _ = 0
    unfold wEi
    omega)
  rw [sumE_sub, sumE_sub] at r
  unfold wnd
  rw [← r]
  have k' : sumE (fun i => bi (inQ x1 x2 y1 y2 (cx ps (nx ps.length i)) (cy ps (nx ps.length i))) - bi (inQ x1 x2 y1 y2 (cx ps i) (cy ps i))) (List.range ps.length) = 0 := k
  rw [k']
  omega
theorem wnd_flat1 (ps : List (Int × Int)) {x1 y1 z : Int} (e : Nat) (he : e < ps.length)
    (h : ∀ i, i < ps.length → i ≠ e → segB (cx ps i) (cy ps i) (cx ps (nx ps.length i)) (cy ps (nx ps.length i)) x1 z y1 z = false) :
    wnd ps x1 z - wnd ps y1 z = wEi ps x1 z e - wEi ps y1 z e := by
  have r := sumE_one (fun i => wEi ps x1 z i - wEi ps y1 z i) e ps.length he (fun i hi hne => by
    have := wE_flat (h i hi hne)
    show wEi ps x1 z i - wEi ps y1 z i = 0
    unfold wEi
    omega)
  rw [sumE_sub] at r
  exact r
theorem wnd_flat2 (ps : List (Int × Int)) {x1 y1 z : Int} (e g : Nat) (heg : e ≠ g) (he : e < ps.length) (hg : g < ps.length)
    (h : ∀ i, i < ps.length → i ≠ e → i ≠ g → segB (cx ps i) (cy ps i) (cx ps (nx ps.length i)) (cy ps (nx ps.length i)) x1 z y1 z = false) :
    wnd ps x1 z - wnd ps y1 z = (wEi ps x1 z e - wEi ps y1 z e) + (wEi ps x1 z g - wEi ps y1 z g) := by
  have r := sumE_two (fun i => wEi ps x1 z i - wEi ps y1 z i) e g heg ps.length he hg (fun i hi hne hne' => by
    have := wE_flat (h i hi hne hne')
    show wEi ps x1 z i - wEi ps y1 z i = 0
    unfold wEi
    omega)
  rw [sumE_sub] at r
  exact r

def scL (N : Int) (ps : List (Int × Int)) : List (Int × Int) := ps.map fun p => (N * p.1, N * p.2)
theorem scL_len (N : Int) (ps : List (Int × Int)) : (scL N ps).length = ps.length := by simp [scL]
theorem scL_at (N : Int) (ps : List (Int × Int)) (i : Nat) : cx (scL N ps) i = N * cx ps i ∧ cy (scL N ps) i = N * cy ps i := by
  unfold cx cy scL
  rw [List.getD_eq_getElem?_getD, List.getD_eq_getElem?_getD, List.getElem?_map]
  cases ps[i]? with
  | none => simp
  | some p => exact ⟨rfl, rfl⟩
theorem scL_scL (M N : Int) (ps : List (Int × Int)) : scL M (scL N ps) = scL (M * N) ps := by
  unfold scL
  rw [List.map_map]
  congr 1
  funext p
  show (M * (N * p.1), M * (N * p.2)) = (M * N * p.1, M * N * p.2)
  rw [Int.mul_assoc, Int.mul_assoc]
theorem scL_one (ps : List (Int × Int)) : scL 1 ps = ps := by
  unfold scL
  have : (fun p : Int × Int => (1 * p.1, 1 * p.2)) = id := by funext p; simp
  rw [this, List.map_id]
section
variable {N : Int} (hN : 0 < N)
include hN
theorem lt_sc (a b : Int) : N * a < N * b ↔ a < b := by
  constructor
  · intro h; exact Int.lt_of_mul_lt_mul_left h (by omega)
  · intro h; exact Int.mul_lt_mul_of_pos_left h hN
theorem le_sc (a b : Int) : N * a ≤ N * b ↔ a ≤ b := by
  constructor
  · intro h; exact Int.le_of_mul_le_mul_left h hN
  · intro h; exact Int.mul_le_mul_of_nonneg_left h (by omega)
theorem det_sc (a b c d p q : Int) : (det (N * a) (N * b) (N * c) (N * d) (N * p) (N * q) < 0 ↔ det a b c d p q < 0) ∧ (0 < det (N * a) (N * b) (N * c) (N * d) (N * p) (N * q) ↔ 0 < det a b c d p q) := by
  have e : det (N * a) (N * b) (N * c) (N * d) (N * p) (N * q) = N * (N * det a b c d p q) := by unfold det; grind
  rw [e]
  constructor
  · have := lt_sc hN (N * det a b c d p q) 0
    have k := lt_sc hN (det a b c d p q) 0
    rw [Int.mul_zero] at this k
    rw [this, k]
  · have := lt_sc hN 0 (N * det a b c d p q)
    have k := lt_sc hN 0 (det a b c d p q)
    rw [Int.mul_zero] at this k
    rw [this, k]
theorem upB_sc (a b c d p q : Int) : upB (N * a) (N * b) (N * c) (N * d) (N * p) (N * q) = upB a b c d p q := by
  unfold upB
  rw [ori_pos, ori_pos]
  have h1 := le_sc hN b q
  have h2 := lt_sc hN q d
  have h3 := (det_sc hN a b c d p q).2
  rw [decide_eq_decide.2 h1, decide_eq_decide.2 h2, decide_eq_decide.2 h3]
theorem wE_sc (a b c d p q : Int) : wE (N * a) (N * b) (N * c) (N * d) (N * p) (N * q) = wE a b c d p q := by
  unfold wE
  rw [upB_sc hN, upB_sc hN]
  have := lt_sc hN d b
  by_cases h : d < b
  · rw [if_pos h, if_pos (this.2 h)]
  · rw [if_neg h, if_neg (fun k => h (this.1 k))]
theorem wnd_sc (ps : List (Int × Int)) (p q : Int) : wnd (scL N ps) (N * p) (N * q) = wnd ps p q := by
  unfold wnd
  rw [scL_len]
  exact sumE_congr fun i _ => by
    unfold wEi
    rw [scL_len, (scL_at N ps i).1, (scL_at N ps i).2, (scL_at N ps (nx ps.length i)).1, (scL_at N ps (nx ps.length i)).2, wE_sc hN]
end
theorem cmpI_sign {x y z t : Int} (h1 : x < y ↔ z < t) (h2 : y < x ↔ t < z) : cmpI x y = cmpI z t := by
  unfold cmpI
  by_cases a : x < y
  · rw [if_pos a, if_pos (h1.1 a)]
  · rw [if_neg a, if_neg (fun k => a (h1.2 k))]
    by_cases b : y < x
    · rw [if_pos b, if_pos (h2.1 b)]
    · rw [if_neg b, if_neg (fun k => b (h2.2 k))]
section
variable {N : Int} (hN : 0 < N)
include hN
theorem ori_sc (a b c d p q : Int) : ori (N * a) (N * b) (N * c) (N * d) (N * p) (N * q) = ori a b c d p q := by
  have h := det_sc hN a b c d p q
  unfold det at h
  unfold ori
  exact cmpI_sign (by omega) (by omega)
theorem mnI_sc (a b : Int) : mnI (N * a) (N * b) = N * mnI a b := by
  have := lt_sc hN b a
  unfold mnI
  by_cases h : b < a
  · rw [if_pos h, if_pos (this.2 h)]
  · rw [if_neg h, if_neg (fun k => h (this.1 k))]
theorem mxI_sc (a b : Int) : mxI (N * a) (N * b) = N * mxI a b := by
  have := lt_sc hN a b
  unfold mxI
  by_cases h : a < b
  · rw [if_pos h, if_pos (this.2 h)]
  · rw [if_neg h, if_neg (fun k => h (this.1 k))]
theorem onB_sc (a b c d p q : Int) : onB (N * a) (N * b) (N * c) (N * d) (N * p) (N * q) = onB a b c d p q := by
  unfold onB
  rw [mnI_sc hN, mxI_sc hN, mnI_sc hN, mxI_sc hN, ori_sc hN, decide_eq_decide.2 (le_sc hN (mnI a c) p), decide_eq_decide.2 (le_sc hN p (mxI a c)), decide_eq_decide.2 (le_sc hN (mnI b d) q), decide_eq_decide.2 (le_sc hN q (mxI b d))]
theorem segB_sc (a b c d p q r s : Int) : segB (N * a) (N * b) (N * c) (N * d) (N * p) (N * q) (N * r) (N * s) = segB a b c d p q r s := by
  unfold segB
  rw [onB_sc hN, onB_sc hN, onB_sc hN, onB_sc hN, ori_sc hN, ori_sc hN, ori_sc hN, ori_sc hN]
end
end Go.Proofs.YtalhkcmlacppjaaDoor


namespace Go.Proofs.YtalhkcmlacppjaaDoor
open Go.ChangeShapes Go.WideShapes Go.ChangeAt Go.RowKit
set_option linter.unusedVariables false
set_option linter.unusedSimpArgs false

theorem btw_mul {a c p : Int} (v : Int) (h : Btw a c p) : v * a ≤ v * p ∨ v * c ≤ v * p := by
  unfold Btw at h
  rcases Int.le_total 0 v with g | g
  · rcases h with ⟨h1, h2⟩ | ⟨h1, h2⟩
    · exact .inl (Int.mul_le_mul_of_nonneg_left h1 g)
    · exact .inr (Int.mul_le_mul_of_nonneg_left h1 g)
  · rcases h with ⟨h1, h2⟩ | ⟨h1, h2⟩
    · exact .inr (Int.mul_le_mul_of_nonpos_left g h2)
    · exact .inl (Int.mul_le_mul_of_nonpos_left g h2)
/-- What is positive at both ends of a segment is positive on it. -/
theorem on_pos {x1 x2 y1 y2 p q : Int} (u v k : Int) (h : onB x1 x2 y1 y2 p q = true) (hx : 0 < u * x1 + v * x2 + k) (hy : 0 < u * y1 + v * y2 + k) : 0 < u * p + v * q + k := by
  obtain ⟨h1, h2, h3⟩ := on_iff.1 h
  by_cases e : y1 = x1
  · have hp : p = x1 := by unfold Btw at h1; omega
    subst hp e
    rcases btw_mul v h2 with g | g <;> omega
  · have key : (y1 - x1) * (u * p + v * q + k) = (y1 - p) * (u * x1 + v * x2 + k) + (p - x1) * (u * y1 + v * y2 + k) := by
      have : (y1 - x1) * (v * q) = v * ((y1 - x1) * x2 + (y2 - x2) * (p - x1)) := by
        have e3 : (y1 - x1) * q = (y1 - x1) * x2 + (y2 - x2) * (p - x1) := by have := h3; grind
        rw [← e3]; grind
      grind
    generalize u * x1 + v * x2 + k = fx at *
    generalize u * y1 + v * y2 + k = fy at *
    generalize u * p + v * q + k = fp at *
    unfold Btw at h1
    rcases Int.lt_or_gt_of_ne e with g | g
    · have m1 : (y1 - p) * fx ≤ 0 := Int.mul_nonpos_of_nonpos_of_nonneg (by omega) (by omega)
      have m2 : (p - x1) * fy ≤ 0 := Int.mul_nonpos_of_nonpos_of_nonneg (by omega) (by omega)
      have m3 : (y1 - p) * fx < 0 ∨ (p - x1) * fy < 0 := by
        by_cases z : y1 - p = 0
        · exact .inr (np (by omega) hy)
        · exact .inl (np (by omega) hx)
      rcases Int.lt_or_le 0 fp with z | z
      · exact z
      · have := Int.mul_nonneg_of_nonpos_of_nonpos (show y1 - x1 ≤ 0 by omega) z
        omega
    · have m1 : 0 ≤ (y1 - p) * fx := zz (by omega) (by omega)
      have m2 : 0 ≤ (p - x1) * fy := zz (by omega) (by omega)
      have m3 : 0 < (y1 - p) * fx ∨ 0 < (p - x1) * fy := by
        by_cases z : y1 - p = 0
        · exact .inr (pp (by omega) hy)
        · exact .inl (pp (by omega) hx)
      exact pos_of (y := y1 - x1) (by omega) (by rw [Int.mul_comm]; omega)
theorem det_on {a b c d p q : Int} (h : onB a b c d p q = true) : det a b c d p q = 0 := by
  have := (on_iff.1 h).2.2
  unfold det
  omega
theorem det_lin (a b c d p q : Int) : det a b c d p q = -(d - b) * p + (c - a) * q + ((d - b) * a - (c - a) * b) := by unfold det; grind
theorem on_det_pos {a b c d x1 x2 y1 y2 p q : Int} (h : onB x1 x2 y1 y2 p q = true) (hx : 0 < det a b c d x1 x2) (hy : 0 < det a b c d y1 y2) : 0 < det a b c d p q := by
  rw [det_lin] at *
  exact on_pos _ _ _ h hx hy
theorem on_det_neg {a b c d x1 x2 y1 y2 p q : Int} (h : onB x1 x2 y1 y2 p q = true) (hx : det a b c d x1 x2 < 0) (hy : det a b c d y1 y2 < 0) : det a b c d p q < 0 := by
  have := on_det_pos (a := c) (b := d) (c := a) (d := b) h (by rw [det_rev]; omega) (by rw [det_rev]; omega)
  rw [det_rev] at this
  omega
/-- Segments that meet have a common point, where all is scaled. -/
theorem seg_pt {a b c d p q r s : Int} (h : segB a b c d p q r s = true) : ∃ N X Y : Int, 0 < N ∧ onB (N * a) (N * b) (N * c) (N * d) X Y = true ∧ onB (N * p) (N * q) (N * r) (N * s) X Y = true := by
  have one : ∀ X Y, onB a b c d X Y = true → onB p q r s X Y = true → ∃ N X Y : Int, 0 < N ∧ onB (N * a) (N * b) (N * c) (N * d) X Y = true ∧ onB (N * p) (N * q) (N * r) (N * s) X Y = true := fun X Y h g => ⟨1, X, Y, by omega, by simpa using h, by simpa using g⟩
  by_cases hD : dD a b c d p q r s = 0
  · rw [seg_par hD, Bool.or_eq_true, Bool.or_eq_true, Bool.or_eq_true] at h
    rcases h with (h | h) | (h | h)
    · exact one _ _ h on_first
    · exact one _ _ h on_last
    · exact one _ _ on_first h
    · exact one _ _ on_last h
  · obtain ⟨hS, hT⟩ := (seg_meets hD).1 h
    have main : ∀ D S T : Int, 0 < D → (0 ≤ S ∧ S ≤ D) → (0 ≤ T ∧ T ≤ D) → D * (p - a) = S * (c - a) - T * (r - p) → D * (q - b) = S * (d - b) - T * (s - q) → ∃ N X Y : Int, 0 < N ∧ onB (N * a) (N * b) (N * c) (N * d) X Y = true ∧ onB (N * p) (N * q) (N * r) (N * s) X Y = true := by
      intro D S T h0 ⟨s0, s1⟩ ⟨t0, t1⟩ e1 e2
      have bt : ∀ x y U : Int, 0 ≤ U → U ≤ D → Btw (D * x) (D * y) (D * x + U * (y - x)) := fun x y U u0 u1 => by
        unfold Btw
        rcases Int.le_total x y with g | g
        · have m1 := Int.mul_nonneg u0 (show 0 ≤ y - x by omega)
          have m2 := Int.mul_nonneg (show 0 ≤ D - U by omega) (show 0 ≤ y - x by omega)
          have : (D - U) * (y - x) = D * y - D * x - U * (y - x) := by grind
          left; omega
        · have m1 := Int.mul_nonneg u0 (show 0 ≤ x - y by omega)
          have m2 := Int.mul_nonneg (show 0 ≤ D - U by omega) (show 0 ≤ x - y by omega)
          have : (D - U) * (x - y) = D * x - D * y + U * (y - x) := by grind
          have : U * (x - y) = -(U * (y - x)) := by grind
          right; omega
      have g1 : D * (p - a) = D * p - D * a := by grind
      have g2 : D * (q - b) = D * q - D * b := by grind
      have f1 : D * a + S * (c - a) = D * p + T * (r - p) := by omega
      have f2 : D * b + S * (d - b) = D * q + T * (s - q) := by omega
      refine ⟨D, D * a + S * (c - a), D * b + S * (d - b), h0, on_iff.2 ⟨bt a c S s0 s1, bt b d S s0 s1, by grind⟩, ?_⟩
      rw [f1, f2]
      exact on_iff.2 ⟨bt p r T t0 t1, bt q s T t0 t1, by grind⟩
    have i0 : dD a b c d p q r s * (p - a) = dS a b p q r s * (c - a) - dT a b c d p q * (r - p) := by unfold dD dS dT; grind
    have i1 : dD a b c d p q r s * (q - b) = dS a b p q r s * (d - b) - dT a b c d p q * (s - q) := by unfold dD dS dT; grind
    generalize dD a b c d p q r s = D at *
    generalize dS a b p q r s = S at *
    generalize dT a b c d p q = T at *
    unfold Inn at hS hT
    rcases Int.lt_or_gt_of_ne hD with g | g
    · exact main (-D) (-S) (-T) (by omega) (by omega) (by omega) (by rw [Int.neg_mul, Int.neg_mul, Int.neg_mul]; omega) (by rw [Int.neg_mul, Int.neg_mul, Int.neg_mul]; omega)
    · exact main D S T g (by omega) (by omega) i0 i1
theorem seg_none {a b c d p q r s : Int} (h : ∀ N X Y : Int, 0 < N → onB (N * a) (N * b) (N * c) (N * d) X Y = true → onB (N * p) (N * q) (N * r) (N * s) X Y = true → False) : segB a b c d p q r s = false := by
  cases g : segB a b c d p q r s with
  | false => rfl
  | true => obtain ⟨N, X, Y, h0, h1, h2⟩ := seg_pt g; exact (h N X Y h0 h1 h2).elim
/-- Both ends strictly on one side of the line of the other segment. -/
theorem seg_side {a b c d p q r s : Int} (h : (0 < det a b c d p q ∧ 0 < det a b c d r s) ∨ (det a b c d p q < 0 ∧ det a b c d r s < 0)) : segB a b c d p q r s = false := seg_none fun N X Y h0 h1 h2 => by
  have e := det_on h1
  rcases h with ⟨k1, k2⟩ | ⟨k1, k2⟩
  · have := on_det_pos h2 ((det_sc h0 a b c d p q).2.2 k1) ((det_sc h0 a b c d r s).2.2 k2)
    omega
  · have := on_det_neg h2 ((det_sc h0 a b c d p q).1.2 k1) ((det_sc h0 a b c d r s).1.2 k2)
    omega
/-- A segment between two points of a segment is a part of it. -/
theorem on_trans {a b c d x1 x2 y1 y2 p q : Int} (hx : onB a b c d x1 x2 = true) (hy : onB a b c d y1 y2 = true) (h : onB x1 x2 y1 y2 p q = true) : onB a b c d p q = true := by
  obtain ⟨a1, a2, a3⟩ := on_iff.1 hx
  obtain ⟨b1, b2, b3⟩ := on_iff.1 hy
  obtain ⟨c1, c2, c3⟩ := on_iff.1 h
  refine on_iff.2 ⟨by unfold Btw at *; omega, by unfold Btw at *; omega, ?_⟩
  by_cases e : y1 = x1
  · by_cases f : y2 = x2
    · have : p = x1 := by unfold Btw at c1; omega
      have : q = x2 := by unfold Btw at c2; omega
      subst p q
      exact a3
    · have k : (y2 - x2) * ((c - a) * (q - b) - (d - b) * (p - a)) = (y2 - q) * ((c - a) * (x2 - b) - (d - b) * (x1 - a)) + (q - x2) * ((c - a) * (y2 - b) - (d - b) * (y1 - a)) := by
        have : (d - b) * ((y2 - x2) * p) = (d - b) * ((y2 - x2) * x1 + (y1 - x1) * (q - x2)) := by
          rw [show (y2 - x2) * p = (y2 - x2) * x1 + (y1 - x1) * (q - x2) by have := c3; grind]
        grind
      rw [show (c - a) * (x2 - b) - (d - b) * (x1 - a) = 0 by omega, show (c - a) * (y2 - b) - (d - b) * (y1 - a) = 0 by omega, Int.mul_zero, Int.mul_zero] at k
      have := (Int.mul_eq_zero.1 (show (y2 - x2) * ((c - a) * (q - b) - (d - b) * (p - a)) = 0 by omega))
      omega
  · have k : (y1 - x1) * ((c - a) * (q - b) - (d - b) * (p - a)) = (y1 - p) * ((c - a) * (x2 - b) - (d - b) * (x1 - a)) + (p - x1) * ((c - a) * (y2 - b) - (d - b) * (y1 - a)) := by
      have : (c - a) * ((y1 - x1) * q) = (c - a) * ((y1 - x1) * x2 + (y2 - x2) * (p - x1)) := by
        rw [show (y1 - x1) * q = (y1 - x1) * x2 + (y2 - x2) * (p - x1) by have := c3; grind]
      grind
    rw [show (c - a) * (x2 - b) - (d - b) * (x1 - a) = 0 by omega, show (c - a) * (y2 - b) - (d - b) * (y1 - a) = 0 by omega, Int.mul_zero, Int.mul_zero] at k
    have := (Int.mul_eq_zero.1 (show (y1 - x1) * ((c - a) * (q - b) - (d - b) * (p - a)) = 0 by omega))
    omega
theorem seg_mono {a b c d p q r s x1 x2 y1 y2 : Int} (hx : onB p q r s x1 x2 = true) (hy : onB p q r s y1 y2 = true) (h : segB a b c d p q r s = false) : segB a b c d x1 x2 y1 y2 = false := seg_none fun N X Y h0 h1 h2 => by
  have k := on_trans (by rw [onB_sc h0]; exact hx) (by rw [onB_sc h0]; exact hy) h2
  have := seg_common h1 k
  rw [segB_sc h0] at this
  rw [this] at h
  cases h
/-- The angle at (b1, b2) is not nought. -/
def Gd (a1 a2 b1 b2 c1 c2 : Int) : Prop := det a1 a2 b1 b2 c1 c2 ≠ 0 ∨ (a1 - b1) * (c1 - b1) + (a2 - b2) * (c2 - b2) < 0
theorem Gd.sc {a1 a2 b1 b2 c1 c2 N : Int} (hN : 0 < N) (h : Gd a1 a2 b1 b2 c1 c2) : Gd (N * a1) (N * a2) (N * b1) (N * b2) (N * c1) (N * c2) := by
  rcases h with h | h
  · left
    have := det_sc hN a1 a2 b1 b2 c1 c2
    omega
  · right
    have e : (N * a1 - N * b1) * (N * c1 - N * b1) + (N * a2 - N * b2) * (N * c2 - N * b2) = N * (N * ((a1 - b1) * (c1 - b1) + (a2 - b2) * (c2 - b2))) := by grind
    rw [e]
    exact pn hN (pn hN h)
/-- Neighbouring edges have but one common point. -/
theorem adj_pt {a1 a2 b1 b2 c1 c2 X Y : Int} (hg : Gd a1 a2 b1 b2 c1 c2) (h1 : onB a1 a2 b1 b2 X Y = true) (h2 : onB b1 b2 c1 c2 X Y = true) : X = b1 ∧ Y = b2 := by
  obtain ⟨p1, p2, p3⟩ := on_iff.1 h1
  obtain ⟨q1, q2, q3⟩ := on_iff.1 h2
  have e1 : (a1 - b1) * (Y - b2) = (a2 - b2) * (X - b1) := by grind
  have e2 : (c1 - b1) * (Y - b2) = (c2 - b2) * (X - b1) := by grind
  have k1 : Btw 0 (a1 - b1) (X - b1) := by unfold Btw at *; omega
  have k2 : Btw 0 (a2 - b2) (Y - b2) := by unfold Btw at *; omega
  have k3 : Btw 0 (c1 - b1) (X - b1) := by unfold Btw at *; omega
  have k4 : Btw 0 (c2 - b2) (Y - b2) := by unfold Btw at *; omega
  have hd : det a1 a2 b1 b2 c1 c2 = -((a1 - b1) * (c2 - b2) - (a2 - b2) * (c1 - b1)) := by unfold det; grind
  unfold Gd at hg
  rw [hd] at hg
  have r : X - b1 = 0 ∧ Y - b2 = 0 := by
    generalize X - b1 = Z1 at *
    generalize Y - b2 = Z2 at *
    generalize a1 - b1 = A1 at *
    generalize a2 - b2 = A2 at *
    generalize c1 - b1 = C1 at *
    generalize c2 - b2 = C2 at *
    clear p1 p2 p3 q1 q2 q3 hd h1 h2
    unfold Btw at k1 k2 k3 k4
    false_or_by_contra
    rename_i hz
    have d0 : A1 * C2 - A2 * C1 = 0 := by
      by_cases z : Z1 = 0
      · have z2 : Z2 ≠ 0 := fun g => hz ⟨z, g⟩
        rw [z, Int.mul_zero] at e1 e2
        have := Int.mul_eq_zero.1 e1
        have := Int.mul_eq_zero.1 e2
        have a0 : A1 = 0 := by omega
        have c0 : C1 = 0 := by omega
        rw [a0, c0]; simp
      · have k : Z1 * (A1 * C2 - A2 * C1) = 0 := by
          have m1 : A1 * (C2 * Z1) = A1 * (C1 * Z2) := by rw [e2]
          have m2 : C1 * (A2 * Z1) = C1 * (A1 * Z2) := by rw [e1]
          grind
        have := Int.mul_eq_zero.1 k
        omega
    have s1 : 0 ≤ A1 * C1 := by
      rcases Int.lt_trichotomy Z1 0 with g | g | g
      · exact Int.mul_nonneg_of_nonpos_of_nonpos (by omega) (by omega)
      · have z2 : Z2 ≠ 0 := fun g' => hz ⟨g, g'⟩
        rw [g, Int.mul_zero] at e1
        have := Int.mul_eq_zero.1 e1
        have a0 : A1 = 0 := by omega
        rw [a0, Int.zero_mul]; omega
      · exact Int.mul_nonneg (by omega) (by omega)
    have s2 : 0 ≤ A2 * C2 := by
      rcases Int.lt_trichotomy Z2 0 with g | g | g
      · exact Int.mul_nonneg_of_nonpos_of_nonpos (by omega) (by omega)
      · have z1 : Z1 ≠ 0 := fun g' => hz ⟨g', g⟩
        rw [g, Int.mul_zero] at e1
        have := Int.mul_eq_zero.1 e1.symm
        have a0 : A2 = 0 := by omega
        rw [a0, Int.zero_mul]; omega
      · exact Int.mul_nonneg (by omega) (by omega)
    omega
  omega
/-- A part of an edge that does not reach the corner does not meet the edge behind the corner. -/
theorem seg_adj {a1 a2 b1 b2 c1 c2 x1 x2 y1 y2 : Int} (hg : Gd a1 a2 b1 b2 c1 c2) (hx : onB a1 a2 b1 b2 x1 x2 = true) (hy : onB a1 a2 b1 b2 y1 y2 = true) (nx' : ¬ (x1 = b1 ∧ x2 = b2)) (ny : ¬ (y1 = b1 ∧ y2 = b2)) : segB b1 b2 c1 c2 x1 x2 y1 y2 = false := seg_none fun N X Y h0 h1 h2 => by
  have k := on_trans (by rw [onB_sc h0]; exact hx) (by rw [onB_sc h0]; exact hy) h2
  obtain ⟨rfl, rfl⟩ := adj_pt (Gd.sc h0 hg) k h1
  rw [onB_sc h0] at h2
  obtain ⟨p1, p2, p3⟩ := on_iff.1 hx
  obtain ⟨q1, q2, q3⟩ := on_iff.1 hy
  obtain ⟨r1, r2, r3⟩ := on_iff.1 h2
  clear hx hy h1 h2 k
  by_cases e : b1 = a1
  · have ex : x1 = b1 := by unfold Btw at p1; omega
    have ey : y1 = b1 := by unfold Btw at q1; omega
    unfold Btw at *
    omega
  · have ex : x1 ≠ b1 := fun h => nx' ⟨h, by
      rw [h] at p3
      have : (b1 - a1) * (x2 - b2) = 0 := by grind
      have := Int.mul_eq_zero.1 this
      omega⟩
    have ey : y1 ≠ b1 := fun h => ny ⟨h, by
      rw [h] at q3
      have : (b1 - a1) * (y2 - b2) = 0 := by grind
      have := Int.mul_eq_zero.1 this
      omega⟩
    unfold Btw at *
    omega
theorem ex_bd2 (x y : Int) : ∃ m : Int, 0 < m ∧ (-m < x ∧ x < m) ∧ -m < y ∧ y < m := ⟨x.natAbs + y.natAbs + 1, by omega⟩
theorem sc_gap {N x y m : Int} (hxy : x < y) (hN : m ≤ N) (hm : 0 < m) : N * x + m ≤ N * y := by
  have : N * 1 ≤ N * (y - x) := Int.mul_le_mul_of_nonneg_left (by omega) (by omega)
  have e : N * (y - x) = N * y - N * x := by grind
  omega
/-- Near a point that is not on a segment, where all is scaled enough, nothing meets it. -/
theorem far_seg {a b c d p q : Int} (h : onB a b c d p q = false) (A1 A2 C1 C2 : Int) : ∃ N0 : Int, ∀ N : Int, N0 ≤ N → 0 < N → segB (N * a) (N * b) (N * c) (N * d) (N * p + A1) (N * q + A2) (N * p + C1) (N * q + C2) = false := by
  have dl : ∀ N A1 A2 : Int, det (N * a) (N * b) (N * c) (N * d) (N * p + A1) (N * q + A2) = N * (N * det a b c d p q + ((c - a) * A2 - (d - b) * A1)) := fun N A1 A2 => by unfold det; grind
  obtain ⟨m, m0, m1, m2⟩ := ex_bd2 ((c - a) * A2 - (d - b) * A1) ((c - a) * C2 - (d - b) * C1)
  rcases Int.lt_trichotomy (det a b c d p q) 0 with g | g | g
  · refine ⟨m, fun N hN h0 => seg_side (.inr ⟨?_, ?_⟩)⟩
    · rw [dl]
      have := sc_gap g hN m0
      exact pn h0 (by omega)
    · rw [dl]
      have := sc_gap g hN m0
      exact pn h0 (by omega)
  · have out : (p < a ∧ p < c) ∨ (a < p ∧ c < p) ∨ (q < b ∧ q < d) ∨ (b < q ∧ d < q) := by
      false_or_by_contra
      rename_i k
      rw [on_of g (by omega) (by omega)] at h
      cases h
    obtain ⟨u, u0, ⟨u1, u2⟩, u3, u4⟩ := ex_bd2 A1 C1
    obtain ⟨v, v0, ⟨v1, v2⟩, v3, v4⟩ := ex_bd2 A2 C2
    clear dl m1 m2 h g
    refine ⟨u + v, fun N hN h0 => ?_⟩
    have hu : u ≤ N := by omega
    have hv : v ≤ N := by omega
    cases k : segB (N * a) (N * b) (N * c) (N * d) (N * p + A1) (N * q + A2) (N * p + C1) (N * q + C2) with
    | false => rfl
    | true =>
      obtain ⟨⟨b1, b2⟩, b3, b4⟩ := seg_boxes k
      clear k
      rcases out with ⟨o1, o2⟩ | ⟨o1, o2⟩ | ⟨o1, o2⟩ | ⟨o1, o2⟩
      · have r1 := sc_gap o1 hu u0
        have r2 := sc_gap o2 hu u0
        exact absurd ⟨by omega, by omega, by omega, by omega⟩ b2
      · have r1 := sc_gap o1 hu u0
        have r2 := sc_gap o2 hu u0
        exact absurd ⟨by omega, by omega, by omega, by omega⟩ b1
      · have r1 := sc_gap o1 hv v0
        have r2 := sc_gap o2 hv v0
        exact absurd ⟨by omega, by omega, by omega, by omega⟩ b4
      · have r1 := sc_gap o1 hv v0
        have r2 := sc_gap o2 hv v0
        exact absurd ⟨by omega, by omega, by omega, by omega⟩ b3
  · refine ⟨m, fun N hN h0 => seg_side (.inl ⟨?_, ?_⟩)⟩
    · rw [dl]
      have := sc_gap g hN m0
      exact pp h0 (by omega)
    · rw [dl]
      have := sc_gap g hN m0
      exact pp h0 (by omega)
end Go.Proofs.YtalhkcmlacppjaaDoor


namespace Go.Proofs.YtalhkcmlacppjaaDoor
open Go.ChangeShapes Go.WideShapes Go.ChangeAt Go.RowKit
set_option linter.unusedVariables false
set_option linter.unusedSimpArgs false

/-- A simple polygon: no angle is nought, and edges that are not neighbours do not meet. -/
def Simp (ps : List (Int × Int)) : Prop := 3 ≤ ps.length ∧ (∀ i, i < ps.length → Gd (cx ps i) (cy ps i) (cx ps (nx ps.length i)) (cy ps (nx ps.length i)) (cx ps (nx ps.length (nx ps.length i))) (cy ps (nx ps.length (nx ps.length i)))) ∧ ∀ i j, i < ps.length → j < ps.length → Apart ps.length i j → segE ps i j = false
theorem Simp.sc {ps : List (Int × Int)} (h : Simp ps) {N : Int} (hN : 0 < N) : Simp (scL N ps) := by
  obtain ⟨h1, h2, h3⟩ := h
  refine ⟨by rw [scL_len]; exact h1, fun i hi => ?_, fun i j hi hj hap => ?_⟩
  · rw [scL_len] at hi ⊢
    rw [(scL_at N ps i).1, (scL_at N ps i).2, (scL_at N ps _).1, (scL_at N ps _).2, (scL_at N ps _).1, (scL_at N ps _).2]
    exact (h2 i hi).sc hN
  · rw [scL_len] at hi hj hap
    unfold segE
    rw [scL_len, (scL_at N ps i).1, (scL_at N ps i).2, (scL_at N ps j).1, (scL_at N ps j).2, (scL_at N ps _).1, (scL_at N ps _).2, (scL_at N ps _).1, (scL_at N ps _).2, segB_sc hN]
    exact h3 i j hi hj hap
theorem Gd.symm {a1 a2 b1 b2 c1 c2 : Int} (h : Gd a1 a2 b1 b2 c1 c2) : Gd c1 c2 b1 b2 a1 a2 := by
  rcases h with h | h
  · left
    have : det c1 c2 b1 b2 a1 a2 = -det a1 a2 b1 b2 c1 c2 := by unfold det; grind
    omega
  · right
    have : (c1 - b1) * (a1 - b1) + (c2 - b2) * (a2 - b2) = (a1 - b1) * (c1 - b1) + (a2 - b2) * (c2 - b2) := by grind
    omega
theorem Gd.ne1 {a1 a2 b1 b2 c1 c2 : Int} (h : Gd a1 a2 b1 b2 c1 c2) : ¬ (a1 = b1 ∧ a2 = b2) := by
  rintro ⟨rfl, rfl⟩
  rcases h with h | h
  · exact h (by unfold det; grind)
  · simp at h
theorem nx_ne {n i : Nat} (hn : 2 ≤ n) (hi : i < n) : nx n i ≠ i := by
  unfold nx
  by_cases h : i + 1 < n
  · rw [Nat.mod_eq_of_lt h]; omega
  · rw [show i + 1 = n by omega, Nat.mod_self]; omega
theorem nx_inj {n i j : Nat} (hi : i < n) (hj : j < n) (h : nx n i = nx n j) : i = j := by
  unfold nx at h
  by_cases h1 : i + 1 < n <;> by_cases h2 : j + 1 < n
  · rw [Nat.mod_eq_of_lt h1, Nat.mod_eq_of_lt h2] at h; omega
  · rw [Nat.mod_eq_of_lt h1, show j + 1 = n by omega, Nat.mod_self] at h; omega
  · rw [show i + 1 = n by omega, Nat.mod_self, Nat.mod_eq_of_lt h2] at h; omega
  · omega
/-- Inside the edge e. -/
def InE (ps : List (Int × Int)) (e : Nat) (p q : Int) : Prop := onE ps p q e = true ∧ ¬ (p = cx ps e ∧ q = cy ps e) ∧ ¬ (p = cx ps (nx ps.length e) ∧ q = cy ps (nx ps.length e))
theorem wE_on {a b c d p q : Int} (h : onB a b c d p q = true) : wE a b c d p q = 0 := by
  have e := det_on h
  have e' : det c d a b p q = 0 := by rw [det_rev]; omega
  unfold wE upB
  rw [ori_pos, ori_pos, e, e']
  split <;> simp [bi]
theorem wEi_on {ps : List (Int × Int)} {p q : Int} {e : Nat} (h : onE ps p q e = true) : wEi ps p q e = 0 := wE_on h
theorem det_line {a b c d x1 x2 y1 y2 : Int} (hne : ¬ (a = c ∧ b = d)) (hx : onB a b c d x1 x2 = true) (hy : onB a b c d y1 y2 = true) : det x1 x2 y1 y2 a b = 0 ∧ det x1 x2 y1 y2 c d = 0 := by
  have e1 := (on_iff.1 hx).2.2
  have e2 := (on_iff.1 hy).2.2
  by_cases k : c - a = 0
  · have k' : d - b ≠ 0 := by omega
    have r1 : (d - b) * det x1 x2 y1 y2 a b = 0 := by
      unfold det
      have m1 : (b - x2) * ((d - b) * (y1 - a)) = (b - x2) * ((c - a) * (y2 - b)) := by rw [e2]
      have m2 : (y2 - b) * ((d - b) * (x1 - a)) = (y2 - b) * ((c - a) * (x2 - b)) := by rw [e1]
      grind
    have r2 : (d - b) * det x1 x2 y1 y2 c d = 0 := by
      unfold det
      have m1 : (d - x2) * ((d - b) * (y1 - a)) = (d - x2) * ((c - a) * (y2 - b)) := by rw [e2]
      have m2 : (y2 - d) * ((d - b) * (x1 - a)) = (y2 - d) * ((c - a) * (x2 - b)) := by rw [e1]
      grind
    have := Int.mul_eq_zero.1 r1
    have := Int.mul_eq_zero.1 r2
    omega
  · have r1 : (c - a) * det x1 x2 y1 y2 a b = 0 := by
      unfold det
      have m1 : (y1 - a) * ((c - a) * (x2 - b)) = (y1 - a) * ((d - b) * (x1 - a)) := by rw [e1]
      have m2 : (x1 - a) * ((c - a) * (y2 - b)) = (x1 - a) * ((d - b) * (y1 - a)) := by rw [e2]
      grind
    have r2 : (c - a) * det x1 x2 y1 y2 c d = 0 := by
      unfold det
      have m1 : (y1 - c) * ((c - a) * (x2 - b)) = (y1 - c) * ((d - b) * (x1 - a)) := by rw [e1]
      have m2 : (x1 - c) * ((c - a) * (y2 - b)) = (x1 - c) * ((d - b) * (y1 - a)) := by rw [e2]
      grind
    have := Int.mul_eq_zero.1 r1
    have := Int.mul_eq_zero.1 r2
    omega
theorem inQ_zero {x1 x2 y1 y2 p q : Int} (h : det x1 x2 y1 y2 p q = 0) : inQ x1 x2 y1 y2 p q = false := by
  unfold inQ
  rw [h]
  simp
/-- A segment inside an edge meets no other edge. -/
theorem edge_free {ps : List (Int × Int)} (hs : Simp ps) {e : Nat} (he : e < ps.length) {y1 y2 z1 z2 : Int} (hy : InE ps e y1 y2) (hz : InE ps e z1 z2) {g : Nat} (hg : g < ps.length) (hne : g ≠ e) :
    segB (cx ps g) (cy ps g) (cx ps (nx ps.length g)) (cy ps (nx ps.length g)) y1 y2 z1 z2 = false := by
  obtain ⟨h1, h2, h3⟩ := hs
  obtain ⟨a1, a2, a3⟩ := hy
  obtain ⟨b1, b2, b3⟩ := hz
  by_cases k1 : nx ps.length e = g
  · subst k1
    exact seg_adj (h2 e he) a1 b1 a3 b3
  · by_cases k2 : nx ps.length g = e
    · have hgd := (h2 g hg).symm
      rw [k2] at hgd ⊢
      rw [← segB_rev1]
      exact seg_adj hgd (by rw [onB_rev]; exact a1) (by rw [onB_rev]; exact b1) a2 b2
    · exact seg_mono a1 b1 (h3 g e hg he ⟨hne, k2, k1⟩)
theorem edge_nd {ps : List (Int × Int)} (hs : Simp ps) {e : Nat} (he : e < ps.length) : ¬ (cx ps e = cx ps (nx ps.length e) ∧ cy ps e = cy ps (nx ps.length e)) := (hs.2.1 e he).ne1
/-- Claim A: inside an edge the winding number is the same everywhere. -/
theorem along {ps : List (Int × Int)} (hs : Simp ps) {e : Nat} (he : e < ps.length) {y1 y2 z1 z2 : Int} (hy : InE ps e y1 y2) (hz : InE ps e z1 z2) : wnd ps y1 y2 = wnd ps z1 z2 := by
  have nd := edge_nd hs he
  have up : ∀ {y1 y2 z1 z2 : Int}, InE ps e y1 y2 → InE ps e z1 z2 → y2 < z2 → wnd ps y1 y2 = wnd ps z1 z2 := fun {y1 y2 z1 z2} hy hz h => by
    have k := wnd_one ps e he h (fun i hi hne => edge_free hs he hy hz hi hne)
    have d := det_line nd hy.1 hz.1
    rw [wEi_on hy.1, wEi_on hz.1, inQ_zero d.1, inQ_zero d.2] at k
    omega
  rcases Int.lt_trichotomy y2 z2 with h | h | h
  · exact up hy hz h
  · subst h
    have k := wnd_flat1 ps e he (fun i hi hne => edge_free hs he hy hz hi hne)
    rw [wEi_on hy.1, wEi_on hz.1] at k
    omega
  · exact (up hz hy h).symm

theorem onE_sc {N : Int} (hN : 0 < N) (ps : List (Int × Int)) (p q : Int) (e : Nat) : onE (scL N ps) (N * p) (N * q) e = onE ps p q e := by
  unfold onE
  rw [scL_len, (scL_at N ps e).1, (scL_at N ps e).2, (scL_at N ps _).1, (scL_at N ps _).2, onB_sc hN]
theorem mul_ne2 {N x y p q : Int} (hN : 0 < N) (h : ¬ (p = x ∧ q = y)) : ¬ (N * p = N * x ∧ N * q = N * y) := fun ⟨e, f⟩ => h ⟨Int.eq_of_mul_eq_mul_left (by omega) e, Int.eq_of_mul_eq_mul_left (by omega) f⟩
theorem InE.sc {N : Int} (hN : 0 < N) {ps : List (Int × Int)} {e : Nat} {p q : Int} (h : InE ps e p q) : InE (scL N ps) e (N * p) (N * q) := by
  obtain ⟨a, b, c⟩ := h
  refine ⟨by rw [onE_sc hN]; exact a, ?_, ?_⟩
  · rw [(scL_at N ps e).1, (scL_at N ps e).2]; exact mul_ne2 hN b
  · rw [scL_len, (scL_at N ps _).1, (scL_at N ps _).2]; exact mul_ne2 hN c
/-- The value of an edge: the winding number at its middle. -/
def vE (ps : List (Int × Int)) (e : Nat) : Int := wnd (scL 2 ps) (cx ps e + cx ps (nx ps.length e)) (cy ps e + cy ps (nx ps.length e))
theorem mid_in {ps : List (Int × Int)} (hs : Simp ps) {e : Nat} (he : e < ps.length) : InE (scL 2 ps) e (cx ps e + cx ps (nx ps.length e)) (cy ps e + cy ps (nx ps.length e)) := by
  have nd := edge_nd hs he
  refine ⟨?_, ?_, ?_⟩
  · unfold onE
    rw [scL_len, (scL_at 2 ps e).1, (scL_at 2 ps e).2, (scL_at 2 ps _).1, (scL_at 2 ps _).2]
    exact on_mid (by omega) (by omega)
  · rw [(scL_at 2 ps e).1, (scL_at 2 ps e).2]; omega
  · rw [scL_len, (scL_at 2 ps _).1, (scL_at 2 ps _).2]; omega
/-- At every scale, inside edge e, the winding number is the edge's value. -/
theorem at_edge {ps : List (Int × Int)} (hs : Simp ps) {e : Nat} (he : e < ps.length) {N : Int} (hN : 0 < N) {p q : Int} (h : InE (scL N ps) e p q) : wnd (scL N ps) p q = vE ps e := by
  have k := along ((hs.sc hN).sc (N := 2) (by omega)) (e := e) (by rw [scL_len, scL_len]; exact he) (h.sc (N := 2) (by omega)) (z1 := N * (cx ps e + cx ps (nx ps.length e))) (z2 := N * (cy ps e + cy ps (nx ps.length e))) (by
    have := (mid_in hs he).sc hN
    rw [scL_scL] at this ⊢
    rwa [Int.mul_comm 2 N])
  rw [wnd_sc (by omega)] at k
  rw [k, scL_scL, Int.mul_comm 2 N, ← scL_scL, wnd_sc hN]
  rfl
theorem ex_all {P : Nat → Prop} {R : Nat → Int → Prop} : ∀ n : Nat, (∀ i, i < n → P i → ∃ N0 : Int, ∀ N, N0 ≤ N → 0 < N → R i N) → ∃ N0 : Int, ∀ N, N0 ≤ N → 0 < N → ∀ i, i < n → P i → R i N
  | 0, _ => ⟨0, fun _ _ _ i h => by omega⟩
  | n + 1, h => by
    obtain ⟨M, hM⟩ := ex_all n (fun i hi => h i (by omega))
    by_cases hp : P n
    · obtain ⟨L, hL⟩ := h n (by omega) hp
      refine ⟨mxI M L, fun N hN h0 i hi hpi => ?_⟩
      have b := (mxI_bd M L).1
      by_cases e : i = n
      · subst e; exact hL N (by omega) h0
      · exact hM N (by omega) h0 i (by omega) hpi
    · exact ⟨M, fun N hN h0 i hi hpi => by
        by_cases e : i = n
        · subst e; exact absurd hpi hp
        · exact hM N hN h0 i (by omega) hpi⟩
/-- A corner lies on no edge but its own two. -/
theorem corner_off {ps : List (Int × Int)} (hs : Simp ps) {e : Nat} (he : e < ps.length) {g : Nat} (hg : g < ps.length) (h1 : g ≠ e) (h2 : g ≠ nx ps.length e) : onE ps (cx ps (nx ps.length e)) (cy ps (nx ps.length e)) g = false := by
  cases k : onE ps (cx ps (nx ps.length e)) (cy ps (nx ps.length e)) g with
  | false => rfl
  | true =>
    exfalso
    by_cases k2 : nx ps.length g = e
    · have gd := hs.2.1 g hg
      have k' := k
      unfold onE at k'
      rw [k2] at gd k'
      obtain ⟨e1, e2⟩ := adj_pt gd k' on_last
      exact edge_nd hs he ⟨e1.symm, e2.symm⟩
    · have := hs.2.2 g e hg he ⟨h1, k2, fun q => h2 q.symm⟩
      unfold segE at this
      rw [seg_common k on_last] at this
      cases this
/-- Does the edge go down, or to the right? -/
def dnE (a b c d : Int) : Int := if d < b ∨ (b = d ∧ a < c) then 1 else 0
def dnEi (ps : List (Int × Int)) (i : Nat) : Int := dnE (cx ps i) (cy ps i) (cx ps (nx ps.length i)) (cy ps (nx ps.length i))
end Go.Proofs.YtalhkcmlacppjaaDoor


namespace Go.Proofs.YtalhkcmlacppjaaDoor
open Go.ChangeShapes Go.WideShapes Go.ChangeAt Go.RowKit
set_option linter.unusedVariables false
set_option linter.unusedSimpArgs false

theorem dec_sc {N x : Int} (hN : 0 < N) : decide (0 < N * x) = decide (0 < x) := by
  rw [decide_eq_decide]
  have := lt_sc hN 0 x
  rwa [Int.mul_zero] at this
theorem sc_le {N x : Int} (hN : 0 < N) (h : x < 0) : N * x ≤ -N := by
  have : N * x ≤ N * (-1) := Int.mul_le_mul_of_nonneg_left (by omega) (by omega)
  omega
theorem sc_ge {N x : Int} (hN : 0 < N) (h : 0 < x) : N ≤ N * x := by
  have : N * 1 ≤ N * x := Int.mul_le_mul_of_nonneg_left (by omega) (by omega)
  omega
section
variable {N A1 A2 C1 C2 : Int} (hN : 2 ≤ N)
include hN
theorem valU (hA : -N < A2 ∧ A2 < N) : wE 0 0 (N * C1) (N * C2) A1 A2 = if C2 < 0 then -bi (decide (A2 < 0) && decide (0 < A1 * C2 - A2 * C1)) else if 0 < C2 then bi (decide (0 ≤ A2) && decide (0 < A2 * C1 - A1 * C2)) else 0 := by
  have d1 : det (N * C1) (N * C2) 0 0 A1 A2 = N * (A1 * C2 - A2 * C1) := by unfold det; grind
  have d2 : det 0 0 (N * C1) (N * C2) A1 A2 = N * (A2 * C1 - A1 * C2) := by unfold det; grind
  unfold wE upB
  rw [ori_pos, ori_pos, d1, d2, dec_sc (by omega), dec_sc (by omega)]
  rcases Int.lt_trichotomy C2 0 with g | g | g
  · have := sc_le (N := N) (by omega) g
    rw [if_pos (by omega), if_pos g, decide_eq_true (show N * C2 ≤ A2 by omega), Bool.true_and]
  · subst g
    rw [Int.mul_zero, if_neg (by omega), if_neg (by omega), if_neg (by omega)]
    by_cases h : 0 ≤ A2
    · rw [decide_eq_false (show ¬ A2 < 0 by omega)]; simp [bi]
    · rw [decide_eq_false h]; simp [bi]
  · have := sc_ge (N := N) (by omega) g
    rw [if_neg (by omega), if_neg (by omega), if_pos g, decide_eq_true (show A2 < N * C2 by omega), Bool.and_true]
theorem valT (hC : -N < C2 ∧ C2 < N) : wE (N * A1) (N * A2) 0 0 C1 C2 = if 0 < A2 then -bi (decide (0 ≤ C2) && decide (0 < A1 * C2 - A2 * C1)) else if A2 < 0 then bi (decide (C2 < 0) && decide (0 < A2 * C1 - A1 * C2)) else 0 := by
  have d1 : det (N * A1) (N * A2) 0 0 C1 C2 = N * (A2 * C1 - A1 * C2) := by unfold det; grind
  have d2 : det 0 0 (N * A1) (N * A2) C1 C2 = N * (A1 * C2 - A2 * C1) := by unfold det; grind
  unfold wE upB
  rw [ori_pos, ori_pos, d1, d2, dec_sc (by omega), dec_sc (by omega)]
  rcases Int.lt_trichotomy A2 0 with g | g | g
  · have := sc_le (N := N) (by omega) g
    rw [if_neg (by omega), if_neg (by omega), if_pos g, decide_eq_true (show N * A2 ≤ C2 by omega), Bool.true_and]
  · subst g
    rw [Int.mul_zero, if_neg (by omega), if_neg (by omega), if_neg (by omega)]
    by_cases h : 0 ≤ C2
    · rw [decide_eq_false (show ¬ C2 < 0 by omega)]; simp [bi]
    · rw [decide_eq_false h]; simp [bi]
  · have := sc_ge (N := N) (by omega) g
    rw [if_pos (by omega), if_pos g, decide_eq_true (show C2 < N * A2 by omega), Bool.and_true]
/-- Q of the far ends: of a's. -/
theorem valQ1 (h : A2 < C2) (hC : -N < C2 ∧ C2 < N) : inQ A1 A2 C1 C2 (N * A1) (N * A2) = false := by
  unfold inQ
  rcases Int.lt_trichotomy A2 0 with g | g | g
  · have : (N - 1) * A2 ≤ -(N - 1) := sc_le (by omega) g
    have e : (N - 1) * A2 = N * A2 - A2 := by grind
    rw [decide_eq_false (by omega)]; rfl
  · subst g
    rw [Int.mul_zero, decide_eq_false (show ¬ (0 : Int) < 0 by omega)]; rfl
  · have := sc_ge (N := N) (by omega) g
    rw [decide_eq_false (show ¬ N * A2 ≤ C2 by omega)]; simp
theorem valQ2 (h : A2 < C2) (hA : -N < A2 ∧ A2 < N) : inQ A1 A2 C1 C2 (N * C1) (N * C2) = decide (C2 = 0 ∧ 0 < C1) := by
  unfold inQ
  rcases Int.lt_trichotomy C2 0 with g | g | g
  · have := sc_le (N := N) (by omega) g
    rw [decide_eq_false (show ¬ A2 < N * C2 by omega), decide_eq_false (show ¬ (C2 = 0 ∧ 0 < C1) by omega)]; rfl
  · subst g
    have e : det A1 A2 C1 0 (N * C1) (N * 0) = (N - 1) * (A2 * C1) := by unfold det; grind
    rw [e, Int.mul_zero, decide_eq_true h, decide_eq_true (show (0 : Int) ≤ 0 by omega), Bool.true_and, Bool.true_and, decide_eq_decide]
    constructor
    · intro k
      refine ⟨rfl, ?_⟩
      have : 0 < (N - 1) * (-(A2 * C1)) := by rw [Int.mul_neg]; omega
      have := pos_of (x := -(A2 * C1)) (y := N - 1) (by omega) (by rw [Int.mul_comm]; exact this)
      exact pos_of (y := -A2) (by omega) (by rw [Int.mul_neg, Int.mul_comm]; exact this)
    · rintro ⟨_, k⟩
      exact pn (by omega) (np h k)
  · have : N ≤ N * C2 := sc_ge (by omega) g
    have k : (N - 1) * 1 ≤ (N - 1) * C2 := Int.mul_le_mul_of_nonneg_left (by omega) (by omega)
    have e : (N - 1) * C2 = N * C2 - C2 := by grind
    rw [decide_eq_false (show ¬ N * C2 ≤ C2 by omega), decide_eq_false (show ¬ (C2 = 0 ∧ 0 < C1) by omega)]; simp
end
theorem gd_side {A1 A2 C1 C2 : Int} (h : 0 < A2 * C2) (g : A1 * C2 - A2 * C1 ≠ 0 ∨ A1 * C1 + A2 * C2 < 0) : A1 * C2 - A2 * C1 ≠ 0 := by
  rcases g with g | g
  · exact g
  · intro e
    have hc : C2 ≠ 0 := fun k => by rw [k, Int.mul_zero] at h; omega
    have k : (A1 * C1 + A2 * C2) * (C2 * C2) = (A2 * C2) * (C1 * C1 + C2 * C2) := by
      have : (A1 * C2) * (C1 * C2) = (A2 * C1) * (C1 * C2) := by rw [show A1 * C2 = A2 * C1 by omega]
      grind
    have q := sq_pos hc
    have q' := sq_nn C1
    have l := np g q
    have r := pp h (show 0 < C1 * C1 + C2 * C2 by omega)
    omega
theorem mul_dec {x y : Int} (hy : 0 < y) : decide (0 < x * y) = decide (0 < x) := by
  rw [decide_eq_decide]
  exact ⟨pos_of hy, fun h => pp h hy⟩
/-- Round a corner: what the two edges say. -/
theorem corner_UT {A1 A2 C1 C2 : Int} (hg : A1 * C2 - A2 * C1 ≠ 0 ∨ A1 * C1 + A2 * C2 < 0) :
    (if C2 < 0 then -bi (decide (A2 < 0) && decide (0 < A1 * C2 - A2 * C1)) else if 0 < C2 then bi (decide (0 ≤ A2) && decide (0 < A2 * C1 - A1 * C2)) else 0)
    - (if 0 < A2 then -bi (decide (0 ≤ C2) && decide (0 < A1 * C2 - A2 * C1)) else if A2 < 0 then bi (decide (C2 < 0) && decide (0 < A2 * C1 - A1 * C2)) else 0)
    - (if A2 < C2 then bi (decide (C2 = 0 ∧ 0 < C1)) else 0) - (if C2 < A2 then bi (decide (A2 = 0 ∧ 0 < A1)) else 0) = dnE A1 A2 0 0 - dnE 0 0 C1 C2 := by
  have bt : bi true = 1 := rfl
  have bf : bi false = 0 := rfl
  have two : ∀ x : Int, x ≠ 0 → bi (decide (0 < x)) + bi (decide (0 < -x)) = 1 := fun x hx => by
    rcases Int.lt_or_gt_of_ne hx with k | k
    · rw [decide_eq_false (by omega), decide_eq_true (by omega)]; rfl
    · rw [decide_eq_true (by omega), decide_eq_false (by omega)]; rfl
  have eneg : A2 * C1 - A1 * C2 = -(A1 * C2 - A2 * C1) := by omega
  unfold dnE
  rcases Int.lt_trichotomy A2 0 with a | a | a <;> rcases Int.lt_trichotomy C2 0 with c | c | c
  · have hd := two _ (gd_side (nn a c) hg)
    rw [eneg]
    rw [if_pos c, if_neg (by omega), if_pos a, decide_eq_true a, decide_eq_true c, Bool.true_and, Bool.true_and, decide_eq_false (show ¬ (C2 = 0 ∧ 0 < C1) by omega), decide_eq_false (show ¬ (A2 = 0 ∧ 0 < A1) by omega), bf, if_neg (show ¬ (0 < A2 ∨ A2 = 0 ∧ A1 < 0) by omega), if_pos (show C2 < 0 ∨ 0 = C2 ∧ 0 < C1 by omega)]
    split <;> split <;> omega
  · subst c
    rw [if_neg (by omega), if_neg (by omega), if_neg (by omega), if_pos a, decide_eq_false (show ¬ (0 : Int) < 0 by omega), Bool.false_and, bf, if_pos a, if_neg (show ¬ 0 < A2 by omega), if_neg (show ¬ (0 < A2 ∨ A2 = 0 ∧ A1 < 0) by omega)]
    by_cases k : 0 < C1
    · rw [decide_eq_true ⟨rfl, k⟩, bt, if_pos (by omega)]; omega
    · rw [decide_eq_false (by omega), bf, if_neg (by omega)]; omega
  · rw [if_neg (by omega), if_pos c, if_neg (by omega), if_pos a, decide_eq_false (show ¬ 0 ≤ A2 by omega), decide_eq_false (show ¬ C2 < 0 by omega), Bool.false_and, bf]
    rw [decide_eq_false (show ¬ (C2 = 0 ∧ 0 < C1) by omega), bf, if_neg (show ¬ C2 < A2 by omega), if_neg (show ¬ (0 < A2 ∨ A2 = 0 ∧ A1 < 0) by omega), if_neg (show ¬ (C2 < 0 ∨ 0 = C2 ∧ 0 < C1) by omega)]
    simp
  · subst a
    rw [if_pos c, decide_eq_false (show ¬ (0 : Int) < 0 by omega), Bool.false_and, bf, if_neg (show ¬ (0 : Int) < 0 by omega), if_neg (show ¬ (0 : Int) < 0 by omega), if_neg (show ¬ 0 < C2 by omega), if_pos c, if_pos (show C2 < 0 ∨ 0 = C2 ∧ 0 < C1 by omega)]
    have ha : A1 ≠ 0 := fun e => by rw [e] at hg; simp at hg
    by_cases k : 0 < A1
    · rw [decide_eq_true ⟨rfl, k⟩, bt, if_neg (by omega)]; omega
    · rw [decide_eq_false (by omega), bf, if_pos (by omega)]; omega
  · subst a c
    have hg' : A1 * C1 < 0 := by
      rcases hg with hg | hg
      · exact absurd (by simp) hg
      · simpa using hg
    by_cases k : 0 < A1
    · have : C1 < 0 := by
        rcases Int.lt_or_le C1 0 with q | q
        · exact q
        · have := zz (show 0 ≤ A1 by omega) q; omega
      rw [if_neg (show ¬ ((0 : Int) < 0 ∨ (0 : Int) = 0 ∧ A1 < 0) by omega), if_neg (show ¬ ((0 : Int) < 0 ∨ (0 : Int) = 0 ∧ 0 < C1) by omega)]
      simp
    · have k1 : A1 < 0 := by
        rcases Int.lt_or_eq_of_le (show A1 ≤ 0 by omega) with q | q
        · exact q
        · rw [q, Int.zero_mul] at hg'; omega
      have : 0 < C1 := by
        rcases Int.lt_or_le 0 C1 with q | q
        · exact q
        · have := Int.mul_nonneg_of_nonpos_of_nonpos (show A1 ≤ 0 by omega) q; omega
      rw [if_pos (show (0 : Int) < 0 ∨ (0 : Int) = 0 ∧ A1 < 0 by omega), if_pos (show (0 : Int) < 0 ∨ (0 : Int) = 0 ∧ 0 < C1 by omega)]
      simp
  · subst a
    have e : (0 : Int) * C1 - A1 * C2 = -A1 * C2 := by grind
    rw [e, mul_dec c]
    rw [if_neg (by omega), if_pos c, decide_eq_true (show (0 : Int) ≤ 0 by omega), Bool.true_and, if_neg (show ¬ (0 : Int) < 0 by omega), if_neg (show ¬ (0 : Int) < 0 by omega), if_pos c, decide_eq_false (show ¬ (C2 = 0 ∧ 0 < C1) by omega), bf, if_neg (show ¬ C2 < 0 by omega), if_neg (show ¬ (C2 < 0 ∨ 0 = C2 ∧ 0 < C1) by omega)]
    by_cases k : A1 < 0
    · rw [decide_eq_true (by omega), bt, if_pos (by omega)]; omega
    · rw [decide_eq_false (by omega), bf, if_neg (by omega)]; omega
  · rw [if_pos c, decide_eq_false (show ¬ A2 < 0 by omega), Bool.false_and, bf, if_pos a, decide_eq_false (show ¬ 0 ≤ C2 by omega), Bool.false_and, bf, if_neg (show ¬ A2 < C2 by omega), if_pos (show C2 < A2 by omega), decide_eq_false (show ¬ (A2 = 0 ∧ 0 < A1) by omega), bf, if_pos (show 0 < A2 ∨ A2 = 0 ∧ A1 < 0 by omega), if_pos (show C2 < 0 ∨ 0 = C2 ∧ 0 < C1 by omega)]
    omega
  · subst c
    have hc : C1 ≠ 0 := fun e => by rw [e] at hg; simp at hg
    have e : A1 * 0 - A2 * C1 = -C1 * A2 := by grind
    rw [e, mul_dec a]
    rw [if_neg (by omega), if_neg (by omega), if_pos a, decide_eq_true (show (0 : Int) ≤ 0 by omega), Bool.true_and, if_neg (show ¬ A2 < 0 by omega), if_pos a, decide_eq_false (show ¬ (A2 = 0 ∧ 0 < A1) by omega), bf, if_pos (show 0 < A2 ∨ A2 = 0 ∧ A1 < 0 by omega)]
    by_cases k : 0 < C1
    · rw [decide_eq_false (by omega), bf, if_pos (by omega)]; omega
    · rw [decide_eq_true (by omega), bt, if_neg (by omega)]; omega
  · have hd := two _ (gd_side (pp a c) hg)
    rw [eneg]
    rw [if_neg (by omega), if_pos c, if_pos a, decide_eq_true (show 0 ≤ A2 by omega), decide_eq_true (show 0 ≤ C2 by omega), Bool.true_and, Bool.true_and, decide_eq_false (show ¬ (C2 = 0 ∧ 0 < C1) by omega), decide_eq_false (show ¬ (A2 = 0 ∧ 0 < A1) by omega), bf, if_pos (show 0 < A2 ∨ A2 = 0 ∧ A1 < 0 by omega), if_neg (show ¬ (C2 < 0 ∨ 0 = C2 ∧ 0 < C1) by omega)]
    split <;> split <;> omega
end Go.Proofs.YtalhkcmlacppjaaDoor


namespace Go.Proofs.YtalhkcmlacppjaaDoor
open Go.ChangeShapes Go.WideShapes Go.ChangeAt Go.RowKit
set_option linter.unusedVariables false
set_option linter.unusedSimpArgs false

theorem wE_mov (a b c d p q u v : Int) : wE (a + u) (b + v) (c + u) (d + v) (p + u) (q + v) = wE a b c d p q := by
  unfold wE
  rw [upB_mov, upB_mov]
  by_cases h : d < b
  · rw [if_pos h, if_pos (by omega)]
  · rw [if_neg h, if_neg (by omega)]
theorem inQ_mov (x1 x2 y1 y2 p q u v : Int) : inQ (x1 + u) (x2 + v) (y1 + u) (y2 + v) (p + u) (q + v) = inQ x1 x2 y1 y2 p q := by
  have e : det (x1 + u) (x2 + v) (y1 + u) (y2 + v) (p + u) (q + v) = det x1 x2 y1 y2 p q := by unfold det; grind
  unfold inQ
  rw [e, lt_mov, le_mov]
theorem btw_near {N A : Int} (hN : 2 ≤ N) (B : Int) : Btw (N * A + B) B (A + B) := by
  unfold Btw
  rcases Int.le_total 0 A with g | g
  · have : 1 * A ≤ N * A := Int.mul_le_mul_of_nonneg_right (by omega) g
    right; omega
  · have : N * A ≤ 1 * A := Int.mul_le_mul_of_nonpos_right (by omega) g
    left; omega
theorem on_near {N A1 A2 B1 B2 : Int} (hN : 2 ≤ N) : onB (N * A1 + B1) (N * A2 + B2) B1 B2 (A1 + B1) (A2 + B2) = true :=
  on_iff.2 ⟨btw_near hN B1, btw_near hN B2, by grind⟩
theorem near_ne {N A1 A2 B1 B2 : Int} (hN : 2 ≤ N) (h : ¬ (A1 = 0 ∧ A2 = 0)) : ¬ (A1 + B1 = N * A1 + B1 ∧ A2 + B2 = N * A2 + B2) := by
  rintro ⟨e1, e2⟩
  have k1 : (N - 1) * A1 = 0 := by have : (N - 1) * A1 = N * A1 - A1 := by grind
                                   omega
  have k2 : (N - 1) * A2 = 0 := by have : (N - 1) * A2 = N * A2 - A2 := by grind
                                   omega
  have := Int.mul_eq_zero.1 k1
  have := Int.mul_eq_zero.1 k2
  omega
theorem gd_rel {a1 a2 b1 b2 c1 c2 : Int} (h : Gd a1 a2 b1 b2 c1 c2) : (a1 - b1) * (c2 - b2) - (a2 - b2) * (c1 - b1) ≠ 0 ∨ (a1 - b1) * (c1 - b1) + (a2 - b2) * (c2 - b2) < 0 := by
  rcases h with h | h
  · left
    have : det a1 a2 b1 b2 c1 c2 = -((a1 - b1) * (c2 - b2) - (a2 - b2) * (c1 - b1)) := by unfold det; grind
    omega
  · exact .inr h
theorem dn_rel (a b c d : Int) : dnE a b c d = dnE (a - c) (b - d) 0 0 := by
  unfold dnE
  by_cases h : d < b ∨ b = d ∧ a < c
  · rw [if_pos h, if_pos (by omega)]
  · rw [if_neg h, if_neg (by omega)]
theorem dn_rel' (a b c d : Int) : dnE a b c d = dnE 0 0 (c - a) (d - b) := by
  unfold dnE
  by_cases h : d < b ∨ b = d ∧ a < c
  · rw [if_pos h, if_pos (by omega)]
  · rw [if_neg h, if_neg (by omega)]
/-- The corner behind edge e, near by: a point on e, a point on the next edge. -/
theorem near_in {ps : List (Int × Int)} (hs : Simp ps) {e : Nat} (he : e < ps.length) {N : Int} (hN : 2 ≤ N) :
    InE (scL N ps) e ((cx ps e - cx ps (nx ps.length e)) + N * cx ps (nx ps.length e)) ((cy ps e - cy ps (nx ps.length e)) + N * cy ps (nx ps.length e)) := by
  have nd := edge_nd hs he
  have k1 : N * cx ps e = N * (cx ps e - cx ps (nx ps.length e)) + N * cx ps (nx ps.length e) := by grind
  have k2 : N * cy ps e = N * (cy ps e - cy ps (nx ps.length e)) + N * cy ps (nx ps.length e) := by grind
  refine ⟨?_, ?_, ?_⟩
  · unfold onE
    rw [scL_len, (scL_at N ps e).1, (scL_at N ps e).2, (scL_at N ps _).1, (scL_at N ps _).2, k1, k2]
    exact on_near hN
  · rw [(scL_at N ps e).1, (scL_at N ps e).2, k1, k2]
    exact near_ne hN (by omega)
  · rw [scL_len, (scL_at N ps _).1, (scL_at N ps _).2]
    omega
theorem near_in' {ps : List (Int × Int)} (hs : Simp ps) {f : Nat} (hf : f < ps.length) {N : Int} (hN : 2 ≤ N) :
    InE (scL N ps) f ((cx ps (nx ps.length f) - cx ps f) + N * cx ps f) ((cy ps (nx ps.length f) - cy ps f) + N * cy ps f) := by
  have nd := edge_nd hs hf
  have k1 : N * cx ps (nx ps.length f) = N * (cx ps (nx ps.length f) - cx ps f) + N * cx ps f := by grind
  have k2 : N * cy ps (nx ps.length f) = N * (cy ps (nx ps.length f) - cy ps f) + N * cy ps f := by grind
  refine ⟨?_, ?_, ?_⟩
  · unfold onE
    rw [scL_len, (scL_at N ps f).1, (scL_at N ps f).2, (scL_at N ps _).1, (scL_at N ps _).2, k1, k2, ← onB_rev]
    exact on_near hN
  · rw [(scL_at N ps f).1, (scL_at N ps f).2]
    omega
  · rw [scL_len, (scL_at N ps _).1, (scL_at N ps _).2, k1, k2]
    exact near_ne hN (by omega)
/-- Claim B: from an edge to the next. -/
theorem corner_step {ps : List (Int × Int)} (hs : Simp ps) {e : Nat} (he : e < ps.length) : vE ps e - vE ps (nx ps.length e) = dnEi ps e - dnEi ps (nx ps.length e) := by
  have hf := nx_lt' he
  have hef : e ≠ nx ps.length e := fun h => nx_ne (by have := hs.1; omega) he h.symm
  obtain ⟨N0, hN0⟩ := ex_all (P := fun g => g ≠ e ∧ g ≠ nx ps.length e) (R := fun g N => segB (N * cx ps g) (N * cy ps g) (N * cx ps (nx ps.length g)) (N * cy ps (nx ps.length g)) (N * cx ps (nx ps.length e) + (cx ps e - cx ps (nx ps.length e))) (N * cy ps (nx ps.length e) + (cy ps e - cy ps (nx ps.length e))) (N * cx ps (nx ps.length e) + (cx ps (nx ps.length (nx ps.length e)) - cx ps (nx ps.length e))) (N * cy ps (nx ps.length e) + (cy ps (nx ps.length (nx ps.length e)) - cy ps (nx ps.length e))) = false) ps.length (fun g hg hp => far_seg (corner_off hs he hg hp.1 hp.2) _ _ _ _)
  have hgd := gd_rel (hs.2.1 e he)
  obtain ⟨N, hN, hNN, ha, hc⟩ : ∃ N : Int, 2 ≤ N ∧ N0 ≤ N ∧ (-N < cy ps e - cy ps (nx ps.length e) ∧ cy ps e - cy ps (nx ps.length e) < N) ∧ (-N < cy ps (nx ps.length (nx ps.length e)) - cy ps (nx ps.length e) ∧ cy ps (nx ps.length (nx ps.length e)) - cy ps (nx ps.length e) < N) := ⟨N0.natAbs + (cy ps e - cy ps (nx ps.length e)).natAbs + (cy ps (nx ps.length (nx ps.length e)) - cy ps (nx ps.length e)).natAbs + 2, by omega⟩
  have hfree := hN0 N hNN (by omega)
  have yin := near_in hs he hN
  have zin := near_in' hs hf hN
  have ly := at_edge hs he (by omega) yin
  have lz := at_edge hs hf (by omega) zin
  rw [← ly, ← lz]
  clear ly lz hN0 hNN
  have he' : e < (scL N ps).length := by rw [scL_len]; exact he
  have hf' : nx ps.length e < (scL N ps).length := by rw [scL_len]; exact hf
  have w1 := wEi_on yin.1
  have w2 := wEi_on zin.1
  have ka1 : N * cx ps e = N * (cx ps e - cx ps (nx ps.length e)) + N * cx ps (nx ps.length e) := by grind
  have ka2 : N * cy ps e = N * (cy ps e - cy ps (nx ps.length e)) + N * cy ps (nx ps.length e) := by grind
  have kc1 : N * cx ps (nx ps.length (nx ps.length e)) = N * (cx ps (nx ps.length (nx ps.length e)) - cx ps (nx ps.length e)) + N * cx ps (nx ps.length e) := by grind
  have kc2 : N * cy ps (nx ps.length (nx ps.length e)) = N * (cy ps (nx ps.length (nx ps.length e)) - cy ps (nx ps.length e)) + N * cy ps (nx ps.length e) := by grind
  have U := valU (C1 := cx ps (nx ps.length (nx ps.length e)) - cx ps (nx ps.length e)) (C2 := cy ps (nx ps.length (nx ps.length e)) - cy ps (nx ps.length e)) (A1 := cx ps e - cx ps (nx ps.length e)) hN ha
  have T := valT (A1 := cx ps e - cx ps (nx ps.length e)) (A2 := cy ps e - cy ps (nx ps.length e)) (C1 := cx ps (nx ps.length (nx ps.length e)) - cx ps (nx ps.length e)) hN hc
  have hU : wEi (scL N ps) (cx ps e - cx ps (nx ps.length e) + N * cx ps (nx ps.length e)) (cy ps e - cy ps (nx ps.length e) + N * cy ps (nx ps.length e)) (nx ps.length e) = wE 0 0 (N * (cx ps (nx ps.length (nx ps.length e)) - cx ps (nx ps.length e))) (N * (cy ps (nx ps.length (nx ps.length e)) - cy ps (nx ps.length e))) (cx ps e - cx ps (nx ps.length e)) (cy ps e - cy ps (nx ps.length e)) := by
    unfold wEi
    rw [scL_len, (scL_at N ps _).1, (scL_at N ps _).2, (scL_at N ps _).1, (scL_at N ps _).2, kc1, kc2, ← wE_mov 0 0 _ _ _ _ (N * cx ps (nx ps.length e)) (N * cy ps (nx ps.length e)), Int.zero_add, Int.zero_add]
  have hT : wEi (scL N ps) (cx ps (nx ps.length (nx ps.length e)) - cx ps (nx ps.length e) + N * cx ps (nx ps.length e)) (cy ps (nx ps.length (nx ps.length e)) - cy ps (nx ps.length e) + N * cy ps (nx ps.length e)) e = wE (N * (cx ps e - cx ps (nx ps.length e))) (N * (cy ps e - cy ps (nx ps.length e))) 0 0 (cx ps (nx ps.length (nx ps.length e)) - cx ps (nx ps.length e)) (cy ps (nx ps.length (nx ps.length e)) - cy ps (nx ps.length e)) := by
    unfold wEi
    rw [scL_len, (scL_at N ps e).1, (scL_at N ps e).2, (scL_at N ps _).1, (scL_at N ps _).2, ka1, ka2, ← wE_mov _ _ 0 0 _ _ (N * cx ps (nx ps.length e)) (N * cy ps (nx ps.length e)), Int.zero_add, Int.zero_add]
  have key := corner_UT hgd
  rw [← U, ← T] at key
  rw [← dn_rel, ← dn_rel'] at key
  unfold dnEi
  rw [← key]
  have seg : ∀ i, i < (scL N ps).length → i ≠ e → i ≠ nx ps.length e → segB (cx (scL N ps) i) (cy (scL N ps) i) (cx (scL N ps) (nx (scL N ps).length i)) (cy (scL N ps) (nx (scL N ps).length i)) (cx ps e - cx ps (nx ps.length e) + N * cx ps (nx ps.length e)) (cy ps e - cy ps (nx ps.length e) + N * cy ps (nx ps.length e)) (cx ps (nx ps.length (nx ps.length e)) - cx ps (nx ps.length e) + N * cx ps (nx ps.length e)) (cy ps (nx ps.length (nx ps.length e)) - cy ps (nx ps.length e) + N * cy ps (nx ps.length e)) = false := fun i hi h1 h2 => by
    rw [scL_len] at hi ⊢
    have := hfree i hi ⟨h1, h2⟩
    rw [(scL_at N ps i).1, (scL_at N ps i).2, (scL_at N ps _).1, (scL_at N ps _).2]
    rwa [Int.add_comm (N * cx ps (nx ps.length e)), Int.add_comm (N * cy ps (nx ps.length e)), Int.add_comm (N * cx ps (nx ps.length e)), Int.add_comm (N * cy ps (nx ps.length e))] at this
  have cen1 : cx (scL N ps) (nx (scL N ps).length e) = N * cx ps (nx ps.length e) := by rw [scL_len]; exact (scL_at N ps _).1
  have cen2 : cy (scL N ps) (nx (scL N ps).length e) = N * cy ps (nx ps.length e) := by rw [scL_len]; exact (scL_at N ps _).2
  have cfn1 : cx (scL N ps) (nx (scL N ps).length (nx ps.length e)) = N * cx ps (nx ps.length (nx ps.length e)) := by rw [scL_len]; exact (scL_at N ps _).1
  have cfn2 : cy (scL N ps) (nx (scL N ps).length (nx ps.length e)) = N * cy ps (nx ps.length (nx ps.length e)) := by rw [scL_len]; exact (scL_at N ps _).2
  rcases Int.lt_trichotomy (cy ps e - cy ps (nx ps.length e)) (cy ps (nx ps.length (nx ps.length e)) - cy ps (nx ps.length e)) with h | h | h
  · have k := wnd_two (scL N ps) e (nx ps.length e) hef he' hf' (show cy ps e - cy ps (nx ps.length e) + N * cy ps (nx ps.length e) < cy ps (nx ps.length (nx ps.length e)) - cy ps (nx ps.length e) + N * cy ps (nx ps.length e) by omega) seg
    rw [w1, w2, hU, hT, cen1, cen2, cfn1, cfn2, (scL_at N ps e).1, (scL_at N ps e).2, (scL_at N ps (nx ps.length e)).1, (scL_at N ps (nx ps.length e)).2] at k
    have q1 : inQ (cx ps e - cx ps (nx ps.length e) + N * cx ps (nx ps.length e)) (cy ps e - cy ps (nx ps.length e) + N * cy ps (nx ps.length e)) (cx ps (nx ps.length (nx ps.length e)) - cx ps (nx ps.length e) + N * cx ps (nx ps.length e)) (cy ps (nx ps.length (nx ps.length e)) - cy ps (nx ps.length e) + N * cy ps (nx ps.length e)) (N * cx ps e) (N * cy ps e) = false := by
      rw [ka1, ka2, inQ_mov]; exact valQ1 hN h hc
    have q2 := valQ2 (A1 := cx ps e - cx ps (nx ps.length e)) (C1 := cx ps (nx ps.length (nx ps.length e)) - cx ps (nx ps.length e)) hN h ha
    rw [← inQ_mov _ _ _ _ _ _ (N * cx ps (nx ps.length e)) (N * cy ps (nx ps.length e)), ← kc1, ← kc2] at q2
    rw [q1, q2, show bi false = 0 from rfl] at k
    rw [if_pos h, if_neg (by omega)]
    omega
  · rw [if_neg (by omega), if_neg (by omega)]
    have seg' := seg
    rw [← h] at seg' ⊢
    have k := wnd_flat2 (scL N ps) e (nx ps.length e) hef he' hf' seg'
    rw [← h] at w2 hT hU
    rw [w1, w2, hU, hT] at k
    omega
  · have k := wnd_two (scL N ps) e (nx ps.length e) hef he' hf' (show cy ps (nx ps.length (nx ps.length e)) - cy ps (nx ps.length e) + N * cy ps (nx ps.length e) < cy ps e - cy ps (nx ps.length e) + N * cy ps (nx ps.length e) by omega) (fun i hi h1 h2 => by rw [segB_rev2]; exact seg i hi h1 h2)
    rw [w1, w2, hU, hT, cen1, cen2, cfn1, cfn2, (scL_at N ps e).1, (scL_at N ps e).2, (scL_at N ps (nx ps.length e)).1, (scL_at N ps (nx ps.length e)).2] at k
    have q1 : inQ (cx ps (nx ps.length (nx ps.length e)) - cx ps (nx ps.length e) + N * cx ps (nx ps.length e)) (cy ps (nx ps.length (nx ps.length e)) - cy ps (nx ps.length e) + N * cy ps (nx ps.length e)) (cx ps e - cx ps (nx ps.length e) + N * cx ps (nx ps.length e)) (cy ps e - cy ps (nx ps.length e) + N * cy ps (nx ps.length e)) (N * cx ps (nx ps.length (nx ps.length e))) (N * cy ps (nx ps.length (nx ps.length e))) = false := by
      rw [kc1, kc2, inQ_mov]; exact valQ1 hN h ha
    have q2 := valQ2 (A1 := cx ps (nx ps.length (nx ps.length e)) - cx ps (nx ps.length e)) (C1 := cx ps e - cx ps (nx ps.length e)) hN h hc
    rw [← inQ_mov _ _ _ _ _ _ (N * cx ps (nx ps.length e)) (N * cy ps (nx ps.length e)), ← ka1, ← ka2] at q2
    rw [q1, q2, show bi false = 0 from rfl] at k
    rw [if_neg (by omega), if_pos h]
    omega
/-- All edges have one value, but for their direction. -/
theorem edges_val {ps : List (Int × Int)} (hs : Simp ps) : ∃ R : Int, ∀ e, e < ps.length → vE ps e = R + dnEi ps e := by
  refine ⟨vE ps 0 - dnEi ps 0, fun e => ?_⟩
  induction e with
  | zero => intro _; omega
  | succ e ih =>
    intro he
    have h := ih (by omega)
    have k := corner_step hs (show e < ps.length by omega)
    rw [nx_small he] at k
    omega
/-- Above all corners, or as high as the highest, the winding number is nought. -/
theorem wnd_top (ps : List (Int × Int)) (p q : Int) (h : ∀ i, i < ps.length → cy ps i ≤ q) : wnd ps p q = 0 := by
  unfold wnd
  refine sumE_zero _ _ fun i hi => ?_
  have hi := List.mem_range.1 hi
  have h1 := h i hi
  have h2 := h _ (nx_lt' hi)
  unfold wEi wE upB
  rw [decide_eq_false (show ¬ q < cy ps i by omega), decide_eq_false (show ¬ q < cy ps (nx ps.length i) by omega)]
  simp [bi]
theorem top_corner (ps : List (Int × Int)) : ∀ n, 0 < n → ∃ f, f < n ∧ ∀ i, i < n → cy ps i < cy ps f ∨ (cy ps i = cy ps f ∧ cx ps i ≤ cx ps f)
  | 0, h => by omega
  | n + 1, _ => by
    by_cases h0 : n = 0
    · subst h0
      exact ⟨0, by omega, fun i hi => by obtain rfl : i = 0 := by omega
                                         right; omega⟩
    · obtain ⟨f, hf, hm⟩ := top_corner ps n (by omega)
      by_cases g : cy ps n < cy ps f ∨ (cy ps n = cy ps f ∧ cx ps n ≤ cx ps f)
      · exact ⟨f, by omega, fun i hi => by
          by_cases e : i = n
          · subst e; exact g
          · exact hm i (by omega)⟩
      · exact ⟨n, by omega, fun i hi => by
          by_cases e : i = n
          · subst e; right; omega
          · have := hm i (by omega); omega⟩
theorem nx_pred {n f : Nat} (hf : f < n) : ∃ e, e < n ∧ nx n e = f := by
  by_cases h : f = 0
  · refine ⟨n - 1, by omega, ?_⟩
    unfold nx
    rw [show n - 1 + 1 = n by omega, Nat.mod_self]; omega
  · exact ⟨f - 1, by omega, by unfold nx; rw [show f - 1 + 1 = f by omega]; exact Nat.mod_eq_of_lt hf⟩
/-- A segment on edge e that does not reach its beginning meets no edge but e and the next. -/
theorem edge_free2 {ps : List (Int × Int)} (hs : Simp ps) {e : Nat} (he : e < ps.length) {y1 y2 z1 z2 : Int} (hy : onE ps y1 y2 e = true) (hz : onE ps z1 z2 e = true) (ny : ¬ (y1 = cx ps e ∧ y2 = cy ps e)) (nz' : ¬ (z1 = cx ps e ∧ z2 = cy ps e)) {g : Nat} (hg : g < ps.length) (hne : g ≠ e) (hnf : g ≠ nx ps.length e) :
    segB (cx ps g) (cy ps g) (cx ps (nx ps.length g)) (cy ps (nx ps.length g)) y1 y2 z1 z2 = false := by
  obtain ⟨h1, h2, h3⟩ := hs
  by_cases k2 : nx ps.length g = e
  · have hgd := (h2 g hg).symm
    rw [k2] at hgd ⊢
    rw [← segB_rev1]
    exact seg_adj hgd (by rw [onB_rev]; exact hy) (by rw [onB_rev]; exact hz) ny nz'
  · exact seg_mono hy hz (h3 g e hg he ⟨hne, k2, fun q => hnf q.symm⟩)
end Go.Proofs.YtalhkcmlacppjaaDoor


namespace Go.Proofs.YtalhkcmlacppjaaDoor
open Go.ChangeShapes Go.WideShapes Go.ChangeAt Go.RowKit
set_option linter.unusedVariables false
set_option linter.unusedSimpArgs false

theorem topQ {N A1 A2 C1 C2 : Int} (hN : 2 ≤ N) (ha : -N < A2) (h : A2 < 0) (hc : C2 < 0 ∨ (C2 = 0 ∧ C1 ≤ 0)) : inQ A1 A2 0 0 (N * C1) (N * C2) = false := by
  unfold inQ
  rcases hc with hc | ⟨rfl, hc⟩
  · have := sc_le (N := N) (by omega) hc
    rw [decide_eq_false (show ¬ A2 < N * C2 by omega)]; rfl
  · have e : det A1 A2 0 0 (N * C1) (N * 0) = N * (A2 * C1) := by unfold det; grind
    have m := Int.mul_nonneg_of_nonpos_of_nonpos (show A2 ≤ 0 by omega) hc
    have m2 := zz (show 0 ≤ N by omega) m
    rw [e, decide_eq_false (show ¬ N * (A2 * C1) < 0 by omega)]
    simp
/-- Claim C. -/
theorem edges_R {ps : List (Int × Int)} (hs : Simp ps) {R : Int} (hR : ∀ e, e < ps.length → vE ps e = R + dnEi ps e) : R = 0 ∨ R = -1 := by
  obtain ⟨f, hf, hm⟩ := top_corner ps ps.length (by have := hs.1; omega)
  obtain ⟨e, he, rfl⟩ := nx_pred hf
  have nd := edge_nd hs he
  have me := hm e he
  have hef : e ≠ nx ps.length e := fun h => nx_ne (by have := hs.1; omega) he h.symm
  by_cases ha : cy ps e = cy ps (nx ps.length e)
  · have k := at_edge hs he (N := 2) (by omega) (near_in hs he (by omega))
    rw [wnd_top] at k
    · have := hR e he
      have d : dnEi ps e = 1 := by
        unfold dnEi dnE
        rw [if_pos (by omega)]
      omega
    · intro i hi
      rw [scL_len] at hi
      rw [(scL_at 2 ps i).2]
      have := hm i hi
      omega
  · have hA : cy ps e - cy ps (nx ps.length e) < 0 := by omega
    obtain ⟨N, hN, hNa⟩ : ∃ N : Int, 2 ≤ N ∧ (-N < cy ps e - cy ps (nx ps.length e) ∧ cy ps e - cy ps (nx ps.length e) < N) := ⟨(cy ps e - cy ps (nx ps.length e)).natAbs + 2, by omega⟩
    have yin := near_in hs he hN
    have ly := at_edge hs he (by omega) yin
    have he' : e < (scL N ps).length := by rw [scL_len]; exact he
    have hf' : nx ps.length e < (scL N ps).length := by rw [scL_len]; exact hf
    have cen1 : cx (scL N ps) (nx (scL N ps).length e) = N * cx ps (nx ps.length e) := by rw [scL_len]; exact (scL_at N ps _).1
    have cen2 : cy (scL N ps) (nx (scL N ps).length e) = N * cy ps (nx ps.length e) := by rw [scL_len]; exact (scL_at N ps _).2
    have zon : onE (scL N ps) (N * cx ps (nx ps.length e)) (N * cy ps (nx ps.length e)) e = true := by
      unfold onE
      rw [cen1, cen2]
      exact on_last
    have zon' : onE (scL N ps) (N * cx ps (nx ps.length e)) (N * cy ps (nx ps.length e)) (nx ps.length e) = true := by
      unfold onE
      rw [(scL_at N ps (nx ps.length e)).1, (scL_at N ps (nx ps.length e)).2]
      exact on_first
    have zne : ¬ (N * cx ps (nx ps.length e) = cx (scL N ps) e ∧ N * cy ps (nx ps.length e) = cy (scL N ps) e) := by
      rw [(scL_at N ps e).1, (scL_at N ps e).2]
      exact mul_ne2 (by omega) (fun h => nd ⟨h.1.symm, h.2.symm⟩)
    have seg : ∀ i, i < (scL N ps).length → i ≠ e → i ≠ nx ps.length e → segB (cx (scL N ps) i) (cy (scL N ps) i) (cx (scL N ps) (nx (scL N ps).length i)) (cy (scL N ps) (nx (scL N ps).length i)) (cx ps e - cx ps (nx ps.length e) + N * cx ps (nx ps.length e)) (cy ps e - cy ps (nx ps.length e) + N * cy ps (nx ps.length e)) (N * cx ps (nx ps.length e)) (N * cy ps (nx ps.length e)) = false := fun i hi h1 h2 =>
      edge_free2 (hs.sc (by omega)) he' yin.1 zon yin.2.1 zne hi h1 (by rw [scL_len]; exact h2)
    have k := wnd_two (scL N ps) e (nx ps.length e) hef he' hf' (show cy ps e - cy ps (nx ps.length e) + N * cy ps (nx ps.length e) < N * cy ps (nx ps.length e) by omega) seg
    have nds : ¬ (cx (scL N ps) e = cx (scL N ps) (nx (scL N ps).length e) ∧ cy (scL N ps) e = cy (scL N ps) (nx (scL N ps).length e)) := edge_nd (hs.sc (N := N) (by omega)) he'
    have dl := det_line nds yin.1 zon
    rw [wEi_on yin.1, wEi_on zon, wEi_on zon', inQ_zero dl.1, cen1, cen2, (scL_at N ps (nx ps.length e)).1, (scL_at N ps (nx ps.length e)).2] at k
    have kc1 : N * cx ps (nx ps.length (nx ps.length e)) = N * (cx ps (nx ps.length (nx ps.length e)) - cx ps (nx ps.length e)) + N * cx ps (nx ps.length e) := by grind
    have kc2 : N * cy ps (nx ps.length (nx ps.length e)) = N * (cy ps (nx ps.length (nx ps.length e)) - cy ps (nx ps.length e)) + N * cy ps (nx ps.length e) := by grind
    have cfn1 : cx (scL N ps) (nx (scL N ps).length (nx ps.length e)) = N * cx ps (nx ps.length (nx ps.length e)) := by rw [scL_len]; exact (scL_at N ps _).1
    have cfn2 : cy (scL N ps) (nx (scL N ps).length (nx ps.length e)) = N * cy ps (nx ps.length (nx ps.length e)) := by rw [scL_len]; exact (scL_at N ps _).2
    have mc := hm _ (nx_lt' hf)
    have q := topQ (A1 := cx ps e - cx ps (nx ps.length e)) (C1 := cx ps (nx ps.length (nx ps.length e)) - cx ps (nx ps.length e)) (C2 := cy ps (nx ps.length (nx ps.length e)) - cy ps (nx ps.length e)) hN hNa.1 hA (by omega)
    rw [← inQ_mov _ _ _ _ _ _ (N * cx ps (nx ps.length e)) (N * cy ps (nx ps.length e)), ← kc1, ← kc2, Int.zero_add, Int.zero_add] at q
    rw [cfn1, cfn2, q] at k
    have U := valU (C1 := cx ps (nx ps.length (nx ps.length e)) - cx ps (nx ps.length e)) (C2 := cy ps (nx ps.length (nx ps.length e)) - cy ps (nx ps.length e)) (A1 := cx ps e - cx ps (nx ps.length e)) hN hNa
    have hU : wEi (scL N ps) (cx ps e - cx ps (nx ps.length e) + N * cx ps (nx ps.length e)) (cy ps e - cy ps (nx ps.length e) + N * cy ps (nx ps.length e)) (nx ps.length e) = wE 0 0 (N * (cx ps (nx ps.length (nx ps.length e)) - cx ps (nx ps.length e))) (N * (cy ps (nx ps.length (nx ps.length e)) - cy ps (nx ps.length e))) (cx ps e - cx ps (nx ps.length e)) (cy ps e - cy ps (nx ps.length e)) := by
      unfold wEi
      rw [cfn1, cfn2, (scL_at N ps _).1, (scL_at N ps _).2, kc1, kc2, ← wE_mov 0 0 _ _ _ _ (N * cx ps (nx ps.length e)) (N * cy ps (nx ps.length e)), Int.zero_add, Int.zero_add]
    rw [hU, U] at k
    have z : wnd (scL N ps) (N * cx ps (nx ps.length e)) (N * cy ps (nx ps.length e)) = 0 := wnd_top _ _ _ fun i hi => by
      rw [scL_len] at hi
      rw [(scL_at N ps i).2]
      exact Int.mul_le_mul_of_nonneg_left (by have := hm i hi; omega) (by omega)
    rw [z, ly, hR e he] at k
    have d : dnEi ps e = 0 := by
      unfold dnEi dnE
      rw [if_neg (by omega)]
    have b := bi_bd (decide (cy ps e - cy ps (nx ps.length e) < 0) && decide (0 < (cx ps e - cx ps (nx ps.length e)) * (cy ps (nx ps.length (nx ps.length e)) - cy ps (nx ps.length e)) - (cy ps e - cy ps (nx ps.length e)) * (cx ps (nx ps.length (nx ps.length e)) - cx ps (nx ps.length e))))
    rw [show bi false = 0 from rfl] at k
    split at k
    · omega
    · rw [if_neg (by omega)] at k
      omega

theorem min_ex {P : Nat → Prop} (h : ∃ n, P n) : ∃ n, P n ∧ ∀ m, P m → n ≤ m := by
  obtain ⟨n, hn⟩ := h
  induction n using Nat.strongRecOn with
  | ind n ih =>
    by_cases k : ∃ m, m < n ∧ P m
    · obtain ⟨m, hm, hp⟩ := k
      exact ih m hm hp
    · exact ⟨n, hn, fun m hp => by
        rcases Nat.lt_or_ge m n with g | g
        · exact absurd ⟨m, g, hp⟩ k
        · exact g⟩
/-- A point inside an edge lies on no other. -/
theorem inE_only {ps : List (Int × Int)} (hs : Simp ps) {e g : Nat} (he : e < ps.length) (hg : g < ps.length) {p q : Int} (h : InE ps e p q) (h' : onE ps p q g = true) : g = e := by
  obtain ⟨h1, h2, h3⟩ := hs
  obtain ⟨a1, a2, a3⟩ := h
  false_or_by_contra
  rename_i hne
  by_cases k1 : nx ps.length e = g
  · subst k1
    exact a3 (adj_pt (h2 e he) a1 h')
  · by_cases k2 : nx ps.length g = e
    · have gd := h2 g hg
      have h'' := h'
      unfold onE at h''
      rw [k2] at gd h''
      exact a2 (adj_pt gd h'' a1)
    · have := h3 g e hg he ⟨hne, k2, k1⟩
      unfold segE at this
      rw [seg_common h' a1] at this
      cases this
theorem det_at {a b c d X p q : Int} (h : onB a b c d X q = true) : det a b c d p q = (d - b) * (X - p) := by
  have := det_on h
  have e : det a b c d p q = det a b c d X q + (d - b) * (X - p) := by unfold det; grind
  omega
theorem wE_none {a b c d p q : Int} (h : ¬ (b < q ∧ q < d) ∧ ¬ (d < q ∧ q < b)) (hb : b ≠ q) (hd : d ≠ q) : wE a b c d p q = 0 := by
  unfold wE upB
  split
  · by_cases k : d ≤ q
    · rw [decide_eq_false (show ¬ q < b by omega)]; simp [bi]
    · rw [decide_eq_false k]; simp [bi]
  · by_cases k : b ≤ q
    · rw [decide_eq_false (show ¬ q < d by omega)]; simp [bi]
    · rw [decide_eq_false k]; simp [bi]
theorem wE_up {a b c d X p q : Int} (h : b < q ∧ q < d) (hX : onB a b c d X q = true) : wE a b c d p q = bi (decide (p < X)) := by
  unfold wE upB
  rw [if_neg (by omega), ori_pos, det_at hX, decide_eq_true (show b ≤ q by omega), decide_eq_true h.2, Bool.true_and, Bool.true_and, Int.mul_comm, mul_dec (by omega), decide_eq_decide.2 (show 0 < X - p ↔ p < X by omega)]
theorem wE_down {a b c d X p q : Int} (h : d < q ∧ q < b) (hX : onB a b c d X q = true) : wE a b c d p q = -bi (decide (p < X)) := by
  unfold wE upB
  rw [if_pos (by omega), ori_pos, det_at (a := c) (b := d) (c := a) (d := b) (X := X) (by rw [onB_rev]; exact hX), decide_eq_true (show d ≤ q by omega), decide_eq_true h.2, Bool.true_and, Bool.true_and, Int.mul_comm, mul_dec (by omega), decide_eq_decide.2 (show 0 < X - p ↔ p < X by omega)]
/-- Claim D, at a point that lies on no edge and as high as no corner, where the edges cross its height at whole numbers. -/
theorem wnd_gen {ps : List (Int × Int)} (hs : Simp ps) {R : Int} (hR : ∀ e, e < ps.length → vE ps e = R + dnEi ps e) {p q : Int} (g1 : ∀ i, i < ps.length → cy ps i ≠ q) (g2 : ∀ i, i < ps.length → onE ps p q i = false)
    (g3 : ∀ i, i < ps.length → (cy ps i < q ∧ q < cy ps (nx ps.length i)) ∨ (cy ps (nx ps.length i) < q ∧ q < cy ps i) → ∃ X, onE ps X q i = true) : wnd ps p q = R ∨ wnd ps p q = R + 1 := by
  by_cases hex : ∃ k : Nat, ∃ i, i < ps.length ∧ onE ps (p + 1 + k) q i = true
  · obtain ⟨k, ⟨e, he, hon⟩, hmin⟩ := min_ex hex
    obtain ⟨X, hX⟩ : ∃ X, p + 1 + (k : Int) = X := ⟨_, rfl⟩
    rw [hX] at hon
    have hpX : p < X := by omega
    have hmin' : ∀ i Y, i < ps.length → onE ps Y q i = true → p < Y → X ≤ Y := fun i Y hi hY hpY => by
      have := hmin (Y - p - 1).toNat ⟨i, hi, by rw [show p + 1 + ((Y - p - 1).toNat : Int) = Y by omega]; exact hY⟩
      omega
    have yin : InE ps e X q := ⟨hon, fun h => g1 e he h.2.symm, fun h => g1 _ (nx_lt' he) h.2.symm⟩
    have span : ∀ i N X', i < ps.length → 0 < N → onB (N * cx ps i) (N * cy ps i) (N * cx ps (nx ps.length i)) (N * cy ps (nx ps.length i)) X' (N * q) = true → (cy ps i < q ∧ q < cy ps (nx ps.length i)) ∨ (cy ps (nx ps.length i) < q ∧ q < cy ps i) := fun i N X' hi h0 h => by
      have b := (on_iff.1 h).2.1
      have a1 := g1 i hi
      have a2 := g1 _ (nx_lt' hi)
      unfold Btw at b
      rw [le_sc h0, le_sc h0, le_sc h0, le_sc h0] at b
      omega
    have seg : ∀ i, i < ps.length → i ≠ e → segB (cx ps i) (cy ps i) (cx ps (nx ps.length i)) (cy ps (nx ps.length i)) p q X q = false := fun i hi hne => seg_none fun N X' Y' h0 h1 h2 => by
      have hy : Y' = N * q := by have := (on_iff.1 h2).2.1; unfold Btw at this; omega
      subst hy
      have sp := span i N X' hi h0 h1
      obtain ⟨Z, hZ⟩ := g3 i hi sp
      have d1 := det_on h1
      have d2 := det_on (show onB (N * cx ps i) (N * cy ps i) (N * cx ps (nx ps.length i)) (N * cy ps (nx ps.length i)) (N * Z) (N * q) = true by rw [onB_sc h0]; exact hZ)
      have e2 : (N * cy ps (nx ps.length i) - N * cy ps i) * (N * Z - X') = 0 := by
        unfold det at d1 d2
        grind
      have e3 : N * cy ps (nx ps.length i) - N * cy ps i ≠ 0 := by
        intro e
        have : cy ps (nx ps.length i) = cy ps i := Int.eq_of_mul_eq_mul_left (show N ≠ 0 by omega) (by omega)
        omega
      have hXZ : X' = N * Z := by have := Int.mul_eq_zero.1 e2; omega
      subst hXZ
      have bx := (on_iff.1 h2).1
      unfold Btw at bx
      rw [le_sc h0, le_sc h0, le_sc h0, le_sc h0] at bx
      have hpZ : p ≠ Z := fun h => by
        subst h
        rw [g2 i hi] at hZ
        cases hZ
      have := hmin' i Z hi hZ (by omega)
      have hZX : Z = X := by omega
      subst hZX
      exact hne (inE_only hs he hi yin hZ)
    have k1 := wnd_flat1 ps e he seg
    have k2 := at_edge hs he (N := 1) (by omega) (p := X) (q := q) (by rw [scL_one]; exact yin)
    rw [scL_one, hR e he] at k2
    rw [wEi_on hon] at k1
    have sp := span e 1 X he (by omega) (by simpa [onE] using hon)
    rcases sp with sp | sp
    · have w : wEi ps p q e = 1 := by
        unfold wEi
        rw [wE_up sp hon, decide_eq_true hpX]; rfl
      have d : dnEi ps e = 0 := by
        unfold dnEi dnE
        rw [if_neg (by omega)]
      omega
    · have w : wEi ps p q e = -1 := by
        unfold wEi
        rw [wE_down sp hon, decide_eq_true hpX]; rfl
      have d : dnEi ps e = 1 := by
        unfold dnEi dnE
        rw [if_pos (by omega)]
      omega
  · have z : wnd ps p q = 0 := by
      unfold wnd
      refine sumE_zero _ _ fun i hi => ?_
      have hi := List.mem_range.1 hi
      have nr : ∀ X, onE ps X q i = true → ¬ p < X := fun X hX h => hex ⟨(X - p - 1).toNat, i, hi, by rw [show p + 1 + ((X - p - 1).toNat : Int) = X by omega]; exact hX⟩
      have a1 := g1 i hi
      have a2 := g1 _ (nx_lt' hi)
      unfold wEi
      by_cases u : cy ps i < q ∧ q < cy ps (nx ps.length i)
      · obtain ⟨X, hX⟩ := g3 i hi (.inl u)
        rw [wE_up u hX, decide_eq_false (nr X hX)]; rfl
      · by_cases v : cy ps (nx ps.length i) < q ∧ q < cy ps i
        · obtain ⟨X, hX⟩ := g3 i hi (.inr v)
          rw [wE_down v hX, decide_eq_false (nr X hX)]; rfl
        · exact wE_none ⟨u, v⟩ a1 a2
    have := edges_R hs hR
    omega
end Go.Proofs.YtalhkcmlacppjaaDoor


namespace Go.Proofs.YtalhkcmlacppjaaDoor
open Go.ChangeShapes Go.WideShapes Go.ChangeAt Go.RowKit
set_option linter.unusedVariables false
set_option linter.unusedSimpArgs false

theorem vE_sc {N : Int} (hN : 0 < N) (ps : List (Int × Int)) (e : Nat) : vE (scL N ps) e = vE ps e := by
  unfold vE
  rw [scL_len, (scL_at N ps e).1, (scL_at N ps e).2, (scL_at N ps _).1, (scL_at N ps _).2, scL_scL, Int.mul_comm 2 N, ← scL_scL, ← Int.mul_add, ← Int.mul_add, wnd_sc hN]
theorem dnEi_sc {N : Int} (hN : 0 < N) (ps : List (Int × Int)) (e : Nat) : dnEi (scL N ps) e = dnEi ps e := by
  unfold dnEi dnE
  rw [scL_len, (scL_at N ps e).1, (scL_at N ps e).2, (scL_at N ps _).1, (scL_at N ps _).2]
  have a := lt_sc hN (cy ps (nx ps.length e)) (cy ps e)
  have b := lt_sc hN (cx ps e) (cx ps (nx ps.length e))
  have c : N * cy ps e = N * cy ps (nx ps.length e) ↔ cy ps e = cy ps (nx ps.length e) := ⟨fun h => Int.eq_of_mul_eq_mul_left (by omega) h, fun h => by rw [h]⟩
  by_cases h : cy ps (nx ps.length e) < cy ps e ∨ cy ps e = cy ps (nx ps.length e) ∧ cx ps e < cx ps (nx ps.length e)
  · rw [if_pos h, if_pos (by omega)]
  · rw [if_neg h, if_neg (by omega)]
theorem val_sc {ps : List (Int × Int)} {R : Int} (hR : ∀ e, e < ps.length → vE ps e = R + dnEi ps e) {N : Int} (hN : 0 < N) : ∀ e, e < (scL N ps).length → vE (scL N ps) e = R + dnEi (scL N ps) e := fun e he => by
  rw [scL_len] at he
  rw [vE_sc hN, dnEi_sc hN]
  exact hR e he
theorem ex_L (d : Nat → Int) : ∀ n : Nat, ∃ L : Int, 0 < L ∧ ∀ i, i < n → d i ≠ 0 → ∃ k, L = k * d i
  | 0 => ⟨1, by omega, fun i h => by omega⟩
  | n + 1 => by
    obtain ⟨L, h0, hL⟩ := ex_L d n
    by_cases g : d n = 0
    · exact ⟨L, h0, fun i hi hne => by
        by_cases e : i = n
        · subst e; exact absurd g hne
        · exact hL i (by omega) hne⟩
    · rcases Int.lt_or_gt_of_ne g with k | k
      · refine ⟨L * (-d n), pp h0 (by omega), fun i hi hne => ?_⟩
        by_cases e : i = n
        · subst e; exact ⟨-L, by rw [Int.mul_neg, Int.neg_mul]⟩
        · obtain ⟨m, hm⟩ := hL i (by omega) hne
          exact ⟨m * (-d n), by rw [hm]; grind⟩
      · refine ⟨L * d n, pp h0 k, fun i hi hne => ?_⟩
        by_cases e : i = n
        · subst e; exact ⟨L, rfl⟩
        · obtain ⟨m, hm⟩ := hL i (by omega) hne
          exact ⟨m * d n, by rw [hm]; grind⟩
theorem btw_t {D U : Int} (u0 : 0 ≤ U) (u1 : U ≤ D) (x y : Int) : Btw (D * x) (D * y) (D * x + U * (y - x)) := by
  unfold Btw
  rcases Int.le_total x y with g | g
  · have m1 := Int.mul_nonneg u0 (show 0 ≤ y - x by omega)
    have m2 := Int.mul_nonneg (show 0 ≤ D - U by omega) (show 0 ≤ y - x by omega)
    have : (D - U) * (y - x) = D * y - D * x - U * (y - x) := by grind
    left; omega
  · have m1 := Int.mul_nonneg u0 (show 0 ≤ x - y by omega)
    have m2 := Int.mul_nonneg (show 0 ≤ D - U by omega) (show 0 ≤ x - y by omega)
    have e1 : (D - U) * (x - y) = D * x - D * y + U * (y - x) := by grind
    have e2 : U * (x - y) = -(U * (y - x)) := by grind
    right; omega
theorem on_t {D U : Int} (u0 : 0 ≤ U) (u1 : U ≤ D) (a b c d : Int) : onB (D * a) (D * b) (D * c) (D * d) (D * a + U * (c - a)) (D * b + U * (d - b)) = true :=
  on_iff.2 ⟨btw_t u0 u1 a c, btw_t u0 u1 b d, by grind⟩
theorem mneg {L m d : Int} (h : L = m * d) (h0 : 0 < L) (hd : d < 0) : m < 0 := by
  have e : -m * -d = m * d := by grind
  have := pos_of (x := -m) (y := -d) (by omega) (by omega)
  omega
theorem wnd_gen2 {ps : List (Int × Int)} (hs : Simp ps) {R : Int} (hR : ∀ e, e < ps.length → vE ps e = R + dnEi ps e) {p q : Int} (g1 : ∀ i, i < ps.length → cy ps i ≠ q) (g2 : ∀ i, i < ps.length → onE ps p q i = false) : wnd ps p q = R ∨ wnd ps p q = R + 1 := by
  obtain ⟨L, h0, hL⟩ := ex_L (fun i => cy ps (nx ps.length i) - cy ps i) ps.length
  have k := wnd_gen (hs.sc h0) (val_sc hR h0) (p := L * p) (q := L * q) (fun i hi h => by
    rw [scL_len] at hi
    rw [(scL_at L ps i).2] at h
    exact g1 i hi (Int.eq_of_mul_eq_mul_left (by omega) h)) (fun i hi => by
    rw [scL_len] at hi
    rw [onE_sc h0]
    exact g2 i hi) (fun i hi h => by
    rw [scL_len] at hi h
    rw [(scL_at L ps i).2, (scL_at L ps _).2, lt_sc h0, lt_sc h0, lt_sc h0, lt_sc h0] at h
    obtain ⟨m, hm⟩ := hL i hi (by omega)
    have hy : L * q = L * cy ps i + (m * (q - cy ps i)) * (cy ps (nx ps.length i) - cy ps i) := by
      have : (m * (q - cy ps i)) * (cy ps (nx ps.length i) - cy ps i) = (m * (cy ps (nx ps.length i) - cy ps i)) * (q - cy ps i) := by grind
      rw [this, ← hm]; grind
    refine ⟨L * cx ps i + (m * (q - cy ps i)) * (cx ps (nx ps.length i) - cx ps i), ?_⟩
    unfold onE
    rw [scL_len, (scL_at L ps i).1, (scL_at L ps i).2, (scL_at L ps _).1, (scL_at L ps _).2, hy]
    refine on_t ?_ ?_ _ _ _ _
    · rcases h with h | h
      · have : 0 < m := pos_of (y := cy ps (nx ps.length i) - cy ps i) (by omega) (by rw [← hm]; exact h0)
        exact zz (by omega) (by omega)
      · have : m < 0 := mneg hm h0 (by omega)
        exact Int.mul_nonneg_of_nonpos_of_nonpos (by omega) (by omega)
    · rw [hm]
      rcases h with h | h
      · have : 0 < m := pos_of (y := cy ps (nx ps.length i) - cy ps i) (by omega) (by rw [← hm]; exact h0)
        exact Int.mul_le_mul_of_nonneg_left (by omega) (by omega)
      · have : m < 0 := mneg hm h0 (by omega)
        exact Int.mul_le_mul_of_nonpos_left (by omega) (by omega))
  rwa [wnd_sc h0] at k
theorem ex_bd (f g : Nat → Int) : ∀ n : Nat, ∃ m : Int, 0 < m ∧ ∀ i, i < n → (-m < f i ∧ f i < m) ∧ -m < g i ∧ g i < m
  | 0 => ⟨1, by omega, fun i h => by omega⟩
  | n + 1 => by
    obtain ⟨m, h0, hm⟩ := ex_bd f g n
    refine ⟨m + (f n).natAbs + (g n).natAbs + 1, by omega, fun i hi => ?_⟩
    by_cases e : i = n
    · subst e; omega
    · have := hm i (by omega); omega
theorem shift_le {M x y : Int} (hM : 2 ≤ M) : M * x ≤ M * y + 1 ↔ x ≤ y := by
  constructor
  · intro h
    rcases Int.lt_or_le y x with g | g
    · have : M * (x - y) ≥ M * 1 := Int.mul_le_mul_of_nonneg_left (by omega) (by omega)
      have e : M * (x - y) = M * x - M * y := by grind
      omega
    · exact g
  · intro h
    have := (le_sc (N := M) (by omega) x y).2 h
    omega
theorem shift_lt {M x y : Int} (hM : 2 ≤ M) : M * y + 1 < M * x ↔ y < x := by
  have := shift_le (x := x) (y := y) hM
  omega
/-- A little to the right and upwards. -/
theorem up_shift {M m a b c d p q : Int} (hm : 0 < m) (hM : m * m + m + 2 ≤ M) (h1 : -m < c - a ∧ c - a < m) (h2 : -m < d - b ∧ d - b < m) : upB (M * a) (M * b) (M * c) (M * d) (M * p + m) (M * q + 1) = upB a b c d p q := by
  have mm : 0 ≤ m * m := sq_nn m
  have hM2 : 2 ≤ M := by omega
  unfold upB
  rw [ori_pos, ori_pos, decide_eq_decide.2 (shift_le hM2), decide_eq_decide.2 (shift_lt hM2)]
  by_cases k1 : b ≤ q
  · by_cases k2 : q < d
    · have e : det (M * a) (M * b) (M * c) (M * d) (M * p + m) (M * q + 1) = M * (M * det a b c d p q + ((c - a) - (d - b) * m)) := by unfold det; grind
      have l1 : 1 * m ≤ (d - b) * m := Int.mul_le_mul_of_nonneg_right (by omega) (by omega)
      have l2 : (d - b) * m ≤ m * m := Int.mul_le_mul_of_nonneg_right (by omega) (by omega)
      have : decide (0 < det (M * a) (M * b) (M * c) (M * d) (M * p + m) (M * q + 1)) = decide (0 < det a b c d p q) := by
        rw [e, dec_sc (by omega), decide_eq_decide]
        rcases Int.lt_or_le 0 (det a b c d p q) with g | g
        · have : M * 1 ≤ M * det a b c d p q := Int.mul_le_mul_of_nonneg_left (by omega) (by omega)
          omega
        · have : M * det a b c d p q ≤ M * 0 := Int.mul_le_mul_of_nonneg_left (by omega) (by omega)
          omega
      rw [this]
    · rw [decide_eq_false k2, Bool.and_false, Bool.false_and, Bool.false_and]
  · rw [decide_eq_false k1, Bool.false_and, Bool.false_and, Bool.false_and]
theorem shift_off {ps : List (Int × Int)} {m M : Int} (h0 : 0 < m) (hM : m * m + m + 2 ≤ M) (hm : ∀ i, i < ps.length → (-m < cx ps (nx ps.length i) - cx ps i ∧ cx ps (nx ps.length i) - cx ps i < m) ∧ -m < cy ps (nx ps.length i) - cy ps i ∧ cy ps (nx ps.length i) - cy ps i < m) {i : Nat} (hi : i < (scL M ps).length) (p q : Int) : onE (scL M ps) (M * p + m) (M * q + 1) i = false := by
  have mm : 0 ≤ m * m := sq_nn m
  have hM2 : 2 ≤ M := by omega
  rw [scL_len] at hi
  cases g : onE (scL M ps) (M * p + m) (M * q + 1) i with
  | false => rfl
  | true =>
    exfalso
    unfold onE at g
    rw [scL_len, (scL_at M ps i).1, (scL_at M ps i).2, (scL_at M ps _).1, (scL_at M ps _).2] at g
    obtain ⟨hx, hy⟩ := hm i hi
    have e : det (M * cx ps i) (M * cy ps i) (M * cx ps (nx ps.length i)) (M * cy ps (nx ps.length i)) (M * p + m) (M * q + 1) = M * (M * det (cx ps i) (cy ps i) (cx ps (nx ps.length i)) (cy ps (nx ps.length i)) p q + ((cx ps (nx ps.length i) - cx ps i) - (cy ps (nx ps.length i) - cy ps i) * m)) := by unfold det; grind
    rw [det_on g] at e
    have b := (on_iff.1 g).2.1
    unfold Btw at b
    rw [shift_le hM2, shift_le hM2] at b
    have b' : cy ps i ≠ cy ps (nx ps.length i) := fun h => by
      rw [h] at b
      have := (le_sc (N := M) (by omega) (cy ps (nx ps.length i)) q)
      rcases b with ⟨b1, b2⟩ | ⟨b1, b2⟩
      · have := this.2 b1; omega
      · have := this.2 b1; omega
    have z := Int.mul_eq_zero.1 e.symm
    have z : M * det (cx ps i) (cy ps i) (cx ps (nx ps.length i)) (cy ps (nx ps.length i)) p q + ((cx ps (nx ps.length i) - cx ps i) - (cy ps (nx ps.length i) - cy ps i) * m) = 0 := by omega
    have l2 : (cy ps (nx ps.length i) - cy ps i) * m ≤ m * m := Int.mul_le_mul_of_nonneg_right (by omega) (by omega)
    have l3 : (-m) * m ≤ (cy ps (nx ps.length i) - cy ps i) * m := Int.mul_le_mul_of_nonneg_right (by omega) (by omega)
    have e3 : (-m) * m = -(m * m) := by grind
    have d0 : det (cx ps i) (cy ps i) (cx ps (nx ps.length i)) (cy ps (nx ps.length i)) p q = 0 := by
      rcases Int.lt_trichotomy (det (cx ps i) (cy ps i) (cx ps (nx ps.length i)) (cy ps (nx ps.length i)) p q) 0 with q' | q' | q'
      · have := sc_le (N := M) (by omega) q'; omega
      · exact q'
      · have := sc_ge (N := M) (by omega) q'; omega
    rw [d0, Int.mul_zero] at z
    rcases Int.lt_or_gt_of_ne b' with u | u
    · have : 1 * m ≤ (cy ps (nx ps.length i) - cy ps i) * m := Int.mul_le_mul_of_nonneg_right (by omega) (by omega)
      omega
    · have : (cy ps (nx ps.length i) - cy ps i) * m ≤ (-1) * m := Int.mul_le_mul_of_nonneg_right (by omega) (by omega)
      omega
theorem shift_wnd {ps : List (Int × Int)} {m M : Int} (h0 : 0 < m) (hM : m * m + m + 2 ≤ M) (hm : ∀ i, i < ps.length → (-m < cx ps (nx ps.length i) - cx ps i ∧ cx ps (nx ps.length i) - cx ps i < m) ∧ -m < cy ps (nx ps.length i) - cy ps i ∧ cy ps (nx ps.length i) - cy ps i < m) (p q : Int) : wnd (scL M ps) (M * p + m) (M * q + 1) = wnd ps p q := by
  have mm : 0 ≤ m * m := sq_nn m
  have hM2 : 2 ≤ M := by omega
  unfold wnd
  rw [scL_len]
  exact sumE_congr fun i hi => by
    have hi := List.mem_range.1 hi
    obtain ⟨hx, hy⟩ := hm i hi
    unfold wEi wE
    rw [scL_len, (scL_at M ps i).1, (scL_at M ps i).2, (scL_at M ps _).1, (scL_at M ps _).2, up_shift h0 hM hx hy, up_shift h0 hM (by omega) (by omega)]
    have := lt_sc (N := M) (by omega) (cy ps (nx ps.length i)) (cy ps i)
    by_cases g : cy ps (nx ps.length i) < cy ps i
    · rw [if_pos g, if_pos (this.2 g)]
    · rw [if_neg g, if_neg (fun q => g (this.1 q))]
/-- Claim D: round every point a simple polygon winds R or R + 1 times. -/
theorem wnd_all {ps : List (Int × Int)} (hs : Simp ps) {R : Int} (hR : ∀ e, e < ps.length → vE ps e = R + dnEi ps e) (p q : Int) : wnd ps p q = R ∨ wnd ps p q = R + 1 := by
  obtain ⟨m, h0, hm⟩ := ex_bd (fun i => cx ps (nx ps.length i) - cx ps i) (fun i => cy ps (nx ps.length i) - cy ps i) ps.length
  obtain ⟨M, hM⟩ : ∃ M : Int, m * m + m + 2 ≤ M := ⟨_, Int.le_refl _⟩
  have mm : 0 ≤ m * m := sq_nn m
  have hM2 : 2 ≤ M := by omega
  have k := wnd_gen2 (hs.sc (N := M) (by omega)) (val_sc hR (by omega)) (p := M * p + m) (q := M * q + 1) (fun i hi h => by
    rw [(scL_at M ps i).2] at h
    have a := (shift_le (x := cy ps i) (y := q) hM2).1 (by omega)
    have b := (le_sc (N := M) (by omega) (cy ps i) q).2 a
    omega) (fun i hi => shift_off h0 hM hm hi p q)
  rwa [shift_wnd h0 hM hm] at k
end Go.Proofs.YtalhkcmlacppjaaDoor


namespace Go.Proofs.YtalhkcmlacppjaaDoor
open Go.ChangeShapes Go.WideShapes Go.ChangeAt Go.RowKit
set_option linter.unusedVariables false
set_option linter.unusedSimpArgs false

theorem sumE_le {f g : Nat → Int} : ∀ l : List Nat, (∀ i ∈ l, f i ≤ g i) → sumE f l ≤ sumE g l
  | [], _ => Int.le_refl _
  | i :: l, h => by
    have a := h i List.mem_cons_self
    have b := sumE_le l (fun j hj => h j (List.mem_cons_of_mem _ hj))
    simp only [sumE]
    omega
theorem sumE_mul (k : Int) (f : Nat → Int) : ∀ l : List Nat, sumE (fun i => k * f i) l = k * sumE f l
  | [] => by simp [sumE]
  | i :: l => by
    simp only [sumE]
    rw [sumE_mul k f l]
    grind
theorem sumE_comm (f : Nat → Nat → Int) : ∀ (l m : List Nat), sumE (fun i => sumE (fun j => f i j) m) l = sumE (fun j => sumE (fun i => f i j) l) m
  | [], m => (sumE_zero _ m (fun _ _ => rfl)).symm
  | i :: l, m => by
    show sumE (fun j => f i j) m + sumE (fun i => sumE (fun j => f i j) m) l = _
    rw [sumE_comm f l m, ← sumE_add]
    rfl
/-- How many x from -K on, below n - K, have h x < num. -/
def cntX (h num K : Int) (n : Nat) : Int := sumE (fun x => bi (decide (h * ((x : Int) - K) < num))) (List.range n)
theorem cntX_next (h num K : Int) (n : Nat) : cntX h num K (n + 1) = cntX h num K n + bi (decide (h * ((n : Int) - K) < num)) := by
  unfold cntX; rw [List.range_succ, sumE_snoc]
theorem cntX_inv {h num K : Int} (h0 : 0 < h) : ∀ n : Nat, (cntX h num K n = n ∧ (n = 0 ∨ h * ((n : Int) - 1 - K) < num)) ∨ (cntX h num K n < n ∧ 0 ≤ cntX h num K n ∧ num ≤ h * (cntX h num K n - K) ∧ (cntX h num K n = 0 ∨ h * (cntX h num K n - 1 - K) < num))
  | 0 => .inl ⟨rfl, .inl rfl⟩
  | n + 1 => by
    rw [cntX_next]
    have ih := cntX_inv (num := num) (K := K) h0 n
    by_cases g : h * ((n : Int) - K) < num
    · rw [decide_eq_true g]
      rcases ih with ⟨i1, i2⟩ | ⟨i1, i2, i3, i4⟩
      · left
        refine ⟨by rw [i1]; show (n : Int) + 1 = _; omega, .inr ?_⟩
        rw [show ((n + 1 : Nat) : Int) - 1 - K = (n : Int) - K by omega]
        exact g
      · have : h * (cntX h num K n - K) ≤ h * ((n : Int) - K) := Int.mul_le_mul_of_nonneg_left (by omega) (by omega)
        omega
    · rw [decide_eq_false g, show bi false = 0 from rfl, Int.add_zero]
      rcases ih with ⟨i1, i2⟩ | ⟨i1, i2, i3, i4⟩
      · right
        refine ⟨by omega, by omega, by rw [i1]; omega, ?_⟩
        rcases i2 with i2 | i2
        · left; omega
        · right; rw [i1]; exact i2
      · right
        exact ⟨by omega, i2, i3, i4⟩
theorem cntX_all {h num : Int} (K : Nat) (h0 : 0 < h) (h1 : -(h * K) ≤ num) (h2 : num ≤ h * K) : num ≤ h * (cntX h num K (2 * K) - K) ∧ h * (cntX h num K (2 * K) - K) ≤ num + h := by
  have e : ∀ t : Int, h * (t - 1 - K) = h * (t - K) - h := fun t => by grind
  rcases cntX_inv (num := num) (K := (K : Int)) h0 (2 * K) with ⟨i1, i2⟩ | ⟨i1, i2, i3, i4⟩
  · rw [i1, show ((2 * K : Nat) : Int) - K = K by omega]
    rcases i2 with i2 | i2
    · have : (K : Int) = 0 := by omega
      rw [this] at h1 h2 ⊢
      rw [Int.mul_zero] at *
      omega
    · rw [e, show ((2 * K : Nat) : Int) - K = K by omega] at i2
      omega
  · refine ⟨i3, ?_⟩
    rcases i4 with i4 | i4
    · rw [i4, Int.zero_sub, Int.mul_neg]
      omega
    · rw [e] at i4
      omega
/-- The rows from height b up to below d. -/
def rowJ (b h K : Int) (n : Nat) : Int := if (n : Int) ≤ b + K then 0 else if b + K + h ≤ n then h else n - b - K
theorem up_sum {a b c d : Int} (K : Nat) (hbd : b < d) (ha : -(K : Int) ≤ a ∧ a ≤ K) (hb : -(K : Int) ≤ b) (hc : -(K : Int) ≤ c ∧ c ≤ K) : ∀ n : Nat,
    2 * a * (d - b) * rowJ b (d - b) K n + (c - a) * rowJ b (d - b) K n * (rowJ b (d - b) K n - 1) + 2 * (d - b) * K * rowJ b (d - b) K n ≤ 2 * (d - b) * sumE (fun y => sumE (fun x => bi (upB a b c d ((x : Int) - K) ((y : Int) - K))) (List.range (2 * K))) (List.range n)
    ∧ 2 * (d - b) * sumE (fun y => sumE (fun x => bi (upB a b c d ((x : Int) - K) ((y : Int) - K))) (List.range (2 * K))) (List.range n) ≤ 2 * a * (d - b) * rowJ b (d - b) K n + (c - a) * rowJ b (d - b) K n * (rowJ b (d - b) K n - 1) + 2 * (d - b) * K * rowJ b (d - b) K n + 2 * (d - b) * rowJ b (d - b) K n
  | 0 => by
    have : rowJ b (d - b) K 0 = 0 := by unfold rowJ; rw [if_pos (by omega)]
    rw [this]
    simp [sumE]
  | n + 1 => by
    have ih := up_sum (c := c) K hbd ha hb hc n
    rw [List.range_succ, sumE_snoc]
    generalize sumE (fun y => sumE (fun x => bi (upB a b c d ((x : Int) - K) ((y : Int) - K))) (List.range (2 * K))) (List.range n) = S at *
    by_cases g : b ≤ (n : Int) - K ∧ (n : Int) - K < d
    · have j0 : rowJ b (d - b) K n = (n : Int) - b - K := by
        unfold rowJ
        by_cases q : (n : Int) ≤ b + K
        · rw [if_pos q]; omega
        · rw [if_neg q, if_neg (by omega)]
      have j1 : rowJ b (d - b) K (n + 1) = (n : Int) - b - K + 1 := by
        unfold rowJ
        rw [if_neg (by omega)]
        by_cases q : b + K + (d - b) ≤ ((n + 1 : Nat) : Int)
        · rw [if_pos q]; omega
        · rw [if_neg q]; omega
      rw [j0] at ih
      rw [j1]
      obtain ⟨j, hj⟩ : ∃ j, (n : Int) - b - K = j := ⟨_, rfl⟩
      rw [hj] at ih ⊢
      have row : sumE (fun x => bi (upB a b c d ((x : Int) - K) ((n : Int) - K))) (List.range (2 * K)) = cntX (d - b) (a * (d - b) + j * (c - a)) K (2 * K) := by
        unfold cntX
        exact sumE_congr fun x _ => by
          unfold upB
          rw [ori_pos, decide_eq_true g.1, decide_eq_true g.2, Bool.true_and, Bool.true_and]
          congr 1
          rw [decide_eq_decide]
          have : det a b c d ((x : Int) - K) ((n : Int) - K) = a * (d - b) + j * (c - a) - (d - b) * ((x : Int) - K) := by
            unfold det
            rw [← hj]
            grind
          omega
      rw [row]
      have l1 : a * (d - b) + j * (c - a) = a * (d - b - j) + c * j := by grind
      have b1 : -(K : Int) * (d - b - j) ≤ a * (d - b - j) := Int.mul_le_mul_of_nonneg_right (by omega) (by omega)
      have b2 : a * (d - b - j) ≤ (K : Int) * (d - b - j) := Int.mul_le_mul_of_nonneg_right (by omega) (by omega)
      have b3 : -(K : Int) * j ≤ c * j := Int.mul_le_mul_of_nonneg_right (by omega) (by omega)
      have b4 : c * j ≤ (K : Int) * j := Int.mul_le_mul_of_nonneg_right (by omega) (by omega)
      have b5 : -(K : Int) * (d - b - j) = -((d - b) * K) + K * j := by grind
      have b6 : (K : Int) * (d - b - j) = (d - b) * K - K * j := by grind
      have b7 : -(K : Int) * j = -(K * j) := by grind
      have cn := cntX_all (h := d - b) (num := a * (d - b) + j * (c - a)) K (by omega) (by omega) (by omega)
      generalize cntX (d - b) (a * (d - b) + j * (c - a)) K (2 * K) = F at *
      have f1 : 2 * (d - b) * (S + F) = 2 * (d - b) * S + 2 * ((d - b) * (F - K)) + 2 * (d - b) * K := by grind
      have f2 : 2 * a * (d - b) * (j + 1) + (c - a) * (j + 1) * (j + 1 - 1) + 2 * (d - b) * K * (j + 1) = (2 * a * (d - b) * j + (c - a) * j * (j - 1) + 2 * (d - b) * K * j) + 2 * (a * (d - b) + j * (c - a)) + 2 * (d - b) * K := by grind
      have f3 : 2 * (d - b) * (j + 1) = 2 * (d - b) * j + 2 * (d - b) := by grind
      rw [f1, f2, f3]
      omega
    · have row : sumE (fun x => bi (upB a b c d ((x : Int) - K) ((n : Int) - K))) (List.range (2 * K)) = 0 := sumE_zero _ _ fun x _ => by
        unfold upB
        by_cases q : b ≤ (n : Int) - K
        · rw [decide_eq_false (show ¬ (n : Int) - K < d by omega)]; simp [bi]
        · rw [decide_eq_false q]; simp [bi]
      have j1 : rowJ b (d - b) K (n + 1) = rowJ b (d - b) K n := by
        unfold rowJ
        by_cases q : (n : Int) ≤ b + K
        · rw [if_pos q, if_pos (by omega)]
        · rw [if_neg q, if_neg (by omega)]
          rw [if_pos (by omega), if_pos (by omega)]
      rw [row, j1, Int.add_zero]
      exact ih
theorem up_total {a b c d : Int} (K : Nat) (hbd : b ≤ d) (ha : -(K : Int) ≤ a ∧ a ≤ K) (hb : -(K : Int) ≤ b ∧ b ≤ K) (hc : -(K : Int) ≤ c ∧ c ≤ K) (hd : -(K : Int) ≤ d ∧ d ≤ K) :
    (a + c) * (d - b) + 2 * K * (d - b) - (c - a).natAbs ≤ 2 * sumE (fun y => sumE (fun x => bi (upB a b c d ((x : Int) - K) ((y : Int) - K))) (List.range (2 * K))) (List.range (2 * K))
    ∧ 2 * sumE (fun y => sumE (fun x => bi (upB a b c d ((x : Int) - K) ((y : Int) - K))) (List.range (2 * K))) (List.range (2 * K)) ≤ (a + c) * (d - b) + 2 * K * (d - b) + (c - a).natAbs + 2 * (d - b) := by
  rcases Int.lt_or_eq_of_le hbd with g | g
  · have k := up_sum (c := c) K g ha hb.1 hc (2 * K)
    have j : rowJ b (d - b) K (2 * K) = d - b := by
      unfold rowJ
      rw [if_neg (by omega), if_pos (by omega)]
    rw [j] at k
    generalize sumE (fun y => sumE (fun x => bi (upB a b c d ((x : Int) - K) ((y : Int) - K))) (List.range (2 * K))) (List.range (2 * K)) = S at *
    obtain ⟨h, hh⟩ : ∃ h, d - b = h := ⟨_, rfl⟩
    rw [hh] at k ⊢
    have h0 : 0 < h := by omega
    have e1 : 2 * a * h * h + (c - a) * h * (h - 1) + 2 * h * K * h = h * ((a + c) * h + 2 * K * h - (c - a)) := by grind
    have e2 : 2 * h * S = h * (2 * S) := by grind
    have e3 : h * ((a + c) * h + 2 * K * h - (c - a)) + 2 * h * h = h * ((a + c) * h + 2 * K * h - (c - a) + 2 * h) := by grind
    rw [e1, e2, e3] at k
    have k1 := Int.le_of_mul_le_mul_left k.1 h0
    have k2 := Int.le_of_mul_le_mul_left k.2 h0
    omega
  · subst g
    have z : sumE (fun y => sumE (fun x => bi (upB a b c b ((x : Int) - K) ((y : Int) - K))) (List.range (2 * K))) (List.range (2 * K)) = 0 := sumE_zero _ _ fun y _ => sumE_zero _ _ fun x _ => by
      unfold upB
      by_cases q : b ≤ (y : Int) - K
      · rw [decide_eq_false (show ¬ (y : Int) - K < b by omega)]; simp [bi]
      · rw [decide_eq_false q]; simp [bi]
    rw [z, Int.sub_self, Int.mul_zero, Int.mul_zero]
    omega
/-- The edge's part of the sum over a square of lattice points. -/
theorem edge_total {a b c d : Int} (K : Nat) (ha : -(K : Int) ≤ a ∧ a ≤ K) (hb : -(K : Int) ≤ b ∧ b ≤ K) (hc : -(K : Int) ≤ c ∧ c ≤ K) (hd : -(K : Int) ≤ d ∧ d ≤ K) :
    (a + c) * (d - b) + 2 * K * (d - b) - ((c - a).natAbs + 2 * (d - b).natAbs : Int) ≤ 2 * sumE (fun y => sumE (fun x => wE a b c d ((x : Int) - K) ((y : Int) - K)) (List.range (2 * K))) (List.range (2 * K)) := by
  by_cases g : d < b
  · have k := (up_total (a := c) (b := d) (c := a) (d := b) K (by omega) hc hd ha hb).2
    have e : sumE (fun y => sumE (fun x => wE a b c d ((x : Int) - K) ((y : Int) - K)) (List.range (2 * K))) (List.range (2 * K)) = -sumE (fun y => sumE (fun x => bi (upB c d a b ((x : Int) - K) ((y : Int) - K))) (List.range (2 * K))) (List.range (2 * K)) := by
      rw [← sumE_neg]
      exact sumE_congr fun y _ => by
        show _ = -sumE (fun x => bi (upB c d a b ((x : Int) - K) ((y : Int) - K))) (List.range (2 * K))
        rw [← sumE_neg]
        exact sumE_congr fun x _ => by unfold wE; rw [if_pos g]
    rw [e]
    have f1 : (c + a) * (b - d) = -((a + c) * (d - b)) := by grind
    have f2 : 2 * (K : Int) * (b - d) = -(2 * K * (d - b)) := by grind
    rw [f1, f2] at k
    omega
  · have k := (up_total (a := a) (b := b) (c := c) (d := d) K (by omega) ha hb hc hd).1
    have e : sumE (fun y => sumE (fun x => wE a b c d ((x : Int) - K) ((y : Int) - K)) (List.range (2 * K))) (List.range (2 * K)) = sumE (fun y => sumE (fun x => bi (upB a b c d ((x : Int) - K) ((y : Int) - K))) (List.range (2 * K))) (List.range (2 * K)) :=
      sumE_congr fun y _ => sumE_congr fun x _ => by unfold wE; rw [if_neg g]
    rw [e]
    omega
theorem area_other (ps : List (Int × Int)) (h0 : 0 < ps.length) : area2 ps = sumE (fun i => (cx ps i + cx ps (nx ps.length i)) * (cy ps (nx ps.length i) - cy ps i)) (List.range ps.length) := by
  have k := sum_round (fun i => cx ps i * cy ps i) ps.length h0
  have e : sumE (fun i => (cx ps i + cx ps (nx ps.length i)) * (cy ps (nx ps.length i) - cy ps i)) (List.range ps.length) = sumE (fun i => crossE ps i + (fun i => cx ps (nx ps.length i) * cy ps (nx ps.length i) - cx ps i * cy ps i) i) (List.range ps.length) := sumE_congr fun i _ => by
    show _ = crossE ps i + (cx ps (nx ps.length i) * cy ps (nx ps.length i) - cx ps i * cy ps i)
    unfold crossE
    grind
  rw [e, sumE_add]
  unfold area2
  have k' : sumE (fun i => cx ps (nx ps.length i) * cy ps (nx ps.length i) - cx ps i * cy ps i) (List.range ps.length) = 0 := k
  omega
theorem area_sc (N : Int) (ps : List (Int × Int)) : area2 (scL N ps) = N * (N * area2 ps) := by
  unfold area2
  rw [scL_len, ← sumE_mul, ← sumE_mul]
  exact sumE_congr fun i _ => by
    unfold crossE
    rw [scL_len, (scL_at N ps i).1, (scL_at N ps i).2, (scL_at N ps _).1, (scL_at N ps _).2]
    grind
/-- The sum over a square is bounded by the area. -/
theorem square_sum (ps : List (Int × Int)) (h0 : 0 < ps.length) (K : Nat) (hK : ∀ i, i < ps.length → (-(K : Int) ≤ cx ps i ∧ cx ps i ≤ K) ∧ -(K : Int) ≤ cy ps i ∧ cy ps i ≤ K) :
    area2 ps - sumE (fun i => ((cx ps (nx ps.length i) - cx ps i).natAbs + 2 * (cy ps (nx ps.length i) - cy ps i).natAbs : Int)) (List.range ps.length) ≤ 2 * sumE (fun y => sumE (fun x => wnd ps ((x : Int) - K) ((y : Int) - K)) (List.range (2 * K))) (List.range (2 * K)) := by
  have sw : sumE (fun y => sumE (fun x => wnd ps ((x : Int) - K) ((y : Int) - K)) (List.range (2 * K))) (List.range (2 * K)) = sumE (fun i => sumE (fun y => sumE (fun x => wEi ps ((x : Int) - K) ((y : Int) - K) i) (List.range (2 * K))) (List.range (2 * K))) (List.range ps.length) := by
    have a : sumE (fun y => sumE (fun x => wnd ps (((x : Nat) : Int) - K) (((y : Nat) : Int) - K)) (List.range (2 * K))) (List.range (2 * K)) = sumE (fun y => sumE (fun i => sumE (fun x => wEi ps ((x : Int) - K) ((y : Int) - K) i) (List.range (2 * K))) (List.range ps.length)) (List.range (2 * K)) := sumE_congr fun y _ => sumE_comm (fun x i => wEi ps ((x : Int) - K) ((y : Int) - K) i) (List.range (2 * K)) (List.range ps.length)
    rw [a]
    exact sumE_comm (fun y i => sumE (fun x => wEi ps ((x : Int) - K) ((y : Int) - K) i) (List.range (2 * K))) (List.range (2 * K)) (List.range ps.length)
  rw [sw, ← sumE_mul, area_other ps h0, ← sumE_sub]
  have r := sum_round (fun i => 2 * (K : Int) * cy ps i) ps.length h0
  have r' : sumE (fun i => 2 * (K : Int) * cy ps (nx ps.length i) - 2 * (K : Int) * cy ps i) (List.range ps.length) = 0 := r
  have le : sumE (fun i => (fun i => (cx ps i + cx ps (nx ps.length i)) * (cy ps (nx ps.length i) - cy ps i) - ((cx ps (nx ps.length i) - cx ps i).natAbs + 2 * (cy ps (nx ps.length i) - cy ps i).natAbs : Int)) i + (fun i => 2 * (K : Int) * cy ps (nx ps.length i) - 2 * (K : Int) * cy ps i) i) (List.range ps.length) ≤ sumE (fun i => 2 * sumE (fun y => sumE (fun x => wEi ps ((x : Int) - K) ((y : Int) - K) i) (List.range (2 * K))) (List.range (2 * K))) (List.range ps.length) := sumE_le _ fun i hi => by
    have hi := List.mem_range.1 hi
    have hj := nx_lt' hi
    have t := edge_total K (hK i hi).1 (hK i hi).2 (hK _ hj).1 (hK _ hj).2
    show (cx ps i + cx ps (nx ps.length i)) * (cy ps (nx ps.length i) - cy ps i) - ((cx ps (nx ps.length i) - cx ps i).natAbs + 2 * (cy ps (nx ps.length i) - cy ps i).natAbs : Int) + (2 * (K : Int) * cy ps (nx ps.length i) - 2 * (K : Int) * cy ps i) ≤ _
    have e : 2 * (K : Int) * (cy ps (nx ps.length i) - cy ps i) = 2 * (K : Int) * cy ps (nx ps.length i) - 2 * (K : Int) * cy ps i := by grind
    rw [e] at t
    unfold wEi
    omega
  rw [sumE_add, r', Int.add_zero] at le
  exact le
theorem ex_K (ps : List (Int × Int)) : ∃ K : Nat, ∀ i, i < ps.length → (-(K : Int) ≤ cx ps i ∧ cx ps i ≤ K) ∧ -(K : Int) ≤ cy ps i ∧ cy ps i ≤ K := by
  obtain ⟨m, h0, hm⟩ := ex_bd (cx ps) (cy ps) ps.length
  exact ⟨m.toNat, fun i hi => by have := hm i hi; omega⟩
/-- Where the winding number is nowhere positive, at no scale, the area is not either. -/
theorem area_neg {ps : List (Int × Int)} (h0 : 0 < ps.length) (h : ∀ N p q : Int, 0 < N → wnd (scL N ps) p q ≤ 0) : area2 ps ≤ 0 := by
  obtain ⟨C, hC⟩ : ∃ C, sumE (fun i => ((cx ps (nx ps.length i) - cx ps i).natAbs + 2 * (cy ps (nx ps.length i) - cy ps i).natAbs : Int)) (List.range ps.length) = C := ⟨_, rfl⟩
  have c0 : 0 ≤ C := by
    rw [← hC]
    have := sumE_le (f := fun _ => 0) (List.range ps.length) (fun i _ => show (0 : Int) ≤ ((cx ps (nx ps.length i) - cx ps i).natAbs + 2 * (cy ps (nx ps.length i) - cy ps i).natAbs : Int) by omega)
    rwa [sumE_zero _ _ (fun _ _ => rfl)] at this
  rcases Int.lt_or_le 0 (area2 ps) with g | g
  · exfalso
    obtain ⟨K, hK⟩ := ex_K (scL (C + 1) ps)
    have k := square_sum (scL (C + 1) ps) (by rw [scL_len]; exact h0) K hK
    have z : sumE (fun y => sumE (fun x => wnd (scL (C + 1) ps) ((x : Int) - K) ((y : Int) - K)) (List.range (2 * K))) (List.range (2 * K)) ≤ 0 := by
      have := sumE_le (g := fun _ => 0) (List.range (2 * K)) (fun y _ => by
        have := sumE_le (f := fun x => wnd (scL (C + 1) ps) (((x : Nat) : Int) - K) ((y : Int) - K)) (g := fun _ => 0) (List.range (2 * K)) (fun x _ => h (C + 1) _ _ (by omega))
        rw [sumE_zero (fun _ => (0 : Int)) _ (fun _ _ => rfl)] at this
        exact this)
      rwa [sumE_zero (fun _ => (0 : Int)) _ (fun _ _ => rfl)] at this
    have e : sumE (fun i => ((cx (scL (C + 1) ps) (nx (scL (C + 1) ps).length i) - cx (scL (C + 1) ps) i).natAbs + 2 * (cy (scL (C + 1) ps) (nx (scL (C + 1) ps).length i) - cy (scL (C + 1) ps) i).natAbs : Int)) (List.range (scL (C + 1) ps).length) = (C + 1) * C := by
      rw [← hC, ← sumE_mul, scL_len, hC]
      exact sumE_congr fun i _ => by
        rw [(scL_at (C + 1) ps i).1, (scL_at (C + 1) ps i).2, (scL_at (C + 1) ps _).1, (scL_at (C + 1) ps _).2, ← Int.mul_sub, ← Int.mul_sub, Int.natAbs_mul, Int.natAbs_mul]
        have : (((C + 1).natAbs : Nat) : Int) = C + 1 := by omega
        rw [Int.natCast_mul, Int.natCast_mul, this]
        grind
    rw [e, area_sc] at k
    have l : (C + 1) * ((C + 1) * 1) ≤ (C + 1) * ((C + 1) * area2 ps) := Int.mul_le_mul_of_nonneg_left (Int.mul_le_mul_of_nonneg_left (by omega) (by omega)) (by omega)
    have l2 : (C + 1) * ((C + 1) * 1) = (C + 1) * C + (C + 1) := by grind
    omega
  · exact g
/-- A simple polygon with a positive area winds nought or one time round every point. -/
theorem simp_wnd {ps : List (Int × Int)} (hs : Simp ps) (ha : 0 < area2 ps) (p q : Int) : wnd ps p q = 0 ∨ wnd ps p q = 1 := by
  obtain ⟨R, hR⟩ := edges_val hs
  rcases edges_R hs hR with rfl | rfl
  · have := wnd_all hs hR p q; omega
  · exfalso
    have := area_neg (ps := ps) (by have := hs.1; omega) (fun N p q hN => by
      have := wnd_all (hs.sc hN) (val_sc hR hN) p q
      omega)
    omega
end Go.Proofs.YtalhkcmlacppjaaDoor



namespace Go.Proofs.YtalhkcmlacppjaaDoor
open Go.ChangeShapes Go.WideShapes Go.ChangeAt Go.RowKit
set_option linter.unusedVariables false
set_option linter.unusedSimpArgs false

theorem par_sum (ps : List (Int × Int)) (p q : Int) : ∀ l : List Nat, sumE (wEi ps p q) l % 2 = bi (parE (rayE ps p q) l)
  | [] => rfl
  | i :: l => by
    have ih := par_sum ps p q l
    have e : wEi ps p q i % 2 = bi (rayE ps p q i) := by
      unfold wEi wE rayE rayB
      split
      · cases upB (cx ps (nx ps.length i)) (cy ps (nx ps.length i)) (cx ps i) (cy ps i) p q <;> rfl
      · cases upB (cx ps i) (cy ps i) (cx ps (nx ps.length i)) (cy ps (nx ps.length i)) p q <;> rfl
    simp only [sumE, parE]
    revert e ih
    generalize rayE ps p q i = u
    generalize parE (rayE ps p q) l = v
    cases u <;> cases v <;> simp [bi] <;> omega
theorem loc_is (ps : List (Int × Int)) (p q : Int) : locE ps p q = if (List.range ps.length).any (onE ps p q) then 0 else if wnd ps p q % 2 = 1 then 1 else -1 := by
  have k := par_sum ps p q (List.range ps.length)
  unfold locE
  rw [sideF_par]
  unfold wnd
  rw [k]
  cases parE (rayE ps p q) (List.range ps.length) <;> simp [bi]
/-- A simple polygon, counterclockwise. -/
def Ccw (ps : List (Int × Int)) : Prop := Simp ps ∧ 0 < area2 ps
theorem Ccw.sc {ps : List (Int × Int)} (h : Ccw ps) {N : Int} (hN : 0 < N) : Ccw (scL N ps) := ⟨h.1.sc hN, by rw [area_sc]; exact pp hN (pp hN h.2)⟩
theorem Ccw.wnd {ps : List (Int × Int)} (h : Ccw ps) (p q : Int) : wnd ps p q = 0 ∨ wnd ps p q = 1 := simp_wnd h.1 h.2 p q
/-- Inside an edge the winding number says the edge's direction. -/
theorem Ccw.edge {ps : List (Int × Int)} (h : Ccw ps) {e : Nat} (he : e < ps.length) {p q : Int} (hin : InE ps e p q) : Go.Proofs.YtalhkcmlacppjaaDoor.wnd ps p q = dnEi ps e := by
  obtain ⟨R, hR⟩ := edges_val h.1
  have k := at_edge h.1 he (N := 1) (by omega) (p := p) (q := q) (by rw [scL_one]; exact hin)
  rw [scL_one, hR e he] at k
  rcases edges_R h.1 hR with rfl | rfl
  · omega
  · exfalso
    have := area_neg (ps := ps) (by have := h.1.1; omega) (fun N p q hN => by
      have := wnd_all (h.1.sc hN) (val_sc hR hN) p q
      omega)
    have := h.2
    omega
theorem tn_neg (x y : Int) : Tn (-65) 0 x y (-1 * x) (-1 * y) := by unfold Tn; omega
theorem neg_tn (ps : List (Int × Int)) : ∀ i, i < ps.length → Tn (-65) 0 (cx ps i) (cy ps i) (cx (scL (-1) ps) i) (cy (scL (-1) ps) i) := fun i _ => by
  rw [(scL_at (-1) ps i).1, (scL_at (-1) ps i).2]
  exact tn_neg _ _
theorem Ccw.neg {ps : List (Int × Int)} (h : Ccw ps) : Ccw (scL (-1) ps) := by
  obtain ⟨⟨h1, h2, h3⟩, h4⟩ := h
  have hcs : (-65 : Int) * -65 + 0 * 0 = 4225 := by decide
  refine ⟨⟨by rw [scL_len]; exact h1, fun i hi => ?_, fun i j hi hj hap => ?_⟩, by rw [tnL_area hcs (scL_len (-1) ps) (neg_tn ps)]; exact h4⟩
  · rw [scL_len] at hi ⊢
    rw [(scL_at (-1) ps i).1, (scL_at (-1) ps i).2, (scL_at (-1) ps _).1, (scL_at (-1) ps _).2, (scL_at (-1) ps _).1, (scL_at (-1) ps _).2]
    rcases h2 i hi with k | k
    · left
      intro e
      apply k
      rw [← e]
      unfold det
      grind
    · right
      have e : ∀ a b c d e f : Int, (-1 * a - -1 * b) * (-1 * c - -1 * b) + (-1 * d - -1 * e) * (-1 * f - -1 * e) = (a - b) * (c - b) + (d - e) * (f - e) := fun a b c d e f => by grind
      rw [e]
      exact k
  · rw [scL_len] at hi hj hap
    have t := neg_tn ps
    have := h3 i j hi hj hap
    unfold segE at this ⊢
    rw [scL_len, segB_tn hcs (t i hi) (t _ (nx_lt' hi)) (t j hj) (t _ (nx_lt' hj))]
    exact this
theorem loc_neg {ps : List (Int × Int)} (h0 : 0 < ps.length) (p q : Int) : locE (scL (-1) ps) (-1 * p) (-1 * q) = locE ps p q :=
  tnL_loc (c := -65) (s := 0) (by decide) h0 (scL_len (-1) ps) (neg_tn ps) (tn_neg p q)
theorem InE.neg {ps : List (Int × Int)} {e : Nat} (he : e < ps.length) {p q : Int} (h : InE ps e p q) : InE (scL (-1) ps) e (-1 * p) (-1 * q) := by
  obtain ⟨a, b, c⟩ := h
  have t := neg_tn ps
  refine ⟨?_, ?_, ?_⟩
  · unfold onE at a ⊢
    rw [scL_len, onB_tn (c := -65) (s := 0) (by decide) (t e he) (t _ (nx_lt' he)) (tn_neg p q)]
    exact a
  · rw [(scL_at (-1) ps e).1, (scL_at (-1) ps e).2]; omega
  · rw [scL_len, (scL_at (-1) ps _).1, (scL_at (-1) ps _).2]; omega
theorem dn_neg {ps : List (Int × Int)} (hs : Simp ps) {e : Nat} (he : e < ps.length) : dnEi (scL (-1) ps) e = 1 - dnEi ps e := by
  have nd := edge_nd hs he
  unfold dnEi dnE
  rw [scL_len, (scL_at (-1) ps e).1, (scL_at (-1) ps e).2, (scL_at (-1) ps _).1, (scL_at (-1) ps _).2]
  by_cases h : cy ps (nx ps.length e) < cy ps e ∨ cy ps e = cy ps (nx ps.length e) ∧ cx ps e < cx ps (nx ps.length e)
  · rw [if_pos h, if_neg (by omega)]; rfl
  · rw [if_neg h, if_pos (by omega)]; rfl
theorem any_on_sc {N : Int} (hN : 0 < N) (ps : List (Int × Int)) (p q : Int) : (List.range (scL N ps).length).any (onE (scL N ps) (N * p) (N * q)) = (List.range ps.length).any (onE ps p q) := by
  rw [scL_len]
  exact any_congr fun i _ => onE_sc hN ps p q i
theorem loc_sc {N : Int} (hN : 0 < N) (ps : List (Int × Int)) (p q : Int) : locE (scL N ps) (N * p) (N * q) = locE ps p q := by
  rw [loc_is, loc_is, any_on_sc hN, wnd_sc hN]
theorem loc_one' {ps : List (Int × Int)} (h : Ccw ps) {p q : Int} : locE ps p q = 1 ↔ (∀ i, i < ps.length → onE ps p q i = false) ∧ wnd ps p q = 1 := by
  rw [loc_is]
  have w := h.wnd p q
  constructor
  · intro k
    split at k
    · omega
    · rename_i hn
      rw [Bool.not_eq_true, List.any_eq_false] at hn
      refine ⟨fun i hi => by simpa using hn i (List.mem_range.2 hi), ?_⟩
      split at k <;> omega
  · rintro ⟨k1, k2⟩
    rw [if_neg, if_pos (by omega)]
    rw [Bool.not_eq_true, List.any_eq_false]
    exact fun i hi => by rw [k1 i (List.mem_range.1 hi)]; simp
theorem loc_zero {ps : List (Int × Int)} {p q : Int} : locE ps p q = 0 ↔ ∃ i, i < ps.length ∧ onE ps p q i = true := by
  rw [loc_is]
  constructor
  · intro k
    split at k
    · rename_i hn
      obtain ⟨i, hi, h⟩ := List.any_eq_true.1 hn
      exact ⟨i, List.mem_range.1 hi, h⟩
    · split at k <;> omega
  · rintro ⟨i, hi, h⟩
    rw [if_pos (List.any_eq_true.2 ⟨i, List.mem_range.2 hi, h⟩)]
theorem loc_three (ps : List (Int × Int)) (p q : Int) : locE ps p q = 0 ∨ locE ps p q = 1 ∨ locE ps p q = -1 := by
  rw [loc_is]
  split
  · exact .inl rfl
  · split
    · exact .inr (.inl rfl)
    · exact .inr (.inr rfl)
def esum (E : Int → Int → Int → Int → Int) (ps : List (Int × Int)) : Int := sumE (fun i => E (cx ps i) (cy ps i) (cx ps (nx ps.length i)) (cy ps (nx ps.length i))) (List.range ps.length)
theorem esum_open (E : Int → Int → Int → Int → Int) (ps : List (Int × Int)) (m : Nat) (h : ps.length = m + 1) : esum E ps = sumE (fun i => E (cx ps i) (cy ps i) (cx ps (i + 1)) (cy ps (i + 1))) (List.range m) + E (cx ps m) (cy ps m) (cx ps 0) (cy ps 0) := by
  unfold esum
  rw [h, List.range_succ, sumE_snoc]
  congr 1
  · exact sumE_congr fun i hi => by
      have hi := List.mem_range.1 hi
      rw [nx_small (by omega)]
  · rw [show nx (m + 1) m = 0 by unfold nx; exact Nat.mod_self _]
theorem sumE_split (f : Nat → Int) (a : Nat) : ∀ b, sumE f (List.range (a + b)) = sumE f (List.range a) + sumE (fun i => f (a + i)) (List.range b)
  | 0 => by simp [sumE]
  | b + 1 => by
    rw [← Nat.add_assoc, List.range_succ, sumE_snoc, List.range_succ, sumE_snoc, sumE_split f a b]
    omega
def oneL (us : List (Int × Int)) (k : Nat) : List (Int × Int) := us.take (k + 1)
def twoL (us : List (Int × Int)) (k : Nat) : List (Int × Int) := us.getD 0 (0, 0) :: us.drop k
theorem oneL_len {us : List (Int × Int)} {k : Nat} (h : k < us.length) : (oneL us k).length = k + 1 := by unfold oneL; rw [List.length_take]; omega
theorem twoL_len (us : List (Int × Int)) (k : Nat) : (twoL us k).length = us.length - k + 1 := by unfold twoL; rw [List.length_cons, List.length_drop]
theorem oneL_at {us : List (Int × Int)} {k i : Nat} (h : i ≤ k) : cx (oneL us k) i = cx us i ∧ cy (oneL us k) i = cy us i := by
  unfold cx cy oneL
  rw [List.getD_eq_getElem?_getD, List.getD_eq_getElem?_getD, List.getElem?_take_of_lt (by omega)]
  exact ⟨rfl, rfl⟩
theorem twoL_zero (us : List (Int × Int)) (k : Nat) : cx (twoL us k) 0 = cx us 0 ∧ cy (twoL us k) 0 = cy us 0 := ⟨rfl, rfl⟩
theorem twoL_at (us : List (Int × Int)) (k i : Nat) : cx (twoL us k) (i + 1) = cx us (k + i) ∧ cy (twoL us k) (i + 1) = cy us (k + i) := by
  unfold cx cy twoL
  rw [List.getD_cons_succ, List.getD_eq_getElem?_getD, List.getD_eq_getElem?_getD, List.getElem?_drop]
  exact ⟨rfl, rfl⟩
theorem cut_sum (E : Int → Int → Int → Int → Int) (hE : ∀ a b c d, E c d a b = -E a b c d) {us : List (Int × Int)} {k : Nat} (hk : k + 1 < us.length) : esum E us = esum E (oneL us k) + esum E (twoL us k) := by
  obtain ⟨m, hm⟩ : ∃ m, us.length = (k + m + 1) + 1 := ⟨us.length - k - 2, by omega⟩
  rw [esum_open E us (k + m + 1) hm, esum_open E (oneL us k) k (oneL_len (by omega)), esum_open E (twoL us k) (m + 1 + 1) (by rw [twoL_len]; omega)]
  have s0 : sumE (fun i => E (cx us i) (cy us i) (cx us (i + 1)) (cy us (i + 1))) (List.range (k + m + 1)) = sumE (fun i => E (cx us i) (cy us i) (cx us (i + 1)) (cy us (i + 1))) (List.range k) + sumE (fun i => E (cx us (k + i)) (cy us (k + i)) (cx us (k + i + 1)) (cy us (k + i + 1))) (List.range (m + 1)) := by
    rw [show k + m + 1 = k + (m + 1) by omega]
    exact sumE_split _ k (m + 1)
  have s1 : sumE (fun i => E (cx (oneL us k) i) (cy (oneL us k) i) (cx (oneL us k) (i + 1)) (cy (oneL us k) (i + 1))) (List.range k) = sumE (fun i => E (cx us i) (cy us i) (cx us (i + 1)) (cy us (i + 1))) (List.range k) := sumE_congr fun i hi => by
    have hi := List.mem_range.1 hi
    rw [(oneL_at (show i ≤ k by omega)).1, (oneL_at (show i ≤ k by omega)).2, (oneL_at (show i + 1 ≤ k by omega)).1, (oneL_at (show i + 1 ≤ k by omega)).2]
  have s2 : sumE (fun i => E (cx (twoL us k) i) (cy (twoL us k) i) (cx (twoL us k) (i + 1)) (cy (twoL us k) (i + 1))) (List.range (m + 1 + 1)) = E (cx us 0) (cy us 0) (cx us k) (cy us k) + sumE (fun i => E (cx us (k + i)) (cy us (k + i)) (cx us (k + i + 1)) (cy us (k + i + 1))) (List.range (m + 1)) := by
    rw [sumE_first]
    have h0 : E (cx (twoL us k) 0) (cy (twoL us k) 0) (cx (twoL us k) (0 + 1)) (cy (twoL us k) (0 + 1)) = E (cx us 0) (cy us 0) (cx us k) (cy us k) := by
      rw [(twoL_zero us k).1, (twoL_zero us k).2, (twoL_at us k 0).1, (twoL_at us k 0).2]
      rfl
    rw [h0]
    congr 1
    exact sumE_congr fun i hi => by
      rw [(twoL_at us k i).1, (twoL_at us k i).2, (twoL_at us k (i + 1)).1, (twoL_at us k (i + 1)).2]
      rfl
  rw [s0, s1, s2, (twoL_zero us k).1, (twoL_zero us k).2, (twoL_at us k (m + 1)).1, (twoL_at us k (m + 1)).2, (oneL_at (Nat.le_refl k)).1, (oneL_at (Nat.le_refl k)).2, (oneL_at (Nat.zero_le k)).1, (oneL_at (Nat.zero_le k)).2, hE (cx us 0) (cy us 0) (cx us k) (cy us k), show k + (m + 1) = k + m + 1 by omega]
  generalize sumE (fun i => E (cx us i) (cy us i) (cx us (i + 1)) (cy us (i + 1))) (List.range k) = S
  generalize sumE (fun i => E (cx us (k + i)) (cy us (k + i)) (cx us (k + i + 1)) (cy us (k + i + 1))) (List.range (m + 1)) = T
  omega
theorem wE_rev (a b c d p q : Int) : wE c d a b p q = -wE a b c d p q := by
  unfold wE
  rcases Int.lt_trichotomy b d with h | h | h
  · rw [if_pos h, if_neg (by omega)]
  · subst h
    rw [if_neg (by omega), if_neg (by omega)]
    have z : ∀ x y : Int, upB x b y b p q = false := fun x y => by
      unfold upB
      by_cases g : b ≤ q
      · rw [decide_eq_false (show ¬ q < b by omega), Bool.and_false, Bool.false_and]
      · rw [decide_eq_false g, Bool.false_and, Bool.false_and]
    rw [z, z]; rfl
  · rw [if_neg (by omega), if_pos h]; omega
theorem cut_wnd {us : List (Int × Int)} {k : Nat} (hk : k + 1 < us.length) (p q : Int) : wnd us p q = wnd (oneL us k) p q + wnd (twoL us k) p q :=
  cut_sum (fun a b c d => wE a b c d p q) (fun a b c d => wE_rev a b c d p q) hk
theorem cut_area {us : List (Int × Int)} {k : Nat} (hk : k + 1 < us.length) : area2 us = area2 (oneL us k) + area2 (twoL us k) :=
  cut_sum (fun a b c d => a * d - b * c) (fun a b c d => by grind) hk
theorem oneL_sc (M : Int) (us : List (Int × Int)) (k : Nat) : scL M (oneL us k) = oneL (scL M us) k := by unfold scL oneL; rw [List.map_take]
theorem twoL_sc (M : Int) {us : List (Int × Int)} (k : Nat) (h0 : 0 < us.length) : scL M (twoL us k) = twoL (scL M us) k := by
  cases us with
  | nil => simp at h0
  | cons x l =>
    unfold scL twoL
    rw [List.map_cons, List.map_drop]
    rfl
theorem cut_HW {us : List (Int × Int)} {k : Nat} (hk : k + 1 < us.length) (M p q : Int) : wnd (scL M us) p q = wnd (scL M (oneL us k)) p q + wnd (scL M (twoL us k)) p q := by
  rw [oneL_sc, twoL_sc M k (by omega)]
  exact cut_wnd (by rw [scL_len]; exact hk) p q
/-- The edges of the parts: the polygon's, and the cut. -/
theorem one_on {us : List (Int × Int)} {k : Nat} (hk : k + 1 < us.length) {p q : Int} {e : Nat} (he : e < (oneL us k).length) (h : onE (oneL us k) p q e = true) : e = k ∨ onE us p q e = true := by
  rw [oneL_len (by omega)] at he
  by_cases g : e = k
  · exact .inl g
  · right
    unfold onE at h ⊢
    rw [oneL_len (by omega), nx_small (by omega), (oneL_at (show e ≤ k by omega)).1, (oneL_at (show e ≤ k by omega)).2, (oneL_at (show e + 1 ≤ k by omega)).1, (oneL_at (show e + 1 ≤ k by omega)).2] at h
    rw [nx_small (by omega)]
    exact h
theorem two_on {us : List (Int × Int)} {k : Nat} (hk : k + 1 < us.length) {p q : Int} {e : Nat} (he : e < (twoL us k).length) (h : onE (twoL us k) p q e = true) : e = 0 ∨ onE us p q (k + e - 1) = true := by
  rw [twoL_len] at he
  cases e with
  | zero => exact .inl rfl
  | succ e =>
    right
    rw [show k + (e + 1) - 1 = k + e by omega]
    unfold onE at h ⊢
    by_cases g : e + 1 = us.length - k
    · rw [twoL_len, g, show nx (us.length - k + 1) (us.length - k) = 0 by unfold nx; exact Nat.mod_self _, ← g, (twoL_at us k e).1, (twoL_at us k e).2, (twoL_zero us k).1, (twoL_zero us k).2] at h
      rw [show nx us.length (k + e) = 0 by unfold nx; rw [show k + e + 1 = us.length by omega]; exact Nat.mod_self _]
      exact h
    · rw [twoL_len, nx_small (by omega), (twoL_at us k e).1, (twoL_at us k e).2, (twoL_at us k (e + 1)).1, (twoL_at us k (e + 1)).2] at h
      rw [nx_small (by omega)]
      exact h
theorem us_on {us : List (Int × Int)} {k : Nat} (hk : k + 1 < us.length) {p q : Int} {i : Nat} (hi : i < us.length) (h : onE us p q i = true) : (∃ e, e < (oneL us k).length ∧ onE (oneL us k) p q e = true) ∨ ∃ e, e < (twoL us k).length ∧ onE (twoL us k) p q e = true := by
  unfold onE at h
  by_cases g : i < k
  · left
    refine ⟨i, by rw [oneL_len (by omega)]; omega, ?_⟩
    unfold onE
    rw [oneL_len (by omega), nx_small (by omega), (oneL_at (show i ≤ k by omega)).1, (oneL_at (show i ≤ k by omega)).2, (oneL_at (show i + 1 ≤ k by omega)).1, (oneL_at (show i + 1 ≤ k by omega)).2]
    rw [nx_small (by omega)] at h
    exact h
  · right
    obtain ⟨e, rfl⟩ : ∃ e, i = k + e := ⟨i - k, by omega⟩
    refine ⟨e + 1, by rw [twoL_len]; omega, ?_⟩
    unfold onE
    by_cases g : k + e + 1 = us.length
    · rw [twoL_len, show nx (us.length - k + 1) (e + 1) = 0 by unfold nx; rw [show e + 1 + 1 = us.length - k + 1 by omega]; exact Nat.mod_self _, (twoL_at us k e).1, (twoL_at us k e).2, (twoL_zero us k).1, (twoL_zero us k).2]
      rw [show nx us.length (k + e) = 0 by unfold nx; rw [g]; exact Nat.mod_self _] at h
      exact h
    · rw [twoL_len, nx_small (by omega), (twoL_at us k e).1, (twoL_at us k e).2, (twoL_at us k (e + 1)).1, (twoL_at us k (e + 1)).2]
      rw [nx_small (by omega)] at h
      exact h
end Go.Proofs.YtalhkcmlacppjaaDoor


namespace Go.Proofs.YtalhkcmlacppjaaDoor
open Go.ChangeShapes Go.WideShapes Go.ChangeAt Go.RowKit
set_option linter.unusedVariables false
set_option linter.unusedSimpArgs false

/-- The signed crossing of the segment (a, b) - (c, d) by the ray from the origin in direction (u, v). -/
def rdS (u v a b c d : Int) : Int := if hiB u v a b = hiB u v c d then 0 else if hiB u v c d then bi (decide (0 < a * d - b * c)) else -bi (decide (a * d - b * c < 0))
theorem rdS_abs {fP fQ gP gQ D K : Int} (e : fP * gQ - fQ * gP = K * D) (hK : 0 < K) (hD : D ≠ 0) :
    (if decide (0 < fP) = decide (0 < fQ) then 0 else if decide (0 < fQ) then bi (decide (0 < D)) else -bi (decide (D < 0))) - (if decide (0 < gP) = decide (0 < gQ) then 0 else if decide (0 < gQ) then bi (decide (0 < D)) else -bi (decide (D < 0))) = bi (decide (0 < fQ) && !decide (0 < gQ)) - bi (decide (0 < fP) && !decide (0 < gP)) := by
  have s1 := sgn_facts fP gQ
  have s2 := sgn_facts fQ gP
  have s3 : (0 < D ∧ 0 < K * D) ∨ (D < 0 ∧ K * D < 0) := by
    rcases Int.lt_trichotomy D 0 with h | h | h
    · exact .inr ⟨h, pn hK h⟩
    · exact absurd h hD
    · exact .inl ⟨h, pp hK h⟩
  generalize fP * gQ = m1 at *
  generalize fQ * gP = m2 at *
  generalize K * D = m3 at *
  have bt : bi true = 1 := rfl
  have bf : bi false = 0 := rfl
  rcases s3 with ⟨d1, d2⟩ | ⟨d1, d2⟩
  · rw [decide_eq_true d1, decide_eq_false (show ¬ D < 0 by omega)]
    by_cases h1 : 0 < fP <;> by_cases h2 : 0 < fQ <;> by_cases h3 : 0 < gP <;> by_cases h4 : 0 < gQ <;> simp [h1, h2, h3, h4, bt, bf] <;> omega
  · rw [decide_eq_true d1, decide_eq_false (show ¬ 0 < D by omega)]
    by_cases h1 : 0 < fP <;> by_cases h2 : 0 < fQ <;> by_cases h3 : 0 < gP <;> by_cases h4 : 0 < gQ <;> simp [h1, h2, h3, h4, bt, bf] <;> omega
theorem rdS_key {u v x y a b c d : Int} (hK : 0 < u * y - v * x) (hon : ¬ (a * d - b * c = 0 ∧ a * c + b * d ≤ 0)) :
    rdS u v a b c d - rdS x y a b c d = bi (coB u v x y c d) - bi (coB u v x y a b) := by
  by_cases hD : a * d - b * c = 0
  · have hd : 0 < a * c + b * d := by omega
    unfold rdS coB
    rw [hi_par (u := u) (v := v) hD hd, hi_par (u := x) (v := y) hD hd]
    simp
  · unfold rdS coB hiB
    exact rdS_abs (K := u * y - v * x) (by grind) hK hD
def relS (ps : List (Int × Int)) (p q u v : Int) (i : Nat) : Int := rdS u v (cx ps i - p) (cy ps i - q) (cx ps (nx ps.length i) - p) (cy ps (nx ps.length i) - q)
theorem dirS (ps : List (Int × Int)) (h0 : 0 < ps.length) {p q u v x y : Int} (hK : 0 < u * y - v * x) (h : ∀ i, i < ps.length → onE ps p q i = false) : sumE (relS ps p q u v) (List.range ps.length) = sumE (relS ps p q x y) (List.range ps.length) := by
  have k := sum_round (fun i => bi (coB u v x y (cx ps i - p) (cy ps i - q))) ps.length h0
  have e : sumE (fun i => relS ps p q u v i - relS ps p q x y i) (List.range ps.length) = sumE (fun i => bi (coB u v x y (cx ps (nx ps.length i) - p) (cy ps (nx ps.length i) - q)) - bi (coB u v x y (cx ps i - p) (cy ps i - q))) (List.range ps.length) :=
    sumE_congr fun i hi => rdS_key hK (not_on (h i (List.mem_range.1 hi)))
  rw [sumE_sub] at e
  have k' : sumE (fun i => bi (coB u v x y (cx ps (nx ps.length i) - p) (cy ps (nx ps.length i) - q)) - bi (coB u v x y (cx ps i - p) (cy ps i - q))) (List.range ps.length) = 0 := k
  omega
theorem wE_rdS (a b c d p q : Int) : wE a b c d p q = rdS 1 0 (a - p) (b - q) (c - p) (d - q) := by
  have hd : det a b c d p q = (a - p) * (d - q) - (b - q) * (c - p) := by unfold det; grind
  unfold wE rdS hiB upB
  rw [ori_pos, ori_pos, det_rev, hd]
  generalize (a - p) * (d - q) - (b - q) * (c - p) = D
  rw [show (1 : Int) * (b - q) - 0 * (a - p) = b - q by omega, show (1 : Int) * (d - q) - 0 * (c - p) = d - q by omega]
  rw [show decide (0 < b - q) = decide (q < b) from decide_eq_decide.2 (by omega), show decide (0 < d - q) = decide (q < d) from decide_eq_decide.2 (by omega), show decide (0 < -D) = decide (D < 0) from decide_eq_decide.2 (by omega)]
  by_cases h : d < b
  · rw [if_pos h]
    by_cases h1 : q < b
    · by_cases h2 : q < d
      · rw [decide_eq_false (show ¬ d ≤ q by omega), decide_eq_true h1, decide_eq_true h2]; simp [bi]
      · rw [decide_eq_true (show d ≤ q by omega), decide_eq_true h1, decide_eq_false h2]; simp
    · rw [decide_eq_false h1, decide_eq_false (show ¬ q < d by omega)]; simp [bi]
  · rw [if_neg h]
    by_cases h2 : q < d
    · by_cases h1 : q < b
      · rw [decide_eq_false (show ¬ b ≤ q by omega), decide_eq_true h1, decide_eq_true h2]; simp [bi]
      · rw [decide_eq_true (show b ≤ q by omega), decide_eq_false h1, decide_eq_true h2]; simp
    · rw [decide_eq_false h2, decide_eq_false (show ¬ q < b by omega)]; simp [bi]
theorem rdS_neg (u v a b c d : Int) : rdS u v (-a) (-b) (-c) (-d) = rdS (-u) (-v) a b c d := by
  unfold rdS hiB
  rw [show u * -b - v * -a = -u * b - -v * a by grind, show u * -d - v * -c = -u * d - -v * c by grind, show -a * -d - -b * -c = a * d - b * c by grind]
/-- The other way round a point off the edges has the same winding number. -/
theorem wnd_neg {ps : List (Int × Int)} (h0 : 0 < ps.length) {p q : Int} (h : ∀ i, i < ps.length → onE ps p q i = false) : wnd (scL (-1) ps) (-1 * p) (-1 * q) = wnd ps p q := by
  have e1 : wnd ps p q = sumE (relS ps p q 1 0) (List.range ps.length) := by
    unfold wnd
    exact sumE_congr fun i _ => wE_rdS _ _ _ _ _ _
  have e2 : wnd (scL (-1) ps) (-1 * p) (-1 * q) = sumE (relS ps p q (-1) 0) (List.range ps.length) := by
    unfold wnd
    rw [scL_len]
    exact sumE_congr fun i _ => by
      unfold wEi relS
      rw [scL_len, (scL_at (-1) ps i).1, (scL_at (-1) ps i).2, (scL_at (-1) ps _).1, (scL_at (-1) ps _).2, wE_rdS]
      rw [show -1 * cx ps i - -1 * p = -(cx ps i - p) by omega, show -1 * cy ps i - -1 * q = -(cy ps i - q) by omega, show -1 * cx ps (nx ps.length i) - -1 * p = -(cx ps (nx ps.length i) - p) by omega, show -1 * cy ps (nx ps.length i) - -1 * q = -(cy ps (nx ps.length i) - q) by omega, rdS_neg]
      rfl
  rw [e1, e2, dirS ps h0 (u := 1) (v := 0) (x := 0) (y := 1) (by omega) h, dirS ps h0 (u := 0) (v := 1) (x := -1) (y := 0) (by omega) h]
/-- A simple polygon that winds nought or one time. -/
def Good (ps : List (Int × Int)) : Prop := Simp ps ∧ ∀ e, e < ps.length → vE ps e = dnEi ps e
theorem Ccw.good {ps : List (Int × Int)} (h : Ccw ps) : Good ps := by
  refine ⟨h.1, fun e he => ?_⟩
  have k := at_edge h.1 he (N := 2) (by omega) (mid_in h.1 he)
  have m := (h.sc (N := 2) (by omega)).edge (e := e) (by rw [scL_len]; exact he) (mid_in h.1 he)
  rw [dnEi_sc (by omega)] at m
  omega
theorem Good.wnd {ps : List (Int × Int)} (h : Good ps) (p q : Int) : wnd ps p q = 0 ∨ wnd ps p q = 1 := by
  have := wnd_all h.1 (R := 0) (fun e he => by rw [h.2 e he]; omega) p q
  omega
theorem Good.sc {ps : List (Int × Int)} (h : Good ps) {N : Int} (hN : 0 < N) : Good (scL N ps) := ⟨h.1.sc hN, fun e he => by
  rw [scL_len] at he
  rw [vE_sc hN, dnEi_sc hN]
  exact h.2 e he⟩
theorem Good.edge {ps : List (Int × Int)} (h : Good ps) {e : Nat} (he : e < ps.length) {p q : Int} (hin : InE ps e p q) : Go.Proofs.YtalhkcmlacppjaaDoor.wnd ps p q = dnEi ps e := by
  have k := at_edge h.1 he (N := 1) (by omega) (p := p) (q := q) (by rw [scL_one]; exact hin)
  rw [scL_one, h.2 e he] at k
  exact k
theorem Simp.neg {ps : List (Int × Int)} (h : Simp ps) : Simp (scL (-1) ps) := by
  obtain ⟨h1, h2, h3⟩ := h
  have hcs : (-65 : Int) * -65 + 0 * 0 = 4225 := by decide
  refine ⟨by rw [scL_len]; exact h1, fun i hi => ?_, fun i j hi hj hap => ?_⟩
  · rw [scL_len] at hi ⊢
    rw [(scL_at (-1) ps i).1, (scL_at (-1) ps i).2, (scL_at (-1) ps _).1, (scL_at (-1) ps _).2, (scL_at (-1) ps _).1, (scL_at (-1) ps _).2]
    rcases h2 i hi with k | k
    · left
      intro e
      apply k
      rw [← e]
      unfold det
      grind
    · right
      have e : ∀ a b c d e f : Int, (-1 * a - -1 * b) * (-1 * c - -1 * b) + (-1 * d - -1 * e) * (-1 * f - -1 * e) = (a - b) * (c - b) + (d - e) * (f - e) := fun a b c d e f => by grind
      rw [e]
      exact k
  · rw [scL_len] at hi hj hap
    have t := neg_tn ps
    have := h3 i j hi hj hap
    unfold segE at this ⊢
    rw [scL_len, segB_tn hcs (t i hi) (t _ (nx_lt' hi)) (t j hj) (t _ (nx_lt' hj))]
    exact this
/-- Some edge goes down, or to the right. -/
theorem some_down {ps : List (Int × Int)} (hs : Simp ps) : ∃ e, e < ps.length ∧ dnEi ps e = 1 := by
  have h0 : 0 < ps.length := by have := hs.1; omega
  have key : ∀ n, 0 < n → ∃ f, f < n ∧ ∀ i, i < n → cy ps i < cy ps f ∨ (cy ps i = cy ps f ∧ cx ps f ≤ cx ps i) := by
    intro n
    induction n with
    | zero => intro h; omega
    | succ n ih =>
      intro _
      by_cases z : n = 0
      · subst z
        exact ⟨0, by omega, fun i hi => by obtain rfl : i = 0 := by omega
                                           right; omega⟩
      · obtain ⟨f, hf, hm⟩ := ih (by omega)
        by_cases g : cy ps n < cy ps f ∨ (cy ps n = cy ps f ∧ cx ps f ≤ cx ps n)
        · exact ⟨f, by omega, fun i hi => by
            by_cases e : i = n
            · subst e; exact g
            · exact hm i (by omega)⟩
        · exact ⟨n, by omega, fun i hi => by
            by_cases e : i = n
            · subst e; right; omega
            · have := hm i (by omega); omega⟩
  obtain ⟨f, hf, hm⟩ := key ps.length h0
  refine ⟨f, hf, ?_⟩
  have nd := edge_nd hs hf
  have m := hm _ (nx_lt' hf)
  unfold dnEi dnE
  rw [if_pos (by omega)]
/-- A generic point beside an edge: off all edges, where all is scaled, with the edge's value. -/
theorem beside {ps : List (Int × Int)} (hs : Simp ps) {e : Nat} (he : e < ps.length) : ∃ N p q : Int, 0 < N ∧ (∀ i, i < (scL N ps).length → onE (scL N ps) p q i = false) ∧ wnd (scL N ps) p q = vE ps e := by
  obtain ⟨m, h0, hm⟩ := ex_bd (fun i => cx (scL 2 ps) (nx (scL 2 ps).length i) - cx (scL 2 ps) i) (fun i => cy (scL 2 ps) (nx (scL 2 ps).length i) - cy (scL 2 ps) i) (scL 2 ps).length
  obtain ⟨M, hM⟩ : ∃ M : Int, m * m + m + 2 ≤ M := ⟨_, Int.le_refl _⟩
  have mm : 0 ≤ m * m := sq_nn m
  have hM2 : 2 ≤ M := by omega
  refine ⟨M * 2, M * (cx ps e + cx ps (nx ps.length e)) + m, M * (cy ps e + cy ps (nx ps.length e)) + 1, by omega, ?_, ?_⟩
  · rw [← scL_scL]
    exact fun i hi => shift_off h0 hM hm hi _ _
  · rw [← scL_scL, shift_wnd h0 hM hm]
    rfl
end Go.Proofs.YtalhkcmlacppjaaDoor


namespace Go.Proofs.YtalhkcmlacppjaaDoor
open Go.ChangeShapes Go.WideShapes Go.ChangeAt Go.RowKit
set_option linter.unusedVariables false
set_option linter.unusedSimpArgs false

theorem Good.neg {ps : List (Int × Int)} (h : Good ps) : Good (scL (-1) ps) := by
  have hs' := h.1.neg
  obtain ⟨R, hR⟩ := edges_val hs'
  rcases edges_R hs' hR with rfl | rfl
  · exact ⟨hs', fun e he => by rw [hR e he]; omega⟩
  · exfalso
    obtain ⟨e, he, hd⟩ := some_down h.1
    obtain ⟨N, p, q, hN, off, w⟩ := beside h.1 he
    rw [h.2 e he, hd] at w
    have k := wnd_neg (ps := scL N ps) (by rw [scL_len]; omega) off
    rw [scL_scL, Int.mul_comm (-1) N, ← scL_scL, w] at k
    have := wnd_all (hs'.sc hN) (val_sc hR hN) (-1 * p) (-1 * q)
    omega
theorem loc_oneG {ps : List (Int × Int)} (h : Good ps) {p q : Int} : locE ps p q = 1 ↔ (∀ i, i < ps.length → onE ps p q i = false) ∧ wnd ps p q = 1 := by
  rw [loc_is]
  have w := h.wnd p q
  constructor
  · intro k
    split at k
    · omega
    · rename_i hn
      rw [Bool.not_eq_true, List.any_eq_false] at hn
      refine ⟨fun i hi => by simpa using hn i (List.mem_range.2 hi), ?_⟩
      split at k <;> omega
  · rintro ⟨k1, k2⟩
    rw [if_neg, if_pos (by omega)]
    rw [Bool.not_eq_true, List.any_eq_false]
    exact fun i hi => by rw [k1 i (List.mem_range.1 hi)]; simp
/-- What is inside one part lies on no edge of the other: inside an edge. -/
theorem exclG_in {us A B : List (Int × Int)} (hU : Good us) (hA : Good A) (hB : Good B) (HW : ∀ M p q, wnd (scL M us) p q = wnd (scL M A) p q + wnd (scL M B) p q) {p q : Int} (h1 : locE A p q = 1) {g : Nat} (hg : g < B.length) (hin : InE B g p q) : False := by
  have a := ((loc_oneG hA).1 h1).2
  have u := hU.wnd p q
  have w := HW 1 p q
  rw [scL_one, scL_one, scL_one, hB.edge hg hin] at w
  have a' := ((loc_oneG hA.neg).1 (by rw [loc_neg (by have := hA.1.1; omega)]; exact h1)).2
  have u' := hU.neg.wnd (-1 * p) (-1 * q)
  have w' := HW (-1) (-1 * p) (-1 * q)
  rw [hB.neg.edge (by rw [scL_len]; exact hg) (hin.neg hg), dn_neg hB.1 hg] at w'
  omega
theorem exclG {us A B : List (Int × Int)} (hU : Good us) (hA : Good A) (hB : Good B) (HW : ∀ M p q, wnd (scL M us) p q = wnd (scL M A) p q + wnd (scL M B) p q) {p q : Int} (h1 : locE A p q = 1) {g : Nat} (hg : g < B.length) (hon : onE B p q g = true) : False := by
  by_cases hc : ∃ f, f < B.length ∧ p = cx B f ∧ q = cy B f
  · obtain ⟨f, hf, rfl, rfl⟩ := hc
    have off := ((loc_oneG hA).1 h1).1
    obtain ⟨N0, hN0⟩ := ex_all (P := fun _ => True) (R := fun i N => segB (N * cx A i) (N * cy A i) (N * cx A (nx A.length i)) (N * cy A (nx A.length i)) (N * cx B f + 0) (N * cy B f + 0) (N * cx B f + (cx B (nx B.length f) - cx B f)) (N * cy B f + (cy B (nx B.length f) - cy B f)) = false) A.length (fun i hi _ => far_seg (off i hi) _ _ _ _)
    obtain ⟨N, hN, hNN⟩ : ∃ N : Int, 2 ≤ N ∧ N0 ≤ N := ⟨N0.natAbs + 2, by omega⟩
    have hfree := hN0 N hNN (by omega)
    have yin := near_in' hB.1 hf hN
    have st := loc_stays (scL N A) (by rw [scL_len]; have := hA.1.1; omega) (x1 := N * cx B f) (x2 := N * cy B f) (y1 := cx B (nx B.length f) - cx B f + N * cx B f) (y2 := cy B (nx B.length f) - cy B f + N * cy B f) (fun i hi => by
      rw [scL_len] at hi
      have := hfree i hi trivial
      rw [scL_len, (scL_at N A i).1, (scL_at N A i).2, (scL_at N A _).1, (scL_at N A _).2]
      rwa [Int.add_zero, Int.add_zero, Int.add_comm (N * cx B f), Int.add_comm (N * cy B f)] at this) (by rw [loc_sc (N := N) (by omega)]; exact h1)
    exact exclG_in (hU.sc (N := N) (by omega)) (hA.sc (N := N) (by omega)) (hB.sc (N := N) (by omega)) (fun M p q => by rw [scL_scL, scL_scL, scL_scL]; exact HW (M * N) p q) st (by rw [scL_len]; exact hf) yin
  · exact exclG_in hU hA hB HW h1 hg ⟨hon, fun h => hc ⟨g, hg, h⟩, fun h => hc ⟨_, nx_lt' hg, h⟩⟩

/-- A polygon cut in two: a point is in it exactly if it is in one of the parts, and inside at most one. -/
theorem cut_locG {us : List (Int × Int)} {k : Nat} (hk0 : 0 < k) (hk : k + 1 < us.length) (hU : Good us) (h1 : Good (oneL us k)) (h2 : Good (twoL us k)) (p q : Int) :
    (locE (oneL us k) p q < 1 ∨ locE (twoL us k) p q < 0) ∧ (locE (twoL us k) p q < 1 ∨ locE (oneL us k) p q < 0) ∧ (0 ≤ locE us p q ↔ (0 ≤ locE (oneL us k) p q ∨ 0 ≤ locE (twoL us k) p q)) := by
  have HW := cut_HW hk
  have HW' : ∀ M p q, wnd (scL M us) p q = wnd (scL M (twoL us k)) p q + wnd (scL M (oneL us k)) p q := fun M p q => by rw [HW]; omega
  have w := cut_wnd hk p q
  have t1 := loc_three (oneL us k) p q
  have t2 := loc_three (twoL us k) p q
  have t3 := loc_three us p q
  have e1 : locE (oneL us k) p q = 1 → locE (twoL us k) p q ≠ 0 := fun a b => by
    obtain ⟨g, hg, ho⟩ := loc_zero.1 b
    exact exclG hU h1 h2 HW a hg ho
  have e2 : locE (twoL us k) p q = 1 → locE (oneL us k) p q ≠ 0 := fun a b => by
    obtain ⟨g, hg, ho⟩ := loc_zero.1 b
    exact exclG hU h2 h1 HW' a hg ho
  have e3 : locE (oneL us k) p q = 1 → locE (twoL us k) p q ≠ 1 := fun a b => by
    have a := ((loc_oneG h1).1 a).2
    have b := ((loc_oneG h2).1 b).2
    have := hU.wnd p q
    omega
  refine ⟨by omega, by omega, ?_⟩
  by_cases hon : locE us p q = 0
  · obtain ⟨i, hi, ho⟩ := loc_zero.1 hon
    have : locE (oneL us k) p q = 0 ∨ locE (twoL us k) p q = 0 := (us_on hk hi ho).imp (fun h => loc_zero.2 h) (fun h => loc_zero.2 h)
    omega
  · have off : ∀ i, i < us.length → onE us p q i = false := fun i hi => by
      cases g : onE us p q i with
      | false => rfl
      | true => exact absurd (loc_zero.2 ⟨i, hi, g⟩) hon
    have nc : ∀ i, i < us.length → ¬ (p = cx us i ∧ q = cy us i) := fun i hi => by
      rintro ⟨rfl, rfl⟩
      have := off i hi
      unfold onE at this
      rw [on_first] at this
      cases this
    have chord : onE (oneL us k) p q k = true ∨ onE (twoL us k) p q 0 = true → locE us p q = 1 := fun h => by
      have cl1 : nx (oneL us k).length k = 0 := by rw [oneL_len (by omega)]; unfold nx; exact Nat.mod_self _
      have cl2 : nx (twoL us k).length 0 = 1 := by rw [twoL_len]; exact nx_small (by omega)
      have o1 : onB (cx us k) (cy us k) (cx us 0) (cy us 0) p q = true := by
        rcases h with h | h
        · unfold onE at h
          rw [cl1, (oneL_at (Nat.le_refl k)).1, (oneL_at (Nat.le_refl k)).2, (oneL_at (Nat.zero_le k)).1, (oneL_at (Nat.zero_le k)).2] at h
          exact h
        · unfold onE at h
          rw [cl2, (twoL_zero us k).1, (twoL_zero us k).2, (twoL_at us k 0).1, (twoL_at us k 0).2, Nat.add_zero] at h
          rw [← onB_rev]
          exact h
      have i1 : InE (oneL us k) k p q := by
        refine ⟨?_, ?_, ?_⟩
        · unfold onE
          rw [cl1, (oneL_at (Nat.le_refl k)).1, (oneL_at (Nat.le_refl k)).2, (oneL_at (Nat.zero_le k)).1, (oneL_at (Nat.zero_le k)).2]
          exact o1
        · rw [(oneL_at (Nat.le_refl k)).1, (oneL_at (Nat.le_refl k)).2]
          exact nc k (by omega)
        · rw [cl1, (oneL_at (Nat.zero_le k)).1, (oneL_at (Nat.zero_le k)).2]
          exact nc 0 (by omega)
      have i2 : InE (twoL us k) 0 p q := by
        refine ⟨?_, ?_, ?_⟩
        · unfold onE
          rw [cl2, (twoL_zero us k).1, (twoL_zero us k).2, (twoL_at us k 0).1, (twoL_at us k 0).2, Nat.add_zero, ← onB_rev]
          exact o1
        · rw [(twoL_zero us k).1, (twoL_zero us k).2]
          exact nc 0 (by omega)
        · rw [cl2, (twoL_at us k 0).1, (twoL_at us k 0).2, Nat.add_zero]
          exact nc k (by omega)
      have v1 := h1.edge (by rw [oneL_len (by omega)]; omega) i1
      have v2 := h2.edge (by rw [twoL_len]; omega) i2
      have nd := edge_nd h1.1 (e := k) (by rw [oneL_len (by omega)]; omega)
      unfold dnEi at v1 v2
      rw [cl1, (oneL_at (Nat.le_refl k)).1, (oneL_at (Nat.le_refl k)).2, (oneL_at (Nat.zero_le k)).1, (oneL_at (Nat.zero_le k)).2] at v1 nd
      rw [cl2, (twoL_zero us k).1, (twoL_zero us k).2, (twoL_at us k 0).1, (twoL_at us k 0).2, Nat.add_zero] at v2
      have s : dnE (cx us k) (cy us k) (cx us 0) (cy us 0) + dnE (cx us 0) (cy us 0) (cx us k) (cy us k) = 1 := by
        unfold dnE
        by_cases h : cy us 0 < cy us k ∨ cy us k = cy us 0 ∧ cx us k < cx us 0
        · rw [if_pos h, if_neg (by omega)]; rfl
        · rw [if_neg h, if_pos (by omega)]; rfl
      exact (loc_oneG hU).2 ⟨off, by omega⟩
    by_cases z1 : locE (oneL us k) p q = 0
    · obtain ⟨e, he, ho⟩ := loc_zero.1 z1
      rcases one_on hk he ho with rfl | h
      · have := chord (.inl ho); omega
      · rw [oneL_len (by omega)] at he
        rw [off e (by omega)] at h; cases h
    · by_cases z2 : locE (twoL us k) p q = 0
      · obtain ⟨e, he, ho⟩ := loc_zero.1 z2
        rcases two_on hk he ho with rfl | h
        · have := chord (.inr ho); omega
        · rw [twoL_len] at he
          rw [off _ (by omega)] at h; cases h
      · have a1 : locE (oneL us k) p q = 1 ↔ wnd (oneL us k) p q = 1 := ⟨fun h => ((loc_oneG h1).1 h).2, fun h => (loc_oneG h1).2 ⟨fun i hi => by
          cases g : onE (oneL us k) p q i with
          | false => rfl
          | true => exact absurd (loc_zero.2 ⟨i, hi, g⟩) z1, h⟩⟩
        have a2 : locE (twoL us k) p q = 1 ↔ wnd (twoL us k) p q = 1 := ⟨fun h => ((loc_oneG h2).1 h).2, fun h => (loc_oneG h2).2 ⟨fun i hi => by
          cases g : onE (twoL us k) p q i with
          | false => rfl
          | true => exact absurd (loc_zero.2 ⟨i, hi, g⟩) z2, h⟩⟩
        have a3 : locE us p q = 1 ↔ wnd us p q = 1 := ⟨fun h => ((loc_oneG hU).1 h).2, fun h => (loc_oneG hU).2 ⟨off, h⟩⟩
        have b1 := h1.wnd p q
        have b2 := h2.wnd p q
        have b3 := hU.wnd p q
        omega
end Go.Proofs.YtalhkcmlacppjaaDoor


namespace Go.Proofs.YtalhkcmlacppjaaDoor
open Go.ChangeShapes Go.WideShapes Go.ChangeAt Go.RowKit
set_option linter.unusedVariables false
set_option linter.unusedSimpArgs false

/-- A point of a segment with no end to the right of a line. -/
theorem on_nonneg {a b c d x1 x2 y1 y2 p q : Int} (h : onB x1 x2 y1 y2 p q = true) (hx : 0 ≤ det a b c d x1 x2) (hy : 0 ≤ det a b c d y1 y2) : 0 ≤ det a b c d p q := by
  have e : ∀ x y : Int, det a b c d x y = -(d - b) * x + (c - a) * y + ((d - b) * a - (c - a) * b) := fun x y => by unfold det; grind
  have := on_pos (-(d - b)) (c - a) ((d - b) * a - (c - a) * b + 1) h (by have := e x1 x2; omega) (by have := e y1 y2; omega)
  have := e p q
  omega
def triL (u1 u2 v1 v2 w1 w2 : Int) : List (Int × Int) := [(u1, u2), (v1, v2), (w1, w2)]
section
variable (u1 u2 v1 v2 w1 w2 : Int)
theorem det_cyc (a b c d e f : Int) : det c d e f a b = det a b c d e f := by unfold det; grind
theorem tri_sum (p q : Int) : det u1 u2 v1 v2 p q + det v1 v2 w1 w2 p q + det w1 w2 u1 u2 p q = det u1 u2 v1 v2 w1 w2 := by unfold det; grind
theorem tri_bary1 (p q : Int) : det u1 u2 v1 v2 w1 w2 * p = det v1 v2 w1 w2 p q * u1 + det w1 w2 u1 u2 p q * v1 + det u1 u2 v1 v2 p q * w1 := by unfold det; grind
theorem tri_bary2 (p q : Int) : det u1 u2 v1 v2 w1 w2 * q = det v1 v2 w1 w2 p q * u2 + det w1 w2 u1 u2 p q * v2 + det u1 u2 v1 v2 p q * w2 := by unfold det; grind
theorem tri_len : (triL u1 u2 v1 v2 w1 w2).length = 3 := rfl
theorem tri_at : (cx (triL u1 u2 v1 v2 w1 w2) 0 = u1 ∧ cy (triL u1 u2 v1 v2 w1 w2) 0 = u2) ∧ (cx (triL u1 u2 v1 v2 w1 w2) 1 = v1 ∧ cy (triL u1 u2 v1 v2 w1 w2) 1 = v2) ∧ cx (triL u1 u2 v1 v2 w1 w2) 2 = w1 ∧ cy (triL u1 u2 v1 v2 w1 w2) 2 = w2 := ⟨⟨rfl, rfl⟩, ⟨rfl, rfl⟩, rfl, rfl⟩
theorem nx3 : nx 3 0 = 1 ∧ nx 3 1 = 2 ∧ nx 3 2 = 0 := by unfold nx; omega
theorem tri_on (p q : Int) : (onE (triL u1 u2 v1 v2 w1 w2) p q 0 = onB u1 u2 v1 v2 p q) ∧ (onE (triL u1 u2 v1 v2 w1 w2) p q 1 = onB v1 v2 w1 w2 p q) ∧ onE (triL u1 u2 v1 v2 w1 w2) p q 2 = onB w1 w2 u1 u2 p q := by
  unfold onE
  rw [tri_len, nx3.1, nx3.2.1, nx3.2.2]
  exact ⟨rfl, rfl, rfl⟩
theorem sum3 (f : Nat → Int) : sumE f (List.range 3) = f 0 + (f 1 + (f 2 + 0)) := rfl
theorem tri_wnd (p q : Int) : wnd (triL u1 u2 v1 v2 w1 w2) p q = wE u1 u2 v1 v2 p q + (wE v1 v2 w1 w2 p q + (wE w1 w2 u1 u2 p q + 0)) := by
  unfold wnd
  rw [tri_len, sum3]
  unfold wEi
  rw [tri_len, nx3.1, nx3.2.1, nx3.2.2]
  rfl
theorem tri_area : area2 (triL u1 u2 v1 v2 w1 w2) = (u1 * v2 - u2 * v1) + ((v1 * w2 - v2 * w1) + ((w1 * u2 - w2 * u1) + 0)) := by
  unfold area2
  rw [tri_len, sum3]
  unfold crossE
  rw [tri_len, nx3.1, nx3.2.1, nx3.2.2]
  rfl
/-- The crossing of one edge, by cases. -/
theorem wE_cases (a b c d p q : Int) : ((q < b ↔ q < d) ∧ wE a b c d p q = 0) ∨ (b ≤ q ∧ q < d ∧ (0 < det a b c d p q ∧ wE a b c d p q = 1 ∨ det a b c d p q ≤ 0 ∧ wE a b c d p q = 0)) ∨ (d ≤ q ∧ q < b ∧ (det a b c d p q < 0 ∧ wE a b c d p q = -1 ∨ 0 ≤ det a b c d p q ∧ wE a b c d p q = 0)) := by
  have hd : det a b c d p q = (a - p) * (d - q) - (b - q) * (c - p) := by unfold det; grind
  rw [wE_rdS, hd]
  unfold rdS hiB
  rw [show (1 : Int) * (b - q) - 0 * (a - p) = b - q by omega, show (1 : Int) * (d - q) - 0 * (c - p) = d - q by omega]
  generalize (a - p) * (d - q) - (b - q) * (c - p) = D
  by_cases h1 : 0 < b - q <;> by_cases h2 : 0 < d - q <;> simp [h1, h2, bi] <;> omega
/-- To the right of the first side, the sum is not one. -/
theorem tri_ne (p q : Int) (h : det u1 u2 v1 v2 p q < 0) : wE u1 u2 v1 v2 p q + (wE v1 v2 w1 w2 p q + wE w1 w2 u1 u2 p q) ≠ 1 := by
  have eq : det v1 v2 w1 w2 p q * (u2 - q) + det w1 w2 u1 u2 p q * (v2 - q) + det u1 u2 v1 v2 p q * (w2 - q) = 0 := by unfold det; grind
  have c1 := wE_cases u1 u2 v1 v2 p q
  have c2 := wE_cases v1 v2 w1 w2 p q
  have c3 := wE_cases w1 w2 u1 u2 p q
  generalize det u1 u2 v1 v2 p q = C at *
  generalize det v1 v2 w1 w2 p q = A at *
  generalize det w1 w2 u1 u2 p q = B at *
  generalize wE u1 u2 v1 v2 p q = x1 at *
  generalize wE v1 v2 w1 w2 p q = x2 at *
  generalize wE w1 w2 u1 u2 p q = x3 at *
  intro one
  have case1 : (v2 ≤ q ∧ u2 ≤ q ∧ q < w2 ∧ 0 < A ∧ 0 ≤ B) ∨ (w2 ≤ q ∧ q < u2 ∧ q < v2 ∧ 0 < B ∧ 0 ≤ A) := by omega
  rcases case1 with ⟨k1, k2, k3, k4, k5⟩ | ⟨k1, k2, k3, k4, k5⟩
  · have m1 : A * (u2 - q) ≤ 0 := Int.mul_nonpos_of_nonneg_of_nonpos (by omega) (by omega)
    have m2 : B * (v2 - q) ≤ 0 := Int.mul_nonpos_of_nonneg_of_nonpos (by omega) (by omega)
    have m3 : C * (w2 - q) < 0 := Int.mul_neg_of_neg_of_pos h (by omega)
    omega
  · have m1 : 0 ≤ A * (u2 - q) := Int.mul_nonneg (by omega) (by omega)
    have m2 : 0 < B * (v2 - q) := Int.mul_pos (by omega) (by omega)
    have m3 : 0 ≤ C * (w2 - q) := Int.mul_nonneg_of_nonpos_of_nonpos (by omega) (by omega)
    omega
/-- To the right of the first side, on no side. -/
theorem tri_off (p q : Int) (hD : 0 < det u1 u2 v1 v2 w1 w2) (h : det u1 u2 v1 v2 p q < 0) : onB u1 u2 v1 v2 p q = false ∧ onB v1 v2 w1 w2 p q = false ∧ onB w1 w2 u1 u2 p q = false := by
  have n : ∀ {a b c d : Int}, (onB a b c d p q = true → False) → onB a b c d p q = false := fun {a b c d} k => by
    cases g : onB a b c d p q with
    | false => rfl
    | true => exact (k g).elim
  refine ⟨n fun g => ?_, n fun g => ?_, n fun g => ?_⟩
  · have := det_on g; omega
  · have e := on_nonneg (a := u1) (b := u2) (c := v1) (d := v2) g (by unfold det; grind) (by omega)
    omega
  · have e := on_nonneg (a := u1) (b := u2) (c := v1) (d := v2) g (by omega) (by unfold det; grind)
    omega
/-- To the left of all sides or on them, and on the line of the first: on the first side. -/
theorem tri_edge (p q : Int) (hD : 0 < det u1 u2 v1 v2 w1 w2) (h : det u1 u2 v1 v2 p q = 0) (h1 : 0 ≤ det v1 v2 w1 w2 p q) (h2 : 0 ≤ det w1 w2 u1 u2 p q) : onB u1 u2 v1 v2 p q = true := by
  have b1 := tri_bary1 u1 u2 v1 v2 w1 w2 p q
  have b2 := tri_bary2 u1 u2 v1 v2 w1 w2 p q
  have sm := tri_sum u1 u2 v1 v2 w1 w2 p q
  have key : ∀ {a c x : Int}, det u1 u2 v1 v2 w1 w2 * x = det v1 v2 w1 w2 p q * a + det w1 w2 u1 u2 p q * c + det u1 u2 v1 v2 p q * 0 → (a ≤ x ∨ c ≤ x) ∧ (x ≤ a ∨ x ≤ c) := fun {a c x} e => by
    rw [← sm, h] at e
    generalize det v1 v2 w1 w2 p q = A at *
    generalize det w1 w2 u1 u2 p q = B at *
    have e' : A * (x - a) + B * (x - c) = 0 := by grind
    constructor
    · rcases Int.lt_or_le x a with g | g
      · rcases Int.lt_or_le x c with g2 | g2
        · exfalso
          have m1 : A * (x - a) ≤ 0 := Int.mul_nonpos_of_nonneg_of_nonpos (by omega) (by omega)
          have m2 : B * (x - c) ≤ 0 := Int.mul_nonpos_of_nonneg_of_nonpos (by omega) (by omega)
          rcases Int.mul_eq_zero.1 (show A * (x - a) = 0 by omega) with z | z
          · rcases Int.mul_eq_zero.1 (show B * (x - c) = 0 by omega) with y | y <;> omega
          · omega
        · exact .inr g2
      · exact .inl g
    · rcases Int.lt_or_le a x with g | g
      · rcases Int.lt_or_le c x with g2 | g2
        · exfalso
          have m1 : 0 ≤ A * (x - a) := Int.mul_nonneg (by omega) (by omega)
          have m2 : 0 ≤ B * (x - c) := Int.mul_nonneg (by omega) (by omega)
          rcases Int.mul_eq_zero.1 (show A * (x - a) = 0 by omega) with z | z
          · rcases Int.mul_eq_zero.1 (show B * (x - c) = 0 by omega) with y | y <;> omega
          · omega
        · exact .inr g2
      · exact .inl g
  rw [h] at b1 b2
  exact on_of h (key (by rw [h]; omega)) (key (by rw [h]; omega))
end
section
variable {u1 u2 v1 v2 w1 w2 : Int} (hD : 0 < det u1 u2 v1 v2 w1 w2)
include hD
theorem tri_ccw : Ccw (triL u1 u2 v1 v2 w1 w2) := by
  have e1 := det_cyc u1 u2 v1 v2 w1 w2
  have e2 := det_cyc v1 v2 w1 w2 u1 u2
  refine ⟨⟨Nat.le_refl _, fun i hi => ?_, fun i j hi hj hap => ?_⟩, ?_⟩
  · have hi : i < 3 := hi
    obtain ⟨⟨a1, a2⟩, ⟨a3, a4⟩, a5, a6⟩ := tri_at u1 u2 v1 v2 w1 w2
    rw [tri_len]
    left
    obtain rfl | rfl | rfl : i = 0 ∨ i = 1 ∨ i = 2 := by omega
    · rw [nx3.1, nx3.2.1, a1, a2, a3, a4, a5, a6]; omega
    · rw [nx3.2.1, nx3.2.2, a1, a2, a3, a4, a5, a6]; omega
    · rw [nx3.2.2, nx3.1, a1, a2, a3, a4, a5, a6]; omega
  · exfalso
    have hi : i < 3 := hi
    have hj : j < 3 := hj
    obtain ⟨a, b, c⟩ := hap
    have b : (i + 1) % 3 ≠ j := b
    have c : (j + 1) % 3 ≠ i := c
    omega
  · rw [tri_area]
    have e : (u1 * v2 - u2 * v1) + ((v1 * w2 - v2 * w1) + ((w1 * u2 - w2 * u1) + 0)) = det u1 u2 v1 v2 w1 w2 := by unfold det; grind
    omega
/-- To the left of all three sides: inside. -/
theorem tri_in {p q : Int} (h1 : 0 < det u1 u2 v1 v2 p q) (h2 : 0 < det v1 v2 w1 w2 p q) (h3 : 0 < det w1 w2 u1 u2 p q) : locE (triL u1 u2 v1 v2 w1 w2) p q = 1 := by
  have hc := tri_ccw hD
  rw [loc_one' hc]
  refine ⟨fun i hi => ?_, ?_⟩
  · have hi : i < 3 := hi
    have no : ∀ {a b c d : Int}, 0 < det a b c d p q → onB a b c d p q = false := fun {a b c d} h => by
      cases g : onB a b c d p q with
      | false => rfl
      | true => have := det_on g; omega
    have o := tri_on u1 u2 v1 v2 w1 w2 p q
    obtain rfl | rfl | rfl : i = 0 ∨ i = 1 ∨ i = 2 := by omega
    · rw [o.1]; exact no h1
    · rw [o.2.1]; exact no h2
    · rw [o.2.2]; exact no h3
  · have w := tri_wnd u1 u2 v1 v2 w1 w2 p q
    have b := tri_bary2 u1 u2 v1 v2 w1 w2 p q
    have sm := tri_sum u1 u2 v1 v2 w1 w2 p q
    have up : ∀ {a b c d : Int}, 0 < det a b c d p q → wE a b c d p q = bi (decide (b ≤ q) && decide (q < d)) := fun {a b c d} h => by
      unfold wE upB
      rw [ori_pos, ori_pos, det_rev, decide_eq_true h, decide_eq_false (show ¬ 0 < -det a b c d p q by omega), Bool.and_true, Bool.and_false]
      split
      · by_cases k : b ≤ q
        · rw [decide_eq_false (show ¬ q < d by omega)]; simp [bi]
        · rw [decide_eq_false k]; simp [bi]
      · rfl
    rw [up h1, up h2, up h3] at w
    have one := hc.wnd p q
    rcases one with one | one
    · exfalso
      rw [one] at w
      have bd := fun x => bi_bd x
      have a1 := bd (decide (u2 ≤ q) && decide (q < v2))
      have a2 := bd (decide (v2 ≤ q) && decide (q < w2))
      have a3 := bd (decide (w2 ≤ q) && decide (q < u2))
      have z : ∀ {x y : Int}, bi (decide (x ≤ q) && decide (q < y)) = 0 → x ≤ q → y ≤ q := fun {x y} h hx => by
        rcases Int.lt_or_le q y with g | g
        · rw [decide_eq_true hx, decide_eq_true g] at h; simp [bi] at h
        · exact g
      have z1 := z (show bi (decide (u2 ≤ q) && decide (q < v2)) = 0 by omega)
      have z2 := z (show bi (decide (v2 ≤ q) && decide (q < w2)) = 0 by omega)
      have z3 := z (show bi (decide (w2 ≤ q) && decide (q < u2)) = 0 by omega)
      generalize det u1 u2 v1 v2 p q = C at *
      generalize det v1 v2 w1 w2 p q = A at *
      generalize det w1 w2 u1 u2 p q = B at *
      have eq : A * (u2 - q) + B * (v2 - q) + C * (w2 - q) = 0 := by
        have : A * (u2 - q) + B * (v2 - q) + C * (w2 - q) = (A * u2 + B * v2 + C * w2) - (C + A + B) * q := by grind
        rw [this, sm]; omega
      rcases Int.lt_or_le q u2 with k | k
      · have k2 : q < v2 := by
          rcases Int.lt_or_le q v2 with g | g
          · exact g
          · have := z3 (z2 g); omega
        have k3 : q < w2 := by
          rcases Int.lt_or_le q w2 with g | g
          · exact g
          · have := z3 g; omega
        have m1 := pp h2 (show 0 < u2 - q by omega)
        have m2 := pp h3 (show 0 < v2 - q by omega)
        have m3 := pp h1 (show 0 < w2 - q by omega)
        omega
      · have k2 := z1 k
        have k3 := z2 k2
        have m1 : A * (u2 - q) ≤ 0 := Int.mul_nonpos_of_nonneg_of_nonpos (by omega) (by omega)
        have m2 : B * (v2 - q) ≤ 0 := Int.mul_nonpos_of_nonneg_of_nonpos (by omega) (by omega)
        have m3 : C * (w2 - q) ≤ 0 := Int.mul_nonpos_of_nonneg_of_nonpos (by omega) (by omega)
        have e1 := Int.mul_eq_zero.1 (show A * (u2 - q) = 0 by omega)
        have e2 := Int.mul_eq_zero.1 (show B * (v2 - q) = 0 by omega)
        have e3 := Int.mul_eq_zero.1 (show C * (w2 - q) = 0 by omega)
        have f1 : u2 = q := by omega
        have f2 : v2 = q := by omega
        have f3 : w2 = q := by omega
        subst f1
        rw [f2, f3] at hD
        have : det u1 u2 v1 u2 w1 u2 = 0 := by unfold det; grind
        omega
    · exact one
/-- To the right of a side: outside. -/
theorem tri_out {p q : Int} (h : det u1 u2 v1 v2 p q < 0 ∨ det v1 v2 w1 w2 p q < 0 ∨ det w1 w2 u1 u2 p q < 0) : locE (triL u1 u2 v1 v2 w1 w2) p q = -1 := by
  have hc := tri_ccw hD
  have d1 := det_cyc u1 u2 v1 v2 w1 w2
  have d2 := det_cyc v1 v2 w1 w2 u1 u2
  have o := tri_on u1 u2 v1 v2 w1 w2 p q
  have w := tri_wnd u1 u2 v1 v2 w1 w2 p q
  have both : (onB u1 u2 v1 v2 p q = false ∧ onB v1 v2 w1 w2 p q = false ∧ onB w1 w2 u1 u2 p q = false) ∧ wnd (triL u1 u2 v1 v2 w1 w2) p q ≠ 1 := by
    rcases h with h | h | h
    · have := tri_ne u1 u2 v1 v2 w1 w2 p q h
      exact ⟨tri_off u1 u2 v1 v2 w1 w2 p q hD h, by omega⟩
    · have := tri_ne v1 v2 w1 w2 u1 u2 p q h
      obtain ⟨k1, k2, k3⟩ := tri_off v1 v2 w1 w2 u1 u2 p q (by omega) h
      exact ⟨⟨k3, k1, k2⟩, by omega⟩
    · have := tri_ne w1 w2 u1 u2 v1 v2 p q h
      obtain ⟨k1, k2, k3⟩ := tri_off w1 w2 u1 u2 v1 v2 p q (by omega) h
      exact ⟨⟨k2, k3, k1⟩, by omega⟩
  rcases loc_three (triL u1 u2 v1 v2 w1 w2) p q with g | g | g
  · obtain ⟨i, hi, k⟩ := loc_zero.1 g
    have hi : i < 3 := hi
    obtain ⟨⟨b1, b2, b3⟩, _⟩ := both
    obtain rfl | rfl | rfl : i = 0 ∨ i = 1 ∨ i = 2 := by omega
    · rw [o.1, b1] at k; cases k
    · rw [o.2.1, b2] at k; cases k
    · rw [o.2.2, b3] at k; cases k
  · exact absurd ((loc_one' hc).1 g).2 both.2
  · exact g
/-- The closed triangle. -/
theorem tri_closed {p q : Int} : locE (triL u1 u2 v1 v2 w1 w2) p q ≠ -1 ↔ 0 ≤ det u1 u2 v1 v2 p q ∧ 0 ≤ det v1 v2 w1 w2 p q ∧ 0 ≤ det w1 w2 u1 u2 p q := by
  have d1 := det_cyc u1 u2 v1 v2 w1 w2
  have d2 := det_cyc v1 v2 w1 w2 u1 u2
  have o := tri_on u1 u2 v1 v2 w1 w2 p q
  constructor
  · intro h
    refine ⟨?_, ?_, ?_⟩
    · exact Int.not_lt.1 fun k => h (tri_out hD (.inl k))
    · exact Int.not_lt.1 fun k => h (tri_out hD (.inr (.inl k)))
    · exact Int.not_lt.1 fun k => h (tri_out hD (.inr (.inr k)))
  · intro ⟨h1, h2, h3⟩ e
    have z : ∀ i, i < 3 → onE (triL u1 u2 v1 v2 w1 w2) p q i = true → False := fun i hi k => by
      have := (loc_zero (ps := triL u1 u2 v1 v2 w1 w2)).2 ⟨i, by rw [tri_len]; exact hi, k⟩
      omega
    have s1 : det u1 u2 v1 v2 p q ≠ 0 := fun k => z 0 (by omega) (by rw [o.1]; exact tri_edge u1 u2 v1 v2 w1 w2 p q hD k h2 h3)
    have s2 : det v1 v2 w1 w2 p q ≠ 0 := fun k => z 1 (by omega) (by rw [o.2.1]; exact tri_edge v1 v2 w1 w2 u1 u2 p q (by omega) k h3 h1)
    have s3 : det w1 w2 u1 u2 p q ≠ 0 := fun k => z 2 (by omega) (by rw [o.2.2]; exact tri_edge w1 w2 u1 u2 v1 v2 p q (by omega) k h1 h2)
    have := tri_in hD (p := p) (q := q) (by omega) (by omega) (by omega)
    omega
/-- The open triangle. -/
theorem tri_pos {p q : Int} (h : locE (triL u1 u2 v1 v2 w1 w2) p q = 1) : 0 < det u1 u2 v1 v2 p q ∧ 0 < det v1 v2 w1 w2 p q ∧ 0 < det w1 w2 u1 u2 p q := by
  have d1 := det_cyc u1 u2 v1 v2 w1 w2
  have d2 := det_cyc v1 v2 w1 w2 u1 u2
  have o := tri_on u1 u2 v1 v2 w1 w2 p q
  obtain ⟨h1, h2, h3⟩ := (tri_closed hD).1 (show locE (triL u1 u2 v1 v2 w1 w2) p q ≠ -1 by omega)
  have z : ∀ i, i < 3 → onE (triL u1 u2 v1 v2 w1 w2) p q i = true → False := fun i hi k => by
    have := (loc_zero (ps := triL u1 u2 v1 v2 w1 w2)).2 ⟨i, by rw [tri_len]; exact hi, k⟩
    omega
  have s1 : det u1 u2 v1 v2 p q ≠ 0 := fun k => z 0 (by omega) (by rw [o.1]; exact tri_edge u1 u2 v1 v2 w1 w2 p q hD k h2 h3)
  have s2 : det v1 v2 w1 w2 p q ≠ 0 := fun k => z 1 (by omega) (by rw [o.2.1]; exact tri_edge v1 v2 w1 w2 u1 u2 p q (by omega) k h3 h1)
  have s3 : det w1 w2 u1 u2 p q ≠ 0 := fun k => z 2 (by omega) (by rw [o.2.2]; exact tri_edge w1 w2 u1 u2 v1 v2 p q (by omega) k h1 h2)
  omega
end
end Go.Proofs.YtalhkcmlacppjaaDoor


namespace Go.Proofs.YtalhkcmlacppjaaDoor
open Go.ChangeShapes Go.WideShapes Go.ChangeAt Go.RowKit
set_option linter.unusedVariables false
set_option linter.unusedSimpArgs false

/-- The corner furthest up, and of those the one furthest right, turns left. -/
theorem top_left {ps : List (Int × Int)} (hg : Good ps) : ∃ e, e < ps.length ∧ 0 < det (cx ps e) (cy ps e) (cx ps (nx ps.length e)) (cy ps (nx ps.length e)) (cx ps (nx ps.length (nx ps.length e))) (cy ps (nx ps.length (nx ps.length e))) ∧ ∀ i, i < ps.length → cy ps i < cy ps (nx ps.length e) ∨ (cy ps i = cy ps (nx ps.length e) ∧ cx ps i ≤ cx ps (nx ps.length e)) := by
  obtain ⟨hs, hR⟩ := hg
  obtain ⟨f, hf, hm⟩ := top_corner ps ps.length (by have := hs.1; omega)
  obtain ⟨e, he, rfl⟩ := nx_pred hf
  refine ⟨e, he, ?_, hm⟩
  have nd := edge_nd hs he
  have me := hm e he
  have hef : e ≠ nx ps.length e := fun h => nx_ne (by have := hs.1; omega) he h.symm
  by_cases ha : cy ps e = cy ps (nx ps.length e)
  · have k := at_edge hs he (N := 2) (by omega) (near_in hs he (by omega))
    rw [wnd_top] at k
    · have := hR e he
      have d : dnEi ps e = 1 := by
        unfold dnEi dnE
        rw [if_pos (by omega)]
      rw [this, d] at k
      exact absurd k (by decide)
    · intro i hi
      rw [scL_len] at hi
      rw [(scL_at 2 ps i).2]
      have := hm i hi
      omega
  · have hA : cy ps e - cy ps (nx ps.length e) < 0 := by omega
    obtain ⟨N, hN, hNa⟩ : ∃ N : Int, 2 ≤ N ∧ (-N < cy ps e - cy ps (nx ps.length e) ∧ cy ps e - cy ps (nx ps.length e) < N) := ⟨(cy ps e - cy ps (nx ps.length e)).natAbs + 2, by omega⟩
    have yin := near_in hs he hN
    have ly := at_edge hs he (by omega) yin
    have he' : e < (scL N ps).length := by rw [scL_len]; exact he
    have hf' : nx ps.length e < (scL N ps).length := by rw [scL_len]; exact hf
    have cen1 : cx (scL N ps) (nx (scL N ps).length e) = N * cx ps (nx ps.length e) := by rw [scL_len]; exact (scL_at N ps _).1
    have cen2 : cy (scL N ps) (nx (scL N ps).length e) = N * cy ps (nx ps.length e) := by rw [scL_len]; exact (scL_at N ps _).2
    have zon : onE (scL N ps) (N * cx ps (nx ps.length e)) (N * cy ps (nx ps.length e)) e = true := by
      unfold onE
      rw [cen1, cen2]
      exact on_last
    have zon' : onE (scL N ps) (N * cx ps (nx ps.length e)) (N * cy ps (nx ps.length e)) (nx ps.length e) = true := by
      unfold onE
      rw [(scL_at N ps (nx ps.length e)).1, (scL_at N ps (nx ps.length e)).2]
      exact on_first
    have zne : ¬ (N * cx ps (nx ps.length e) = cx (scL N ps) e ∧ N * cy ps (nx ps.length e) = cy (scL N ps) e) := by
      rw [(scL_at N ps e).1, (scL_at N ps e).2]
      exact mul_ne2 (by omega) (fun h => nd ⟨h.1.symm, h.2.symm⟩)
    have seg : ∀ i, i < (scL N ps).length → i ≠ e → i ≠ nx ps.length e → segB (cx (scL N ps) i) (cy (scL N ps) i) (cx (scL N ps) (nx (scL N ps).length i)) (cy (scL N ps) (nx (scL N ps).length i)) (cx ps e - cx ps (nx ps.length e) + N * cx ps (nx ps.length e)) (cy ps e - cy ps (nx ps.length e) + N * cy ps (nx ps.length e)) (N * cx ps (nx ps.length e)) (N * cy ps (nx ps.length e)) = false := fun i hi h1 h2 =>
      edge_free2 (hs.sc (by omega)) he' yin.1 zon yin.2.1 zne hi h1 (by rw [scL_len]; exact h2)
    have k := wnd_two (scL N ps) e (nx ps.length e) hef he' hf' (show cy ps e - cy ps (nx ps.length e) + N * cy ps (nx ps.length e) < N * cy ps (nx ps.length e) by omega) seg
    have nds : ¬ (cx (scL N ps) e = cx (scL N ps) (nx (scL N ps).length e) ∧ cy (scL N ps) e = cy (scL N ps) (nx (scL N ps).length e)) := edge_nd (hs.sc (N := N) (by omega)) he'
    have dl := det_line nds yin.1 zon
    rw [wEi_on yin.1, wEi_on zon, wEi_on zon', inQ_zero dl.1, cen1, cen2, (scL_at N ps (nx ps.length e)).1, (scL_at N ps (nx ps.length e)).2] at k
    have kc1 : N * cx ps (nx ps.length (nx ps.length e)) = N * (cx ps (nx ps.length (nx ps.length e)) - cx ps (nx ps.length e)) + N * cx ps (nx ps.length e) := by grind
    have kc2 : N * cy ps (nx ps.length (nx ps.length e)) = N * (cy ps (nx ps.length (nx ps.length e)) - cy ps (nx ps.length e)) + N * cy ps (nx ps.length e) := by grind
    have cfn1 : cx (scL N ps) (nx (scL N ps).length (nx ps.length e)) = N * cx ps (nx ps.length (nx ps.length e)) := by rw [scL_len]; exact (scL_at N ps _).1
    have cfn2 : cy (scL N ps) (nx (scL N ps).length (nx ps.length e)) = N * cy ps (nx ps.length (nx ps.length e)) := by rw [scL_len]; exact (scL_at N ps _).2
    have mc := hm _ (nx_lt' hf)
    have q := topQ (A1 := cx ps e - cx ps (nx ps.length e)) (C1 := cx ps (nx ps.length (nx ps.length e)) - cx ps (nx ps.length e)) (C2 := cy ps (nx ps.length (nx ps.length e)) - cy ps (nx ps.length e)) hN hNa.1 hA (by omega)
    rw [← inQ_mov _ _ _ _ _ _ (N * cx ps (nx ps.length e)) (N * cy ps (nx ps.length e)), ← kc1, ← kc2, Int.zero_add, Int.zero_add] at q
    rw [cfn1, cfn2, q] at k
    have U := valU (C1 := cx ps (nx ps.length (nx ps.length e)) - cx ps (nx ps.length e)) (C2 := cy ps (nx ps.length (nx ps.length e)) - cy ps (nx ps.length e)) (A1 := cx ps e - cx ps (nx ps.length e)) hN hNa
    have hU : wEi (scL N ps) (cx ps e - cx ps (nx ps.length e) + N * cx ps (nx ps.length e)) (cy ps e - cy ps (nx ps.length e) + N * cy ps (nx ps.length e)) (nx ps.length e) = wE 0 0 (N * (cx ps (nx ps.length (nx ps.length e)) - cx ps (nx ps.length e))) (N * (cy ps (nx ps.length (nx ps.length e)) - cy ps (nx ps.length e))) (cx ps e - cx ps (nx ps.length e)) (cy ps e - cy ps (nx ps.length e)) := by
      unfold wEi
      rw [cfn1, cfn2, (scL_at N ps _).1, (scL_at N ps _).2, kc1, kc2, ← wE_mov 0 0 _ _ _ _ (N * cx ps (nx ps.length e)) (N * cy ps (nx ps.length e)), Int.zero_add, Int.zero_add]
    rw [hU, U] at k
    have z : wnd (scL N ps) (N * cx ps (nx ps.length e)) (N * cy ps (nx ps.length e)) = 0 := wnd_top _ _ _ fun i hi => by
      rw [scL_len] at hi
      rw [(scL_at N ps i).2]
      exact Int.mul_le_mul_of_nonneg_left (by have := hm i hi; omega) (by omega)
    rw [z, ly, hR e he] at k
    have d : dnEi ps e = 0 := by
      unfold dnEi dnE
      rw [if_neg (by omega)]
    rw [d] at k
    rw [show bi false = 0 from rfl] at k
    have ndc := edge_nd hs hf
    have gd := hs.2.1 e he
    have de : det (cx ps e) (cy ps e) (cx ps (nx ps.length e)) (cy ps (nx ps.length e)) (cx ps (nx ps.length (nx ps.length e))) (cy ps (nx ps.length (nx ps.length e))) = (cy ps e - cy ps (nx ps.length e)) * (cx ps (nx ps.length (nx ps.length e)) - cx ps (nx ps.length e)) - (cx ps e - cx ps (nx ps.length e)) * (cy ps (nx ps.length (nx ps.length e)) - cy ps (nx ps.length e)) := by unfold det; grind
    by_cases hC : cy ps (nx ps.length (nx ps.length e)) - cy ps (nx ps.length e) < 0
    · rw [if_pos hC] at k
      have ge : ¬ 0 < (cx ps e - cx ps (nx ps.length e)) * (cy ps (nx ps.length (nx ps.length e)) - cy ps (nx ps.length e)) - (cy ps e - cy ps (nx ps.length e)) * (cx ps (nx ps.length (nx ps.length e)) - cx ps (nx ps.length e)) := by
        intro g
        rw [decide_eq_true hA, decide_eq_true g] at k
        rw [show bi (true && true) = 1 from rfl] at k
        omega
      have ne : det (cx ps e) (cy ps e) (cx ps (nx ps.length e)) (cy ps (nx ps.length e)) (cx ps (nx ps.length (nx ps.length e))) (cy ps (nx ps.length (nx ps.length e))) ≠ 0 := by
        rcases gd with gd | gd
        · exact gd
        · intro z
          rw [de] at z
          generalize cx ps e - cx ps (nx ps.length e) = A1 at *
          generalize cy ps e - cy ps (nx ps.length e) = A2 at *
          generalize cx ps (nx ps.length (nx ps.length e)) - cx ps (nx ps.length e) = C1 at *
          generalize cy ps (nx ps.length (nx ps.length e)) - cy ps (nx ps.length e) = C2 at *
          have m := Int.mul_pos_of_neg_of_neg hA hC
          have m1 : 0 ≤ A1 * C1 := by
            rcases Int.lt_or_le (A1 * C1) 0 with y | y
            · exfalso
              have t := Int.mul_neg_of_neg_of_pos y m
              have t2 : A1 * C1 * (A2 * C2) = (A1 * C2) * (A1 * C2) := by
                have : A2 * C1 = A1 * C2 := by omega
                calc A1 * C1 * (A2 * C2) = (A2 * C1) * (A1 * C2) := by grind
                  _ = _ := by rw [this]
              have t3 : 0 ≤ (A1 * C2) * (A1 * C2) := by
                rcases Int.le_total 0 (A1 * C2) with u | u
                · exact Int.mul_nonneg u u
                · exact Int.mul_nonneg_of_nonpos_of_nonpos u u
              omega
            · exact y
          omega
      omega
    · have hC0 : cy ps (nx ps.length (nx ps.length e)) - cy ps (nx ps.length e) = 0 := by omega
      rw [de, hC0]
      have := Int.mul_pos_of_neg_of_neg hA (show cx ps (nx ps.length (nx ps.length e)) - cx ps (nx ps.length e) < 0 by omega)
      omega
end Go.Proofs.YtalhkcmlacppjaaDoor


namespace Go.Proofs.YtalhkcmlacppjaaDoor
open Go.ChangeShapes Go.WideShapes Go.ChangeAt Go.RowKit
set_option linter.unusedVariables false
set_option linter.unusedSimpArgs false

/-- Two edges meet in a corner only that both have. -/
theorem meet2 {ps : List (Int × Int)} (hs : Simp ps) {e g : Nat} (he : e < ps.length) (hg : g < ps.length) (hne : g ≠ e) {p q : Int} (h : onE ps p q e = true) (h' : onE ps p q g = true) : (nx ps.length e = g ∧ p = cx ps g ∧ q = cy ps g) ∨ (nx ps.length g = e ∧ p = cx ps e ∧ q = cy ps e) := by
  obtain ⟨h1, h2, h3⟩ := hs
  by_cases k1 : nx ps.length e = g
  · subst k1
    exact .inl ⟨rfl, adj_pt (h2 e he) h h'⟩
  · by_cases k2 : nx ps.length g = e
    · have gd := h2 g hg
      have h'' := h'
      unfold onE at h''
      rw [k2] at gd h''
      exact .inr ⟨k2, adj_pt gd h'' h⟩
    · exfalso
      have := h3 g e hg he ⟨hne, k2, k1⟩
      unfold segE at this
      rw [seg_common h' h] at this
      cases this
theorem onE_at {N : Int} {ps : List (Int × Int)} {e : Nat} {p q : Int} (h : onB (N * cx ps e) (N * cy ps e) (N * cx ps (nx ps.length e)) (N * cy ps (nx ps.length e)) p q = true) : onE (scL N ps) p q e = true := by
  unfold onE
  rw [scL_len, (scL_at N ps _).1, (scL_at N ps _).2, (scL_at N ps _).1, (scL_at N ps _).2]
  exact h
/-- An edge with a point inside the triangle of a corner has no point outside on this side of the third side. -/
theorem exit_tri {ps : List (Int × Int)} (hs : Simp ps) {e i : Nat} (he : e < ps.length) (hi : i < ps.length) (n1 : i ≠ e) (n2 : i ≠ nx ps.length e)
    (hD : 0 < det (cx ps e) (cy ps e) (cx ps (nx ps.length e)) (cy ps (nx ps.length e)) (cx ps (nx ps.length (nx ps.length e))) (cy ps (nx ps.length (nx ps.length e))))
    {m1 m2 y1 y2 : Int} (hm : onE ps m1 m2 i = true) (hy : onE ps y1 y2 i = true)
    (a1 : 0 < det (cx ps e) (cy ps e) (cx ps (nx ps.length e)) (cy ps (nx ps.length e)) m1 m2)
    (a2 : 0 < det (cx ps (nx ps.length e)) (cy ps (nx ps.length e)) (cx ps (nx ps.length (nx ps.length e))) (cy ps (nx ps.length (nx ps.length e))) m1 m2)
    (a3 : 0 < det (cx ps (nx ps.length (nx ps.length e))) (cy ps (nx ps.length (nx ps.length e))) (cx ps e) (cy ps e) m1 m2)
    (b3 : 0 < det (cx ps (nx ps.length (nx ps.length e))) (cy ps (nx ps.length (nx ps.length e))) (cx ps e) (cy ps e) y1 y2) :
    0 < det (cx ps e) (cy ps e) (cx ps (nx ps.length e)) (cy ps (nx ps.length e)) y1 y2 ∧ 0 < det (cx ps (nx ps.length e)) (cy ps (nx ps.length e)) (cx ps (nx ps.length (nx ps.length e))) (cy ps (nx ps.length (nx ps.length e))) y1 y2 := by
  have hv : nx ps.length e < ps.length := nx_lt' he
  have hw : nx ps.length (nx ps.length e) < ps.length := nx_lt' hv
  -- a common point of m - y with u - v or v - w is shut out
  have up : ∀ {N X Y : Int}, 0 < N → onB (N * m1) (N * m2) (N * y1) (N * y2) X Y = true → 0 < det (N * cx ps (nx ps.length (nx ps.length e))) (N * cy ps (nx ps.length (nx ps.length e))) (N * cx ps e) (N * cy ps e) X Y := fun {N X Y} hN o =>
    on_det_pos o ((det_sc hN _ _ _ _ _ _).2.2 a3) ((det_sc hN _ _ _ _ _ _).2.2 b3)
  have zero1 : ∀ N : Int, det (N * cx ps (nx ps.length (nx ps.length e))) (N * cy ps (nx ps.length (nx ps.length e))) (N * cx ps e) (N * cy ps e) (N * cx ps e) (N * cy ps e) = 0 := fun N => by unfold det; grind
  have zero2 : ∀ N : Int, det (N * cx ps (nx ps.length (nx ps.length e))) (N * cy ps (nx ps.length (nx ps.length e))) (N * cx ps e) (N * cy ps e) (N * cx ps (nx ps.length (nx ps.length e))) (N * cy ps (nx ps.length (nx ps.length e))) = 0 := fun N => by unfold det; grind
  have oni : ∀ {N X Y : Int}, 0 < N → onB (N * m1) (N * m2) (N * y1) (N * y2) X Y = true → onE (scL N ps) X Y i = true := fun {N X Y} hN o => by
    refine onE_at (on_trans ?_ ?_ o)
    · rw [onB_sc hN]; exact hm
    · rw [onB_sc hN]; exact hy
  have s1 : segB (cx ps e) (cy ps e) (cx ps (nx ps.length e)) (cy ps (nx ps.length e)) m1 m2 y1 y2 = false := by
    cases g : segB (cx ps e) (cy ps e) (cx ps (nx ps.length e)) (cy ps (nx ps.length e)) m1 m2 y1 y2 with
    | false => rfl
    | true =>
      exfalso
      obtain ⟨N, X, Y, hN, o1, o2⟩ := seg_pt g
      have u := up hN o2
      rcases meet2 (hs.sc hN) (e := e) (g := i) (by rw [scL_len]; exact he) (by rw [scL_len]; exact hi) n1 (onE_at o1) (oni hN o2) with ⟨k, _⟩ | ⟨k, k1, k2⟩
      · rw [scL_len] at k
        exact n2 k.symm
      · rw [(scL_at N ps _).1] at k1
        rw [(scL_at N ps _).2] at k2
        rw [k1, k2, zero1] at u
        omega
  have s2 : segB (cx ps (nx ps.length e)) (cy ps (nx ps.length e)) (cx ps (nx ps.length (nx ps.length e))) (cy ps (nx ps.length (nx ps.length e))) m1 m2 y1 y2 = false := by
    cases g : segB (cx ps (nx ps.length e)) (cy ps (nx ps.length e)) (cx ps (nx ps.length (nx ps.length e))) (cy ps (nx ps.length (nx ps.length e))) m1 m2 y1 y2 with
    | false => rfl
    | true =>
      exfalso
      obtain ⟨N, X, Y, hN, o1, o2⟩ := seg_pt g
      have u := up hN o2
      rcases meet2 (hs.sc hN) (e := nx ps.length e) (g := i) (by rw [scL_len]; exact hv) (by rw [scL_len]; exact hi) n2 (onE_at o1) (oni hN o2) with ⟨k, k1, k2⟩ | ⟨k, _⟩
      · rw [scL_len] at k
        rw [(scL_at N ps _).1, ← k] at k1
        rw [(scL_at N ps _).2, ← k] at k2
        rw [k1, k2, zero2] at u
        omega
      · rw [scL_len] at k
        exact n1 (nx_inj hi he k)
  have s3 : segB (cx ps (nx ps.length (nx ps.length e))) (cy ps (nx ps.length (nx ps.length e))) (cx ps e) (cy ps e) m1 m2 y1 y2 = false := by
    cases g : segB (cx ps (nx ps.length (nx ps.length e))) (cy ps (nx ps.length (nx ps.length e))) (cx ps e) (cy ps e) m1 m2 y1 y2 with
    | false => rfl
    | true =>
      exfalso
      obtain ⟨N, X, Y, hN, o1, o2⟩ := seg_pt g
      have u := up hN o2
      have := det_on o1
      omega
  generalize cx ps e = u1 at *
  generalize cy ps e = u2 at *
  generalize cx ps (nx ps.length e) = v1 at *
  generalize cy ps (nx ps.length e) = v2 at *
  generalize cx ps (nx ps.length (nx ps.length e)) = w1 at *
  generalize cy ps (nx ps.length (nx ps.length e)) = w2 at *
  have l := tri_in hD a1 a2 a3
  have fr : Free2 (triL u1 u2 v1 v2 w1 w2) m1 m2 y1 y2 := fun j hj => by
    have hj : j < 3 := hj
    obtain ⟨⟨c1, c2⟩, ⟨c3, c4⟩, c5, c6⟩ := tri_at u1 u2 v1 v2 w1 w2
    rw [tri_len]
    obtain rfl | rfl | rfl : j = 0 ∨ j = 1 ∨ j = 2 := by omega
    · rw [nx3.1, c1, c2, c3, c4]; exact s1
    · rw [nx3.2.1, c3, c4, c5, c6]; exact s2
    · rw [nx3.2.2, c1, c2, c5, c6]; exact s3
  have ly := loc_stays _ (by rw [tri_len]; omega) fr l
  have t := tri_pos hD ly
  exact ⟨t.1, t.2.1⟩
end Go.Proofs.YtalhkcmlacppjaaDoor


namespace Go.Proofs.YtalhkcmlacppjaaDoor
open Go.ChangeShapes Go.WideShapes Go.ChangeAt Go.RowKit
set_option linter.unusedVariables false
set_option linter.unusedSimpArgs false

/-- Distinct corners lie apart. -/
theorem corner_ne {ps : List (Int × Int)} (hs : Simp ps) {i j : Nat} (hi : i < ps.length) (hj : j < ps.length) (hij : i ≠ j) : ¬ (cx ps i = cx ps j ∧ cy ps i = cy ps j) := by
  intro ⟨h1, h2⟩
  have o1 : onE ps (cx ps i) (cy ps i) i = true := on_first
  have o2 : onE ps (cx ps i) (cy ps i) j = true := by
    unfold onE
    rw [h1, h2]
    exact on_first
  rcases meet2 hs hi hj (fun h => hij h.symm) o1 o2 with ⟨k, _⟩ | ⟨k, _⟩
  · have := edge_nd hs hi
    rw [k] at this
    exact this ⟨h1, h2⟩
  · have := edge_nd hs hj
    rw [k] at this
    exact this ⟨h1.symm, h2.symm⟩
/-- On a segment, not its first end: nearer to the level of the last. -/
theorem on_level {a b c d x1 x2 y1 y2 p q : Int} (h : onB x1 x2 y1 y2 p q = true) (hx : det a b c d y1 y2 < det a b c d x1 x2) (hne : ¬ (p = y1 ∧ q = y2)) : det a b c d y1 y2 < det a b c d p q := by
  obtain ⟨h1, h2, h3⟩ := on_iff.1 h
  have e1 : det a b c d p q - det a b c d y1 y2 = -(d - b) * (p - y1) + (c - a) * (q - y2) := by unfold det; grind
  have e2 : det a b c d x1 x2 - det a b c d y1 y2 = -(d - b) * (x1 - y1) + (c - a) * (x2 - y2) := by unfold det; grind
  have hx' : 0 < -(d - b) * (x1 - y1) + (c - a) * (x2 - y2) := by omega
  suffices hp : 0 < -(d - b) * (p - y1) + (c - a) * (q - y2) by omega
  have b1 : Btw 0 (x1 - y1) (p - y1) := by unfold Btw at *; omega
  have b2 : Btw 0 (x2 - y2) (q - y2) := by unfold Btw at *; omega
  have co : (x1 - y1) * (q - y2) = (x2 - y2) * (p - y1) := by grind
  have nz : ¬ (p - y1 = 0 ∧ q - y2 = 0) := fun k => hne ⟨by omega, by omega⟩
  clear e1 e2 h1 h2 h3 h hx hne
  generalize p - y1 = P at *
  generalize q - y2 = Q at *
  generalize x1 - y1 = A at *
  generalize x2 - y2 = B at *
  generalize -(d - b) = L1 at *
  generalize c - a = L2 at *
  have p1 : (L1 * P + L2 * Q) * A = P * (L1 * A + L2 * B) := by
    have : L2 * (A * Q) = L2 * (B * P) := by rw [co]
    grind
  have p2 : (L1 * P + L2 * Q) * B = Q * (L1 * A + L2 * B) := by
    have : L1 * (A * Q) = L1 * (B * P) := by rw [co]
    grind
  generalize hT : L1 * P + L2 * Q = T at *
  generalize hS : L1 * A + L2 * B = S at *
  unfold Btw at b1 b2
  have sg : ∀ {x y : Int}, T * x = y * S → (0 ≤ y ∧ y ≤ x ∨ x ≤ y ∧ y ≤ 0) → y ≠ 0 → 0 < T := fun {x y} g r z => by
    rcases Int.lt_or_le 0 T with t | t
    · exact t
    · exfalso
      rcases r with r | r
      · have k1 : T * x ≤ 0 := Int.mul_nonpos_of_nonpos_of_nonneg t (by omega)
        have k2 : 0 < y * S := Int.mul_pos (by omega) hx'
        omega
      · have k1 : 0 ≤ T * x := Int.mul_nonneg_of_nonpos_of_nonpos t (by omega)
        have k2 : y * S < 0 := Int.mul_neg_of_neg_of_pos (by omega) hx'
        omega
  by_cases zp : P = 0
  · exact sg p2 (by omega) (by omega)
  · exact sg p1 (by omega) zp
end Go.Proofs.YtalhkcmlacppjaaDoor


namespace Go.Proofs.YtalhkcmlacppjaaDoor
open Go.ChangeShapes Go.WideShapes Go.ChangeAt Go.RowKit
set_option linter.unusedVariables false
set_option linter.unusedSimpArgs false

/-- The segment between two corners meets no edge but in these corners. -/
def Diag (ps : List (Int × Int)) (a b : Nat) : Prop :=
  (∀ i, i < ps.length → i ≠ a → i ≠ b → nx ps.length i ≠ a → nx ps.length i ≠ b → segB (cx ps i) (cy ps i) (cx ps (nx ps.length i)) (cy ps (nx ps.length i)) (cx ps a) (cy ps a) (cx ps b) (cy ps b) = false) ∧
  ∀ k, k < ps.length → k ≠ a → k ≠ b → onB (cx ps a) (cy ps a) (cx ps b) (cy ps b) (cx ps k) (cy ps k) = false
end Go.Proofs.YtalhkcmlacppjaaDoor


namespace Go.Proofs.YtalhkcmlacppjaaDoor
open Go.ChangeShapes Go.WideShapes Go.ChangeAt Go.RowKit
set_option linter.unusedVariables false
set_option linter.unusedSimpArgs false

theorem on_opp {D s t d1 d2 y1 y2 m1 m2 u1 u2 : Int} (hD : 0 < D) (hs : s < 0) (ht : 0 < t) (a1 : D * (y1 - u1) = s * d1) (a2 : D * (y2 - u2) = s * d2) (b1 : D * (m1 - u1) = t * d1) (b2 : D * (m2 - u2) = t * d2) : onB y1 y2 m1 m2 u1 u2 = true := by
  have key : ∀ {y m u d : Int}, D * (y - u) = s * d → D * (m - u) = t * d → (y ≤ u ∨ m ≤ u) ∧ (u ≤ y ∨ u ≤ m) := fun {y m u d} a b => by
    rcases Int.le_total 0 d with g | g
    · have k1 : s * d ≤ 0 := Int.mul_nonpos_of_nonpos_of_nonneg (by omega) g
      have k2 : 0 ≤ t * d := Int.mul_nonneg (by omega) g
      constructor
      · left
        rcases Int.lt_or_le u y with q | q
        · have := pp hD (show 0 < y - u by omega); omega
        · exact q
      · right
        rcases Int.lt_or_le m u with q | q
        · have := pn hD (show m - u < 0 by omega); omega
        · exact q
    · have k1 : 0 ≤ s * d := Int.mul_nonneg_of_nonpos_of_nonpos (by omega) g
      have k2 : t * d ≤ 0 := Int.mul_nonpos_of_nonneg_of_nonpos (by omega) g
      constructor
      · right
        rcases Int.lt_or_le u m with q | q
        · have := pp hD (show 0 < m - u by omega); omega
        · exact q
      · left
        rcases Int.lt_or_le y u with q | q
        · have := pn hD (show y - u < 0 by omega); omega
        · exact q
  refine on_of ?_ (key a1 b1) (key a2 b2)
  have e : det y1 y2 m1 m2 u1 u2 = (y1 - u1) * (m2 - u2) - (y2 - u2) * (m1 - u1) := by unfold det; grind
  have f : D * D * det y1 y2 m1 m2 u1 u2 = 0 := by
    rw [e]
    calc D * D * ((y1 - u1) * (m2 - u2) - (y2 - u2) * (m1 - u1)) = (D * (y1 - u1)) * (D * (m2 - u2)) - (D * (y2 - u2)) * (D * (m1 - u1)) := by grind
      _ = s * d1 * (t * d2) - s * d2 * (t * d1) := by rw [a1, a2, b1, b2]
      _ = 0 := by grind
  rcases Int.mul_eq_zero.1 f with g | g
  · have := pp hD hD; omega
  · exact g
theorem det_near (K a b c d m1 m2 y1 y2 : Int) : det (K * a) (K * b) (K * c) (K * d) ((y1 - m1) + K * m1) ((y2 - m2) + K * m2) = K * (K * det a b c d m1 m2 + (det a b c d y1 y2 - det a b c d m1 m2)) := by unfold det; grind
theorem big_pos {K x y : Int} (h : 0 < x) (hK : (y - x).natAbs < K) : 0 < K * (K * x + (y - x)) := by
  have h1 : K ≤ K * x := by
    have := Int.mul_le_mul_of_nonneg_left (show 1 ≤ x by omega) (show 0 ≤ K by omega)
    omega
  exact pp (by omega) (by omega)
theorem no_meet_uw {ps : List (Int × Int)} (hs : Simp ps) {e i : Nat} (he : e < ps.length) (hi : i < ps.length) (n1 : i ≠ e) (n2 : nx ps.length i ≠ e) (n3 : i ≠ nx ps.length (nx ps.length e)) (n4 : nx ps.length i ≠ nx ps.length (nx ps.length e))
    {u1 u2 v1 v2 w1 w2 : Int} (eu : cx ps e = u1 ∧ cy ps e = u2) (ev : cx ps (nx ps.length e) = v1 ∧ cy ps (nx ps.length e) = v2) (ew : cx ps (nx ps.length (nx ps.length e)) = w1 ∧ cy ps (nx ps.length (nx ps.length e)) = w2)
    (hD : 0 < det u1 u2 v1 v2 w1 w2)
    (hemp : ∀ k, k < ps.length → k ≠ e → k ≠ nx ps.length e → k ≠ nx ps.length (nx ps.length e) → ¬ (0 ≤ det u1 u2 v1 v2 (cx ps k) (cy ps k) ∧ 0 ≤ det v1 v2 w1 w2 (cx ps k) (cy ps k) ∧ 0 ≤ det w1 w2 u1 u2 (cx ps k) (cy ps k)))
    {m1 m2 : Int} (hm : onE ps m1 m2 i = true) (huw : onB u1 u2 w1 w2 m1 m2 = true) : False := by
  have hv : nx ps.length e < ps.length := nx_lt' he
  have hw : nx ps.length (nx ps.length e) < ps.length := nx_lt' hv
  have n5 : i ≠ nx ps.length e := fun h => n4 (by rw [h])
  have n6 : nx ps.length i ≠ nx ps.length e := fun h => n1 (nx_inj hi he h)
  have fu : det u1 u2 v1 v2 u1 u2 = 0 := by unfold det; grind
  have fw : det v1 v2 w1 w2 w1 w2 = 0 := by unfold det; grind
  have d1 := det_cyc u1 u2 v1 v2 w1 w2
  have d2 := det_cyc v1 v2 w1 w2 u1 u2
  -- neither u nor w is on the edge
  have offu : onE ps u1 u2 i = true → False := fun o => by
    have o' : onE ps u1 u2 e = true := by
      unfold onE
      rw [eu.1, eu.2]; exact on_first
    rcases meet2 hs he hi n1 o' o with ⟨k, _⟩ | ⟨k, _⟩
    · exact n5 k.symm
    · exact n2 k
  have offw : onE ps w1 w2 i = true → False := fun o => by
    have o' : onE ps w1 w2 (nx ps.length e) = true := by
      unfold onE
      rw [ew.1, ew.2]; exact on_last
    rcases meet2 hs hv hi n5 o' o with ⟨k, _⟩ | ⟨k, _⟩
    · exact n3 k.symm
    · exact n6 k
  have m3 : det w1 w2 u1 u2 m1 m2 = 0 := det_on (by rw [onB_rev]; exact huw)
  have p1 := on_level (a := u1) (b := u2) (c := v1) (d := v2) (p := m1) (q := m2) (y1 := u1) (y2 := u2) (by rw [onB_rev]; exact huw) (by omega) (fun ⟨h1, h2⟩ => offu (by rw [← h1, ← h2]; exact hm))
  have p2 := on_level (a := v1) (b := v2) (c := w1) (d := w2) (p := m1) (q := m2) (y1 := w1) (y2 := w2) huw (by omega) (fun ⟨h1, h2⟩ => offw (by rw [← h1, ← h2]; exact hm))
  rw [fu] at p1
  rw [fw] at p2
  have ends : ∃ k, k < ps.length ∧ (k ≠ e ∧ k ≠ nx ps.length e ∧ k ≠ nx ps.length (nx ps.length e)) ∧ onE ps (cx ps k) (cy ps k) i = true ∧ 0 ≤ det w1 w2 u1 u2 (cx ps k) (cy ps k) := by
    have aff : ∀ x y : Int, -det w1 w2 u1 u2 x y = (u2 - w2) * x + (-(u1 - w1)) * y + (-((u2 - w2) * w1 - (u1 - w1) * w2)) := fun x y => by unfold det; grind
    have o1 : onE ps (cx ps i) (cy ps i) i = true := on_first
    have o2 : onE ps (cx ps (nx ps.length i)) (cy ps (nx ps.length i)) i = true := on_last
    rcases Int.lt_or_le (det w1 w2 u1 u2 (cx ps i) (cy ps i)) 0 with g1 | g1
    · rcases Int.lt_or_le (det w1 w2 u1 u2 (cx ps (nx ps.length i)) (cy ps (nx ps.length i))) 0 with g2 | g2
      · exfalso
        have := on_pos (u2 - w2) (-(u1 - w1)) (-((u2 - w2) * w1 - (u1 - w1) * w2)) hm (by rw [← aff]; omega) (by rw [← aff]; omega)
        rw [← aff] at this
        omega
      · exact ⟨_, nx_lt' hi, ⟨n2, n6, n4⟩, o2, g2⟩
    · exact ⟨i, hi, ⟨n1, n5, n3⟩, o1, g1⟩
  obtain ⟨k, hk, ⟨k1, k2, k3⟩, ok, lk⟩ := ends
  have emp := hemp k hk k1 k2 k3
  by_cases zero : det w1 w2 u1 u2 (cx ps k) (cy ps k) = 0
  · have along : ∀ {y1 y2 : Int}, det w1 w2 u1 u2 y1 y2 = 0 → (det u1 u2 v1 v2 w1 w2 * (y1 - u1) = det u1 u2 v1 v2 y1 y2 * (w1 - u1) ∧ det u1 u2 v1 v2 w1 w2 * (y2 - u2) = det u1 u2 v1 v2 y1 y2 * (w2 - u2)) ∧ det u1 u2 v1 v2 w1 w2 * (y1 - w1) = det v1 v2 w1 w2 y1 y2 * (u1 - w1) ∧ det u1 u2 v1 v2 w1 w2 * (y2 - w2) = det v1 v2 w1 w2 y1 y2 * (u2 - w2) := fun {y1 y2} z => by
      have b1 := tri_bary1 u1 u2 v1 v2 w1 w2 y1 y2
      have b2 := tri_bary2 u1 u2 v1 v2 w1 w2 y1 y2
      have sm := tri_sum u1 u2 v1 v2 w1 w2 y1 y2
      rw [z] at b1 b2 sm
      generalize det u1 u2 v1 v2 y1 y2 = C at *
      generalize det v1 v2 w1 w2 y1 y2 = A at *
      generalize det u1 u2 v1 v2 w1 w2 = D at *
      have sm : D = C + A := by omega
      subst sm
      refine ⟨⟨?_, ?_⟩, ?_, ?_⟩ <;> grind
    obtain ⟨⟨x1, x2⟩, x3, x4⟩ := along zero
    obtain ⟨⟨y1, y2⟩, y3, y4⟩ := along m3
    rcases Int.lt_or_le (det u1 u2 v1 v2 (cx ps k) (cy ps k)) 0 with g | g
    · exact offu (on_trans ok hm (on_opp hD g p1 x1 x2 y1 y2))
    · rcases Int.lt_or_le (det v1 v2 w1 w2 (cx ps k) (cy ps k)) 0 with g2 | g2
      · exact offw (on_trans ok hm (on_opp hD g2 p2 x3 x4 y3 y4))
      · exact emp ⟨g, g2, lk⟩
  · obtain ⟨K, hK, hK1, hK2⟩ : ∃ K : Int, 2 ≤ K ∧ (det u1 u2 v1 v2 (cx ps k) (cy ps k) - det u1 u2 v1 v2 m1 m2).natAbs < K ∧ (det v1 v2 w1 w2 (cx ps k) (cy ps k) - det v1 v2 w1 w2 m1 m2).natAbs < K := ⟨(det u1 u2 v1 v2 (cx ps k) (cy ps k) - det u1 u2 v1 v2 m1 m2).natAbs + (det v1 v2 w1 w2 (cx ps k) (cy ps k) - det v1 v2 w1 w2 m1 m2).natAbs + 2, by omega, by omega, by omega⟩
    have hK0 : 0 < K := by omega
    have at1 := fun j => (scL_at K ps j).1
    have at2 := fun j => (scL_at K ps j).2
    have oM : onE (scL K ps) ((cx ps k - m1) + K * m1) ((cy ps k - m2) + K * m2) i = true := by
      refine onE_at (on_trans (x1 := K * cx ps k) (x2 := K * cy ps k) (y1 := K * m1) (y2 := K * m2) ?_ ?_ ?_)
      · rw [onB_sc hK0]; exact ok
      · rw [onB_sc hK0]; exact hm
      · have := on_near (N := K) (A1 := cx ps k - m1) (A2 := cy ps k - m2) (B1 := K * m1) (B2 := K * m2) hK
        rw [show K * (cx ps k - m1) + K * m1 = K * cx ps k by grind, show K * (cy ps k - m2) + K * m2 = K * cy ps k by grind] at this
        exact this
    have oY : onE (scL K ps) (K * cx ps k) (K * cy ps k) i = true := onE_at (by rw [onB_sc hK0]; exact ok)
    have ex := exit_tri (hs.sc hK0) (e := e) (i := i) (by rw [scL_len]; exact he) (by rw [scL_len]; exact hi) n1 (by rw [scL_len]; exact n5) (m1 := (cx ps k - m1) + K * m1) (m2 := (cy ps k - m2) + K * m2) (y1 := K * cx ps k) (y2 := K * cy ps k)
    rw [scL_len, at1, at2, at1, at2, at1, at2, eu.1, eu.2, ev.1, ev.2, ew.1, ew.2, det_near, det_near, det_near] at ex
    obtain ⟨r1, r2⟩ := ex ((det_sc hK0 _ _ _ _ _ _).2.2 hD) oM oY (big_pos p1 hK1) (big_pos p2 hK2) (by rw [m3]; exact pp hK0 (by omega)) ((det_sc hK0 _ _ _ _ _ _).2.2 (by omega))
    have r1 := (det_sc hK0 _ _ _ _ _ _).2.1 r1
    have r2 := (det_sc hK0 _ _ _ _ _ _).2.1 r2
    exact emp ⟨by omega, by omega, lk⟩
/-- If the closed triangle of a corner has no other corner, its third side is a diagonal. -/
theorem see_uw {ps : List (Int × Int)} (hs : Simp ps) {e : Nat} (he : e < ps.length)
    {u1 u2 v1 v2 w1 w2 : Int} (eu : cx ps e = u1 ∧ cy ps e = u2) (ev : cx ps (nx ps.length e) = v1 ∧ cy ps (nx ps.length e) = v2) (ew : cx ps (nx ps.length (nx ps.length e)) = w1 ∧ cy ps (nx ps.length (nx ps.length e)) = w2)
    (hD : 0 < det u1 u2 v1 v2 w1 w2)
    (hemp : ∀ k, k < ps.length → k ≠ e → k ≠ nx ps.length e → k ≠ nx ps.length (nx ps.length e) → ¬ (0 ≤ det u1 u2 v1 v2 (cx ps k) (cy ps k) ∧ 0 ≤ det v1 v2 w1 w2 (cx ps k) (cy ps k) ∧ 0 ≤ det w1 w2 u1 u2 (cx ps k) (cy ps k))) :
    Diag ps e (nx ps.length (nx ps.length e)) := by
  have hv : nx ps.length e < ps.length := nx_lt' he
  have hw : nx ps.length (nx ps.length e) < ps.length := nx_lt' hv
  refine ⟨fun i hi n1 n2 n3 n4 => ?_, fun k hk n1 n2 => ?_⟩
  · cases g : segB (cx ps i) (cy ps i) (cx ps (nx ps.length i)) (cy ps (nx ps.length i)) (cx ps e) (cy ps e) (cx ps (nx ps.length (nx ps.length e))) (cy ps (nx ps.length (nx ps.length e))) with
    | false => rfl
    | true =>
      exfalso
      obtain ⟨N, X, Y, hN, o1, o2⟩ := seg_pt g
      have at1 := fun j => (scL_at N ps j).1
      have at2 := fun j => (scL_at N ps j).2
      rw [eu.1, eu.2, ew.1, ew.2] at o2
      refine no_meet_uw (hs.sc hN) (e := e) (i := i) (by rw [scL_len]; exact he) (by rw [scL_len]; exact hi) n1 (by rw [scL_len]; exact n3) (by rw [scL_len]; exact n2) (by rw [scL_len]; exact n4) (u1 := N * u1) (u2 := N * u2) (v1 := N * v1) (v2 := N * v2) (w1 := N * w1) (w2 := N * w2) ?_ ?_ ?_ ?_ ?_ (m1 := X) (m2 := Y) (onE_at o1) o2
      · rw [at1, at2, eu.1, eu.2]; exact ⟨rfl, rfl⟩
      · rw [scL_len, at1, at2, ev.1, ev.2]; exact ⟨rfl, rfl⟩
      · rw [scL_len, at1, at2, ew.1, ew.2]; exact ⟨rfl, rfl⟩
      · exact (det_sc hN _ _ _ _ _ _).2.2 hD
      · intro k hk k1 k2 k3 ⟨h1, h2, h3⟩
        rw [scL_len] at hk k2 k3
        rw [at1, at2] at h1 h2 h3
        have nn : ∀ {a b c d p q : Int}, 0 ≤ det (N * a) (N * b) (N * c) (N * d) (N * p) (N * q) → 0 ≤ det a b c d p q := fun {a b c d p q} h => by
          rcases Int.lt_or_le (det a b c d p q) 0 with y | y
          · have := (det_sc hN _ _ _ _ _ _).1.2 y; omega
          · exact y
        exact hemp k hk k1 k2 k3 ⟨nn h1, nn h2, nn h3⟩
  · cases g : onB (cx ps e) (cy ps e) (cx ps (nx ps.length (nx ps.length e))) (cy ps (nx ps.length (nx ps.length e))) (cx ps k) (cy ps k) with
    | false => rfl
    | true =>
      exfalso
      rw [eu.1, eu.2, ew.1, ew.2] at g
      have fu : det u1 u2 v1 v2 u1 u2 = 0 := by unfold det; grind
      have fw : det v1 v2 w1 w2 w1 w2 = 0 := by unfold det; grind
      have d1 := det_cyc u1 u2 v1 v2 w1 w2
      have m3 : det w1 w2 u1 u2 (cx ps k) (cy ps k) = 0 := det_on (by rw [onB_rev]; exact g)
      by_cases kv : k = nx ps.length e
      · rw [kv, ev.1, ev.2] at m3
        have : det w1 w2 u1 u2 v1 v2 = det u1 u2 v1 v2 w1 w2 := by unfold det; grind
        omega
      · exact hemp k hk n1 kv n2 ⟨on_nonneg g (by omega) (by omega), on_nonneg g (by omega) (by omega), by omega⟩
end Go.Proofs.YtalhkcmlacppjaaDoor


namespace Go.Proofs.YtalhkcmlacppjaaDoor
open Go.ChangeShapes Go.WideShapes Go.ChangeAt Go.RowKit
set_option linter.unusedVariables false
set_option linter.unusedSimpArgs false

/-- Where the angle is nought, one end lies on the other arm. -/
theorem ngd {a1 a2 b1 b2 c1 c2 : Int} (h : ¬ Gd a1 a2 b1 b2 c1 c2) : onB b1 b2 c1 c2 a1 a2 = true ∨ onB a1 a2 b1 b2 c1 c2 = true := by
  unfold Gd at h
  have h0 : det a1 a2 b1 b2 c1 c2 = 0 := by omega
  have h1 : 0 ≤ (a1 - b1) * (c1 - b1) + (a2 - b2) * (c2 - b2) := by omega
  have h0' : det b1 b2 c1 c2 a1 a2 = 0 := by rw [← h0]; unfold det; grind
  have e0 : det a1 a2 b1 b2 c1 c2 = (a2 - b2) * (c1 - b1) - (a1 - b1) * (c2 - b2) := by unfold det; grind
  rw [on_dot2, on_dot2, ori_zero, ori_zero, decide_eq_true h0, decide_eq_true h0', Bool.true_and, Bool.true_and, decide_eq_true_eq, decide_eq_true_eq]
  have e1 : (a1 - b1) * (c1 - a1) + (a2 - b2) * (c2 - a2) = ((a1 - b1) * (c1 - b1) + (a2 - b2) * (c2 - b2)) - ((a1 - b1) * (a1 - b1) + (a2 - b2) * (a2 - b2)) := by grind
  have e2 : (c1 - a1) * (b1 - c1) + (c2 - a2) * (b2 - c2) = ((a1 - b1) * (c1 - b1) + (a2 - b2) * (c2 - b2)) - ((c1 - b1) * (c1 - b1) + (c2 - b2) * (c2 - b2)) := by grind
  rw [e1, e2]
  rw [e0] at h0
  clear e0 e1 e2 h h0'
  generalize a1 - b1 = P1 at *
  generalize a2 - b2 = P2 at *
  generalize c1 - b1 = Q1 at *
  generalize c2 - b2 = Q2 at *
  have sq : (P1 * Q1 + P2 * Q2) * (P1 * Q1 + P2 * Q2) = (P1 * P1 + P2 * P2) * (Q1 * Q1 + Q2 * Q2) := by
    have e : (P1 * P1 + P2 * P2) * (Q1 * Q1 + Q2 * Q2) - (P1 * Q1 + P2 * Q2) * (P1 * Q1 + P2 * Q2) = (P2 * Q1 - P1 * Q2) * (P2 * Q1 - P1 * Q2) := by grind
    rw [h0] at e
    omega
  generalize P1 * Q1 + P2 * Q2 = T at *
  generalize P1 * P1 + P2 * P2 = A at *
  generalize Q1 * Q1 + Q2 * Q2 = B at *
  rcases Int.lt_or_le T A with g1 | g1
  · rcases Int.lt_or_le T B with g2 | g2
    · exfalso
      have k1 : T * T ≤ T * B := Int.mul_le_mul_of_nonneg_left (by omega) h1
      have k2 : T * B < A * B := Int.mul_lt_mul_of_pos_right g1 (by omega)
      omega
    · right; omega
  · left; omega
/-- A corner lies on the edges only that it is an end of. -/
theorem corner_on {ps : List (Int × Int)} (hs : Simp ps) {i j : Nat} (hi : i < ps.length) (hj : j < ps.length) (h : onE ps (cx ps j) (cy ps j) i = true) : j = i ∨ j = nx ps.length i := by
  by_cases k : j = i
  · exact .inl k
  · have o : onE ps (cx ps j) (cy ps j) j = true := on_first
    rcases meet2 hs hi hj k h o with ⟨k1, _⟩ | ⟨_, k2⟩
    · exact .inr k1.symm
    · exact absurd k2 (corner_ne hs hj hi k)
theorem Diag.symm {ps : List (Int × Int)} {a b : Nat} (h : Diag ps a b) : Diag ps b a :=
  ⟨fun i hi n1 n2 n3 n4 => by rw [segB_rev2]; exact h.1 i hi n2 n1 n4 n3, fun k hk n1 n2 => by rw [onB_rev]; exact h.2 k hk n2 n1⟩
/-- A polygon whose corners are corners of a simple one, and whose edges are edges of it but for one, a diagonal. -/
theorem part_simp {ps qs : List (Int × Int)} (hs : Simp ps) (h3 : 3 ≤ qs.length) (σ : Nat → Nat) {d : Nat} (hd : d < qs.length)
    (lt : ∀ i, i < qs.length → σ i < ps.length) (inj : ∀ i j, i < qs.length → j < qs.length → σ i = σ j → i = j)
    (at' : ∀ i, i < qs.length → cx qs i = cx ps (σ i) ∧ cy qs i = cy ps (σ i))
    (step : ∀ i, i < qs.length → i ≠ d → nx ps.length (σ i) = σ (nx qs.length i))
    (hdg : Diag ps (σ d) (σ (nx qs.length d))) : Simp qs := by
  have n0 := fun i (h : i < qs.length) => nx_lt' h
  have ne1 := fun i (h : i < qs.length) => nx_ne (show 2 ≤ qs.length by omega) h
  have ne2 : ∀ i, i < qs.length → nx qs.length (nx qs.length i) ≠ i := fun i h => by
    unfold nx
    by_cases a : i + 1 < qs.length
    · rw [Nat.mod_eq_of_lt a]
      by_cases b : i + 1 + 1 < qs.length
      · rw [Nat.mod_eq_of_lt b]; omega
      · rw [show i + 1 + 1 = qs.length by omega, Nat.mod_self]; omega
    · rw [show i + 1 = qs.length by omega, Nat.mod_self, Nat.mod_eq_of_lt (by omega)]; omega
  have sne : ∀ i j, i < qs.length → j < qs.length → i ≠ j → σ i ≠ σ j := fun i j hi hj h g => h (inj i j hi hj g)
  refine ⟨h3, fun i hi => ?_, fun i j hi hj hap => ?_⟩
  · have a0 := at' i hi
    have a1 := at' _ (n0 i hi)
    have a2 := at' _ (n0 _ (n0 i hi))
    rw [a0.1, a0.2, a1.1, a1.2, a2.1, a2.2]
    apply Classical.byContradiction
    intro hn
    by_cases k1 : i = d
    · subst k1
      rcases ngd hn with o | o
      · have st := step _ (n0 i hi) (ne1 i hi)
        have := corner_on hs (lt _ (n0 i hi)) (lt i hi) (by unfold onE; rw [st]; exact o)
        rw [st] at this
        rcases this with k | k
        · exact sne _ _ hi (n0 i hi) (fun h => ne1 i hi h.symm) k
        · exact sne _ _ hi (n0 _ (n0 i hi)) (fun h => ne2 i hi h.symm) k
      · have := hdg.2 _ (lt _ (n0 _ (n0 i hi))) (sne _ _ (n0 _ (n0 i hi)) hi (ne2 i hi)) (sne _ _ (n0 _ (n0 i hi)) (n0 i hi) (ne1 _ (n0 i hi)))
        rw [this] at o
        cases o
    · have st := step i hi k1
      by_cases k2 : nx qs.length i = d
      · rw [k2] at hn st
        have hi2 := ne2 i hi
        rw [k2] at hi2
        rcases ngd hn with o | o
        · have := hdg.2 _ (lt i hi) (sne _ _ hi hd k1) (sne _ _ hi (n0 d hd) (fun h => hi2 h.symm))
          rw [this] at o
          cases o
        · have := corner_on hs (lt i hi) (lt _ (n0 d hd)) (by unfold onE; rw [st]; exact o)
          rw [st] at this
          rcases this with k | k
          · exact sne _ _ (n0 d hd) hi hi2 k
          · exact sne _ _ (n0 d hd) hd (ne1 d hd) k
      · have g := hs.2.1 (σ i) (lt i hi)
        rw [st, step _ (n0 i hi) k2] at g
        exact hn g
  · obtain ⟨p1, p2, p3⟩ := hap
    have two : ∀ j, j < qs.length → d ≠ j → nx qs.length d ≠ j → nx qs.length j ≠ d → segB (cx ps (σ j)) (cy ps (σ j)) (cx ps (σ (nx qs.length j))) (cy ps (σ (nx qs.length j))) (cx ps (σ d)) (cy ps (σ d)) (cx ps (σ (nx qs.length d))) (cy ps (σ (nx qs.length d))) = false := fun j hj q1 q2 q3 => by
      have st := step j hj (fun h => q1 h.symm)
      have := hdg.1 (σ j) (lt j hj) (sne _ _ hj hd (fun h => q1 h.symm)) (sne _ _ hj (n0 d hd) (fun h => q2 h.symm)) (by rw [st]; exact sne _ _ (n0 j hj) hd q3) (by rw [st]; exact sne _ _ (n0 j hj) (n0 d hd) (fun h => q1 (nx_inj hj hd h).symm))
      rw [st] at this
      exact this
    unfold segE
    rw [(at' i hi).1, (at' i hi).2, (at' j hj).1, (at' j hj).2, (at' _ (n0 i hi)).1, (at' _ (n0 i hi)).2, (at' _ (n0 j hj)).1, (at' _ (n0 j hj)).2]
    by_cases k1 : i = d
    · subst k1
      rw [segB_comm]
      exact two j hj p1 p2 p3
    · by_cases k2 : j = d
      · subst k2
        exact two i hi (fun h => p1 h.symm) p3 p2
      · have := hs.2.2 (σ i) (σ j) (lt i hi) (lt j hj) ⟨sne _ _ hi hj p1, by rw [step i hi k1]; exact sne _ _ (n0 i hi) hj p2, by rw [step j hj k2]; exact sne _ _ (n0 j hj) hi p3⟩
        unfold segE at this
        rw [step i hi k1, step j hj k2] at this
        exact this
end Go.Proofs.YtalhkcmlacppjaaDoor



namespace Go.Proofs.YtalhkcmlacppjaaDoor
open Go.ChangeShapes Go.WideShapes Go.ChangeAt Go.RowKit
set_option linter.unusedVariables false
set_option linter.unusedSimpArgs false

theorem nx_last {n i : Nat} (h : i + 1 = n) : nx n i = 0 := by unfold nx; rw [h, Nat.mod_self]
theorem two_simp {us : List (Int × Int)} (hs : Simp us) {k : Nat} (h1 : 2 ≤ k) (h2 : k + 1 < us.length) (hd : Diag us 0 k) : Simp (twoL us k) := by
  have hl := twoL_len us k
  refine part_simp hs (by omega) (fun i => if i = 0 then 0 else k + i - 1) (d := 0) (by omega) (fun i hi => ?_) (fun i j _ _ h => ?_) (fun i hi => ?_) (fun i hi hne => ?_) ?_
  · show (if i = 0 then 0 else k + i - 1) < _
    split <;> omega
  · have h : (if i = 0 then 0 else k + i - 1) = (if j = 0 then 0 else k + j - 1) := h
    split at h <;> split at h <;> omega
  · show cx _ i = cx us (if i = 0 then 0 else k + i - 1) ∧ cy _ i = cy us (if i = 0 then 0 else k + i - 1)
    cases i with
    | zero => exact twoL_zero us k
    | succ i =>
      rw [if_neg (by omega), show k + (i + 1) - 1 = k + i by omega]
      exact twoL_at us k i
  · show nx us.length (if i = 0 then 0 else k + i - 1) = (if nx (twoL us k).length i = 0 then 0 else k + nx (twoL us k).length i - 1)
    rw [if_neg hne]
    by_cases g : i + 1 < (twoL us k).length
    · rw [nx_small g, nx_small (by omega), if_neg (by omega)]; omega
    · rw [nx_last (by omega), nx_last (by omega), if_pos rfl]
  · show Diag us 0 (if nx (twoL us k).length 0 = 0 then 0 else k + nx (twoL us k).length 0 - 1)
    rw [nx_small (by omega), if_neg (by omega)]
    exact hd
end Go.Proofs.YtalhkcmlacppjaaDoor


namespace Go.Proofs.YtalhkcmlacppjaaDoor
open Go.ChangeShapes Go.WideShapes Go.ChangeAt Go.RowKit
set_option linter.unusedVariables false
set_option linter.unusedSimpArgs false

theorem two_next (us : List (Int × Int)) {k i : Nat} (h1 : 1 ≤ i) (hk : k < us.length) (hi : i < (twoL us k).length) :
    (cx (twoL us k) i = cx us (k + i - 1) ∧ cy (twoL us k) i = cy us (k + i - 1)) ∧ cx (twoL us k) (nx (twoL us k).length i) = cx us (nx us.length (k + i - 1)) ∧ cy (twoL us k) (nx (twoL us k).length i) = cy us (nx us.length (k + i - 1)) := by
  have hl := twoL_len us k
  obtain ⟨i, rfl⟩ : ∃ j, i = j + 1 := ⟨i - 1, by omega⟩
  rw [show k + (i + 1) - 1 = k + i by omega]
  refine ⟨twoL_at us k i, ?_⟩
  by_cases g : i + 1 + 1 < (twoL us k).length
  · rw [nx_small g, nx_small (show k + i + 1 < us.length by omega)]
    exact twoL_at us k (i + 1)
  · rw [nx_last (by omega), nx_last (by omega)]
    exact twoL_zero us k
theorem out_wnd {ps : List (Int × Int)} (h : Good ps) {p q : Int} (hl : locE ps p q = -1) : wnd ps p q = 0 := by
  rcases h.wnd p q with w | w
  · exact w
  · exfalso
    have : locE ps p q = 1 := (loc_oneG h).2 ⟨fun i hi => by
      cases g : onE ps p q i with
      | false => rfl
      | true => have := loc_zero.2 ⟨i, hi, g⟩; omega, w⟩
    omega
theorem big_neg {K x y : Int} (h : x < 0) (hK : (y - x).natAbs < K) : K * (K * x + (y - x)) < 0 := by
  have h1 : K * x ≤ K * -1 := Int.mul_le_mul_of_nonneg_left (by omega) (by omega)
  exact pn (by omega) (by omega)
theorem tri_scL (N u1 u2 v1 v2 w1 w2 : Int) : scL N (triL u1 u2 v1 v2 w1 w2) = triL (N * u1) (N * u2) (N * v1) (N * v2) (N * w1) (N * w2) := rfl
/-- An ear clipped: the triangle and the rest wind nought or one time. -/
theorem clip_good {u1 u2 v1 v2 w1 w2 : Int} {x : Int × Int} {r : List (Int × Int)} (hU : Good ((u1, u2) :: (v1, v2) :: (w1, w2) :: x :: r)) (hD : 0 < det u1 u2 v1 v2 w1 w2)
    (hemp : ∀ y, y ∈ x :: r → ¬ (0 ≤ det u1 u2 v1 v2 y.1 y.2 ∧ 0 ≤ det v1 v2 w1 w2 y.1 y.2 ∧ 0 ≤ det w1 w2 u1 u2 y.1 y.2)) :
    Good (triL u1 u2 v1 v2 w1 w2) ∧ Good ((u1, u2) :: (w1, w2) :: x :: r) ∧ Diag ((u1, u2) :: (v1, v2) :: (w1, w2) :: x :: r) 0 2 := by
  generalize hus : (u1, u2) :: (v1, v2) :: (w1, w2) :: x :: r = us at *
  have hs := hU.1
  have hn : 4 ≤ us.length := by rw [← hus]; simp
  have c0 : cx us 0 = u1 ∧ cy us 0 = u2 := by rw [← hus]; exact ⟨rfl, rfl⟩
  have c1 : cx us 1 = v1 ∧ cy us 1 = v2 := by rw [← hus]; exact ⟨rfl, rfl⟩
  have c2 : cx us 2 = w1 ∧ cy us 2 = w2 := by rw [← hus]; exact ⟨rfl, rfl⟩
  have n0 : nx us.length 0 = 1 := nx_small (by omega)
  have n1 : nx us.length 1 = 2 := nx_small (by omega)
  have e1 : oneL us 2 = triL u1 u2 v1 v2 w1 w2 := by rw [← hus]; rfl
  have e2 : twoL us 2 = (u1, u2) :: (w1, w2) :: x :: r := by rw [← hus]; rfl
  have emp : ∀ k, k < us.length → k ≠ 0 → k ≠ 1 → k ≠ 2 → ¬ (0 ≤ det u1 u2 v1 v2 (cx us k) (cy us k) ∧ 0 ≤ det v1 v2 w1 w2 (cx us k) (cy us k) ∧ 0 ≤ det w1 w2 u1 u2 (cx us k) (cy us k)) := fun k hk h0 h1 h2 => by
    obtain ⟨j, rfl⟩ : ∃ j, k = j + 3 := ⟨k - 3, by omega⟩
    have hj : j < (x :: r).length := by rw [← hus] at hk; simpa using hk
    have := hemp _ (List.getElem_mem hj)
    have e : us.getD (j + 3) (0, 0) = (x :: r)[j] := by
      rw [← hus, List.getD_cons_succ, List.getD_cons_succ, List.getD_cons_succ, List.getD_eq_getElem?_getD, List.getElem?_eq_getElem hj]
      rfl
    unfold cx cy
    rw [e]
    exact this
  have hdg : Diag us 0 2 := by
    have := see_uw hs (e := 0) (by omega) c0 (by rw [n0]; exact c1) (by rw [n0, n1]; exact c2) hD (by rw [n0, n1]; exact emp)
    rw [n0, n1] at this
    exact this
  have g1 : Good (triL u1 u2 v1 v2 w1 w2) := (tri_ccw hD).good
  have s2 := two_simp hs (k := 2) (by omega) (by omega) hdg
  have l2 := twoL_len us 2
  refine ⟨g1, ?_, hdg⟩
  rw [← e2]
  obtain ⟨R, hR⟩ := edges_val s2
  suffices hz : R = 0 by
    subst hz
    exact ⟨s2, fun e he => by rw [hR e he]; omega⟩
  have tn := two_next us (k := 2) (i := 2) (by omega) (by omega) (by omega)
  rw [show 2 + 2 - 1 = 3 from rfl] at tn
  obtain ⟨⟨t1, t2⟩, t3, t4⟩ := tn
  have em := emp 3 (by omega) (by omega) (by omega) (by omega)
  -- a point of an edge near a corner outside of the triangle
  obtain ⟨N, hN, b1, b2, b3⟩ : ∃ N : Int, 2 ≤ N ∧ (det u1 u2 v1 v2 (cx us (nx us.length 3)) (cy us (nx us.length 3)) - det u1 u2 v1 v2 (cx us 3) (cy us 3)).natAbs < N ∧ (det v1 v2 w1 w2 (cx us (nx us.length 3)) (cy us (nx us.length 3)) - det v1 v2 w1 w2 (cx us 3) (cy us 3)).natAbs < N ∧ (det w1 w2 u1 u2 (cx us (nx us.length 3)) (cy us (nx us.length 3)) - det w1 w2 u1 u2 (cx us 3) (cy us 3)).natAbs < N :=
    ⟨(det u1 u2 v1 v2 (cx us (nx us.length 3)) (cy us (nx us.length 3)) - det u1 u2 v1 v2 (cx us 3) (cy us 3)).natAbs + (det v1 v2 w1 w2 (cx us (nx us.length 3)) (cy us (nx us.length 3)) - det v1 v2 w1 w2 (cx us 3) (cy us 3)).natAbs + (det w1 w2 u1 u2 (cx us (nx us.length 3)) (cy us (nx us.length 3)) - det w1 w2 u1 u2 (cx us 3) (cy us 3)).natAbs + 2, by omega, by omega, by omega, by omega⟩
  have hN0 : 0 < N := by omega
  have w := cut_HW (us := us) (k := 2) (by omega) N ((cx us (nx us.length 3) - cx us 3) + N * cx us 3) ((cy us (nx us.length 3) - cy us 3) + N * cy us 3)
  have i1 := near_in' hs (f := 3) (by omega) hN
  have i2 := near_in' s2 (f := 2) (by omega) hN
  rw [t1, t2, t3, t4] at i2
  have w1' := (hU.sc hN0).edge (e := 3) (by rw [scL_len]; omega) i1
  have w2' := at_edge s2 (by omega) hN0 i2
  rw [dnEi_sc hN0] at w1'
  have dd : dnEi (twoL us 2) 2 = dnEi us 3 := by
    unfold dnEi
    rw [t1, t2, t3, t4]
  have out : locE (scL N (triL u1 u2 v1 v2 w1 w2)) ((cx us (nx us.length 3) - cx us 3) + N * cx us 3) ((cy us (nx us.length 3) - cy us 3) + N * cy us 3) = -1 := by
    rw [tri_scL]
    refine tri_out ((det_sc hN0 _ _ _ _ _ _).2.2 hD) ?_
    rw [det_near, det_near, det_near]
    rcases Int.lt_or_le (det u1 u2 v1 v2 (cx us 3) (cy us 3)) 0 with k | k
    · exact .inl (big_neg k b1)
    · rcases Int.lt_or_le (det v1 v2 w1 w2 (cx us 3) (cy us 3)) 0 with k' | k'
      · exact .inr (.inl (big_neg k' b2))
      · rcases Int.lt_or_le (det w1 w2 u1 u2 (cx us 3) (cy us 3)) 0 with k'' | k''
        · exact .inr (.inr (big_neg k'' b3))
        · exact (em ⟨k, k', k''⟩).elim
  have z := out_wnd (g1.sc hN0) out
  rw [e1, z, w1', w2', hR 2 (by omega), dd] at w
  omega
end Go.Proofs.YtalhkcmlacppjaaDoor


namespace Go.Proofs.YtalhkcmlacppjaaDoor
open Go.ChangeShapes Go.WideShapes Go.ChangeAt Go.RowKit
set_option linter.unusedVariables false
set_option linter.unusedSimpArgs false

theorem turn_injm {n : Nat} (m : Nat) {i j : Nat} (hi : i < n) (hj : j < n) (h : (i + m) % n = (j + m) % n) : i = j := by
  induction m with
  | zero => rw [Nat.add_zero, Nat.add_zero, Nat.mod_eq_of_lt hi, Nat.mod_eq_of_lt hj] at h; exact h
  | succ m ih =>
    apply ih
    have e : ∀ i, (i + (m + 1)) % n = nx n ((i + m) % n) := fun i => by
      unfold nx
      rw [Nat.mod_add_mod]
      rfl
    rw [e, e] at h
    exact nx_inj (Nat.mod_lt _ (by omega)) (Nat.mod_lt _ (by omega)) h
theorem shL_nx2 (ps : List (Int × Int)) (m : Nat) {i : Nat} (hi : i < ps.length) : cx (shL ps m) (nx (shL ps m).length (nx (shL ps m).length i)) = cx ps (nx ps.length (nx ps.length ((i + m) % ps.length))) ∧ cy (shL ps m) (nx (shL ps m).length (nx (shL ps m).length i)) = cy ps (nx ps.length (nx ps.length ((i + m) % ps.length))) := by
  rw [nx_turn, ← shL_len ps m]
  have := shL_nx ps m (nx_lt' hi)
  rw [shL_len] at this ⊢
  exact this
theorem shL_simp {ps : List (Int × Int)} (hs : Simp ps) (m : Nat) : Simp (shL ps m) := by
  have h0 : 0 < ps.length := by have := hs.1; omega
  have lt : ∀ i, (i + m) % ps.length < ps.length := fun i => Nat.mod_lt _ h0
  refine ⟨by rw [shL_len]; exact hs.1, fun i hi => ?_, fun i j hi hj hap => ?_⟩
  · rw [shL_len] at hi
    rw [(shL_at ps m hi).1, (shL_at ps m hi).2, (shL_nx ps m hi).1, (shL_nx ps m hi).2, (shL_nx2 ps m hi).1, (shL_nx2 ps m hi).2]
    exact hs.2.1 _ (lt i)
  · rw [shL_len] at hi hj hap
    obtain ⟨a, b, c⟩ := hap
    have := hs.2.2 _ _ (lt i) (lt j) ⟨fun h => a (turn_injm m hi hj h), fun h => b (by rw [nx_turn] at h; exact turn_injm m (nx_lt' hi) hj h), fun h => c (by rw [nx_turn] at h; exact turn_injm m (nx_lt' hj) hi h)⟩
    unfold segE at this ⊢
    rw [(shL_at ps m hi).1, (shL_at ps m hi).2, (shL_nx ps m hi).1, (shL_nx ps m hi).2, (shL_at ps m hj).1, (shL_at ps m hj).2, (shL_nx ps m hj).1, (shL_nx ps m hj).2]
    exact this
theorem shL_wnd (ps : List (Int × Int)) (N : Int) (m : Nat) (p q : Int) (h0 : 0 < ps.length) : wnd (scL N (shL ps m)) p q = wnd (scL N ps) p q := by
  unfold wnd
  rw [scL_len, scL_len, shL_len, ← sumE_turn (wEi (scL N ps) p q) ps.length m h0]
  refine sumE_congr fun i hi => ?_
  have hi := List.mem_range.1 hi
  unfold wEi
  rw [scL_len, scL_len, (scL_at N _ _).1, (scL_at N _ _).2, (scL_at N _ _).1, (scL_at N _ _).2, (scL_at N _ _).1, (scL_at N _ _).2, (scL_at N _ _).1, (scL_at N _ _).2, (shL_at ps m hi).1, (shL_at ps m hi).2, (shL_nx ps m hi).1, (shL_nx ps m hi).2]
theorem shL_good {ps : List (Int × Int)} (h : Good ps) (m : Nat) : Good (shL ps m) := by
  have h0 : 0 < ps.length := by have := h.1.1; omega
  have lt : ∀ i, (i + m) % ps.length < ps.length := fun i => Nat.mod_lt _ h0
  refine ⟨shL_simp h.1 m, fun i hi => ?_⟩
  rw [shL_len] at hi
  have e : vE (shL ps m) i = vE ps ((i + m) % ps.length) := by
    unfold vE
    rw [shL_wnd ps 2 m _ _ h0, (shL_at ps m hi).1, (shL_at ps m hi).2, (shL_nx ps m hi).1, (shL_nx ps m hi).2]
  rw [e, h.2 _ (lt i)]
  unfold dnEi
  rw [(shL_at ps m hi).1, (shL_at ps m hi).2, (shL_nx ps m hi).1, (shL_nx ps m hi).2]
end Go.Proofs.YtalhkcmlacppjaaDoor


namespace Go.Proofs.YtalhkcmlacppjaaDoor
open Go.ChangeShapes Go.WideShapes Go.ChangeAt Go.RowKit
set_option linter.unusedVariables false
set_option linter.unusedSimpArgs false

/-- An ear clipped, said of corners. -/
theorem clip_cut {us : List (Int × Int)} (hU : Good us) (h4 : 4 ≤ us.length) (hD : 0 < det (cx us 0) (cy us 0) (cx us 1) (cy us 1) (cx us 2) (cy us 2))
    (hemp : ∀ k, 3 ≤ k → k < us.length → ¬ (0 ≤ det (cx us 0) (cy us 0) (cx us 1) (cy us 1) (cx us k) (cy us k) ∧ 0 ≤ det (cx us 1) (cy us 1) (cx us 2) (cy us 2) (cx us k) (cy us k) ∧ 0 ≤ det (cx us 2) (cy us 2) (cx us 0) (cy us 0) (cx us k) (cy us k))) :
    Good (oneL us 2) ∧ Good (twoL us 2) ∧ Diag us 0 2 := by
  match us, h4 with
  | (u1, u2) :: (v1, v2) :: (w1, w2) :: x :: r, _ =>
    exact clip_good hU hD fun y hy => by
      obtain ⟨j, hj, rfl⟩ := List.getElem_of_mem hy
      have e : ((u1, u2) :: (v1, v2) :: (w1, w2) :: x :: r).getD (j + 3) (0, 0) = (x :: r)[j] := by
        rw [List.getD_cons_succ, List.getD_cons_succ, List.getD_cons_succ, List.getD_eq_getElem?_getD, List.getElem?_eq_getElem hj]
        rfl
      have := hemp (j + 3) (by omega) (by simpa using hj)
      unfold cx cy at this
      rw [e] at this
      exact this
theorem turn_zero {n m : Nat} (hm : m < n) : (0 + m) % n = m := by rw [Nat.zero_add, Nat.mod_eq_of_lt hm]
end Go.Proofs.YtalhkcmlacppjaaDoor


namespace Go.Proofs.YtalhkcmlacppjaaDoor
open Go.ChangeShapes Go.WideShapes Go.ChangeAt Go.RowKit
set_option linter.unusedVariables false
set_option linter.unusedSimpArgs false

/-- Is the point in the closed triangle of the corner after e? -/
def Near3 (ps : List (Int × Int)) (e : Nat) (p q : Int) : Prop :=
  0 ≤ det (cx ps e) (cy ps e) (cx ps (nx ps.length e)) (cy ps (nx ps.length e)) p q ∧ 0 ≤ det (cx ps (nx ps.length e)) (cy ps (nx ps.length e)) (cx ps (nx ps.length (nx ps.length e))) (cy ps (nx ps.length (nx ps.length e))) p q ∧ 0 ≤ det (cx ps (nx ps.length (nx ps.length e))) (cy ps (nx ps.length (nx ps.length e))) (cx ps e) (cy ps e) p q
/-- The corner after e is an ear. -/
def Ear (ps : List (Int × Int)) (e : Nat) : Prop :=
  0 < det (cx ps e) (cy ps e) (cx ps (nx ps.length e)) (cy ps (nx ps.length e)) (cx ps (nx ps.length (nx ps.length e))) (cy ps (nx ps.length (nx ps.length e))) ∧
  ∀ x, x < ps.length → x ≠ e → x ≠ nx ps.length e → x ≠ nx ps.length (nx ps.length e) → ¬ Near3 ps e (cx ps x) (cy ps x)
theorem one_tri {us : List (Int × Int)} (h : 3 ≤ us.length) : oneL us 2 = triL (cx us 0) (cy us 0) (cx us 1) (cy us 1) (cx us 2) (cy us 2) := by
  match us, h with
  | (u1, u2) :: (v1, v2) :: (w1, w2) :: r, _ => rfl
theorem shL_three {ps : List (Int × Int)} {e : Nat} (he : e < ps.length) (h3 : 3 ≤ ps.length) : (cx (shL ps e) 0 = cx ps e ∧ cy (shL ps e) 0 = cy ps e) ∧ (cx (shL ps e) 1 = cx ps (nx ps.length e) ∧ cy (shL ps e) 1 = cy ps (nx ps.length e)) ∧ cx (shL ps e) 2 = cx ps (nx ps.length (nx ps.length e)) ∧ cy (shL ps e) 2 = cy ps (nx ps.length (nx ps.length e)) := by
  have t0 : (0 + e) % ps.length = e := turn_zero he
  have t1 : (1 + e) % ps.length = nx ps.length e := by unfold nx; rw [Nat.add_comm]
  have t2 : (2 + e) % ps.length = nx ps.length (nx ps.length e) := by unfold nx; rw [Nat.mod_add_mod, show e + 1 + 1 = 2 + e by omega]
  have a0 := shL_at ps e (i := 0) (by omega)
  have a1 := shL_at ps e (i := 1) (by omega)
  have a2 := shL_at ps e (i := 2) (by omega)
  rw [t0] at a0
  rw [t1] at a1
  rw [t2] at a2
  exact ⟨a0, a1, a2⟩
theorem ear_cut {ps : List (Int × Int)} (hG : Good ps) (h4 : 4 ≤ ps.length) {e : Nat} (he : e < ps.length) (hE : Ear ps e) : Good (oneL (shL ps e) 2) ∧ Good (twoL (shL ps e) 2) ∧ Diag (shL ps e) 0 2 := by
  have hl := shL_len ps e
  have t0 : (0 + e) % ps.length = e := turn_zero he
  have t1 : (1 + e) % ps.length = nx ps.length e := by unfold nx; rw [Nat.add_comm]
  have t2 : (2 + e) % ps.length = nx ps.length (nx ps.length e) := by unfold nx; rw [Nat.mod_add_mod, show e + 1 + 1 = 2 + e by omega]
  obtain ⟨a0, a1, a2⟩ := shL_three he (by omega)
  exact clip_cut (us := shL ps e) (shL_good hG e) (by omega) (by rw [a0.1, a0.2, a1.1, a1.2, a2.1, a2.2]; exact hE.1) (fun k h3 hk => by
    rw [hl] at hk
    have ak := shL_at ps e hk
    rw [a0.1, a0.2, a1.1, a1.2, a2.1, a2.2, ak.1, ak.2]
    refine hE.2 _ (Nat.mod_lt _ (by omega)) (fun h => ?_) (fun h => ?_) (fun h => ?_)
    · have := turn_injm e hk (show 0 < ps.length by omega) (by rw [t0]; exact h); omega
    · have := turn_injm e hk (show 1 < ps.length by omega) (by rw [t1]; exact h); omega
    · have := turn_injm e hk (show 2 < ps.length by omega) (by rw [t2]; exact h); omega)
end Go.Proofs.YtalhkcmlacppjaaDoor


namespace Go.Proofs.YtalhkcmlacppjaaDoor
open Go.ChangeShapes Go.WideShapes Go.ChangeAt Go.RowKit
set_option linter.unusedVariables false
set_option linter.unusedSimpArgs false

/-- A triangle: every corner is an ear. -/
theorem ear_three {ps : List (Int × Int)} (hG : Good ps) (h3 : ps.length = 3) {e : Nat} (he : e < 3) : Ear ps e := by
  have D : 0 < det (cx ps 0) (cy ps 0) (cx ps 1) (cy ps 1) (cx ps 2) (cy ps 2) := by
    obtain ⟨f, hf, h, _⟩ := top_left hG
    rw [h3] at hf h
    have k1 := det_cyc (cx ps 0) (cy ps 0) (cx ps 1) (cy ps 1) (cx ps 2) (cy ps 2)
    have k2 := det_cyc (cx ps 1) (cy ps 1) (cx ps 2) (cy ps 2) (cx ps 0) (cy ps 0)
    obtain rfl | rfl | rfl : f = 0 ∨ f = 1 ∨ f = 2 := by omega
    · rw [nx3.1, nx3.2.1] at h; exact h
    · rw [nx3.2.1, nx3.2.2] at h; omega
    · rw [nx3.2.2, nx3.1] at h; omega
  have k1 := det_cyc (cx ps 0) (cy ps 0) (cx ps 1) (cy ps 1) (cx ps 2) (cy ps 2)
  have k2 := det_cyc (cx ps 1) (cy ps 1) (cx ps 2) (cy ps 2) (cx ps 0) (cy ps 0)
  unfold Ear
  rw [h3]
  obtain rfl | rfl | rfl : e = 0 ∨ e = 1 ∨ e = 2 := by omega
  · rw [nx3.1, nx3.2.1]; exact ⟨D, fun x hx n1 n2 n3 => by omega⟩
  · rw [nx3.2.1, nx3.2.2]; exact ⟨by omega, fun x hx n1 n2 n3 => by omega⟩
  · rw [nx3.2.2, nx3.1]; exact ⟨by omega, fun x hx n1 n2 n3 => by omega⟩
end Go.Proofs.YtalhkcmlacppjaaDoor


namespace Go.Proofs.YtalhkcmlacppjaaDoor
open Go.ChangeShapes Go.WideShapes Go.ChangeAt Go.RowKit
set_option linter.unusedVariables false
set_option linter.unusedSimpArgs false

theorem corners_ext {a b : List (Int × Int)} (hl : a.length = b.length) (h : ∀ i, i < a.length → cx a i = cx b i ∧ cy a i = cy b i) : a = b := by
  refine List.ext_getElem hl fun i h1 h2 => ?_
  have := h i h1
  unfold cx cy at this
  rw [List.getD_eq_getElem?_getD, List.getD_eq_getElem?_getD, List.getElem?_eq_getElem h1, List.getElem?_eq_getElem h2] at this
  exact Prod.ext this.1 this.2
theorem erase_at (ps : List (Int × Int)) (j i : Nat) : cx (ps.eraseIdx j) i = cx ps (if i < j then i else i + 1) ∧ cy (ps.eraseIdx j) i = cy ps (if i < j then i else i + 1) := by
  unfold cx cy
  rw [List.getD_eq_getElem?_getD, List.getD_eq_getElem?_getD, List.getElem?_eraseIdx]
  split <;> exact ⟨rfl, rfl⟩
theorem erase_turn {ps : List (Int × Int)} {e : Nat} (he : e < ps.length) (h3 : 3 ≤ ps.length) : ∃ m, ps.eraseIdx (nx ps.length e) = shL (twoL (shL ps e) 2) m := by
  have hl := shL_len ps e
  have h0 : 0 < ps.length := by omega
  have l2 : (twoL (shL ps e) 2).length = ps.length - 1 := by rw [twoL_len, hl]; omega
  have le : (ps.eraseIdx (nx ps.length e)).length = ps.length - 1 := List.length_eraseIdx_of_lt (nx_lt' he)
  have T0 : cx (twoL (shL ps e) 2) 0 = cx ps e ∧ cy (twoL (shL ps e) 2) 0 = cy ps e := by
    have a := shL_at ps e h0
    rw [turn_zero he] at a
    rw [(twoL_zero _ 2).1, (twoL_zero _ 2).2]
    exact a
  have T : ∀ i, 1 ≤ i → i < ps.length - 1 → cx (twoL (shL ps e) 2) i = cx ps ((i + 1 + e) % ps.length) ∧ cy (twoL (shL ps e) 2) i = cy ps ((i + 1 + e) % ps.length) := fun i h1 hi => by
    obtain ⟨j, rfl⟩ : ∃ j, i = j + 1 := ⟨i - 1, by omega⟩
    have a := shL_at ps e (i := 2 + j) (by omega)
    rw [(twoL_at _ 2 j).1, (twoL_at _ 2 j).2, show j + 1 + 1 = 2 + j by omega]
    exact a
  by_cases g : e + 1 < ps.length
  · refine ⟨ps.length - 1 - e, corners_ext (by rw [le, shL_len, l2]) fun i hi => ?_⟩
    rw [le] at hi
    have a := shL_at (twoL (shL ps e) 2) (ps.length - 1 - e) (i := i) (by omega)
    rw [a.1, a.2, (erase_at ps _ i).1, (erase_at ps _ i).2, l2, nx_small g]
    rcases Nat.lt_trichotomy i e with c | c | c
    · rw [if_pos (by omega), Nat.mod_eq_of_lt (show i + (ps.length - 1 - e) < ps.length - 1 by omega), (T _ (by omega) (by omega)).1, (T _ (by omega) (by omega)).2]
      rw [show i + (ps.length - 1 - e) + 1 + e = i + ps.length by omega, Nat.add_mod_right, Nat.mod_eq_of_lt (by omega)]
      exact ⟨rfl, rfl⟩
    · subst c
      rw [if_pos (by omega), show i + (ps.length - 1 - i) = ps.length - 1 by omega, Nat.mod_self, T0.1, T0.2]
      exact ⟨rfl, rfl⟩
    · rw [if_neg (by omega), show i + (ps.length - 1 - e) = (i - e) + (ps.length - 1) by omega, Nat.add_mod_right, Nat.mod_eq_of_lt (show i - e < ps.length - 1 by omega), (T _ (by omega) (by omega)).1, (T _ (by omega) (by omega)).2]
      rw [show i - e + 1 + e = i + 1 by omega, Nat.mod_eq_of_lt (by omega)]
      exact ⟨rfl, rfl⟩
  · refine ⟨1, corners_ext (by rw [le, shL_len, l2]) fun i hi => ?_⟩
    rw [le] at hi
    have a := shL_at (twoL (shL ps e) 2) 1 (i := i) (by omega)
    rw [a.1, a.2, (erase_at ps _ i).1, (erase_at ps _ i).2, l2, nx_last (by omega), if_neg (by omega)]
    by_cases c : i + 1 < ps.length - 1
    · rw [Nat.mod_eq_of_lt c, (T _ (by omega) c).1, (T _ (by omega) c).2]
      rw [show i + 1 + 1 + e = i + 1 + ps.length by omega, Nat.add_mod_right, Nat.mod_eq_of_lt (by omega)]
      exact ⟨rfl, rfl⟩
    · rw [show i + 1 = ps.length - 1 by omega, Nat.mod_self, T0.1, T0.2, show ps.length - 1 = e by omega]
      exact ⟨rfl, rfl⟩
/-- The triangle of the corner after e. -/
def triE (ps : List (Int × Int)) (e : Nat) : List (Int × Int) := triL (cx ps e) (cy ps e) (cx ps (nx ps.length e)) (cy ps (nx ps.length e)) (cx ps (nx ps.length (nx ps.length e))) (cy ps (nx ps.length (nx ps.length e)))
/-- Inside a part: inside the whole. -/
theorem cut_in {us : List (Int × Int)} {k : Nat} (hk0 : 0 < k) (hk : k + 1 < us.length) (hU : Good us) (h1 : Good (oneL us k)) (h2 : Good (twoL us k)) {p q : Int} (h : locE (oneL us k) p q = 1 ∨ locE (twoL us k) p q = 1) : locE us p q = 1 := by
  obtain ⟨c1, c2, c3⟩ := cut_locG hk0 hk hU h1 h2 p q
  have ge : 0 ≤ locE us p q := c3.2 (by omega)
  rcases loc_three us p q with z | z | z
  · exfalso
    obtain ⟨i, hi, o⟩ := loc_zero.1 z
    rcases us_on hk hi o with ⟨e, he, oe⟩ | ⟨e, he, oe⟩
    · have := loc_zero.2 ⟨e, he, oe⟩
      omega
    · have := loc_zero.2 ⟨e, he, oe⟩
      omega
  · exact z
  · omega
theorem clip_in {ps : List (Int × Int)} (hG : Good ps) (h4 : 4 ≤ ps.length) {e : Nat} (he : e < ps.length) (hE : Ear ps e) {p q : Int}
    (h : locE (triE ps e) p q = 1 ∨ locE (ps.eraseIdx (nx ps.length e)) p q = 1) : locE ps p q = 1 := by
  have hl := shL_len ps e
  obtain ⟨m, hm⟩ := erase_turn he (by omega)
  obtain ⟨g1, g2, _⟩ := ear_cut hG h4 he hE
  obtain ⟨a0, a1, a2⟩ := shL_three he (by omega)
  have l2 : (twoL (shL ps e) 2).length = ps.length - 1 := by rw [twoL_len, hl]; omega
  have t : oneL (shL ps e) 2 = triE ps e := by
    rw [one_tri (by omega), a0.1, a0.2, a1.1, a1.2, a2.1, a2.2]
    rfl
  rw [hm, shL_loc _ m p q (by omega), ← t] at h
  rw [← shL_loc ps e p q (by omega)]
  exact cut_in (by omega) (by omega) (shL_good hG e) g1 g2 h
/-- An ear clipped: what is left is a polygon, and the ear and it make up the whole. -/
theorem clip {ps : List (Int × Int)} (hG : Good ps) (h4 : 4 ≤ ps.length) {e : Nat} (he : e < ps.length) (hE : Ear ps e) :
    Good (ps.eraseIdx (nx ps.length e)) ∧ area2 ps = area2 (triE ps e) + area2 (ps.eraseIdx (nx ps.length e)) ∧
    ∀ p q, (locE (triE ps e) p q < 1 ∨ locE (ps.eraseIdx (nx ps.length e)) p q < 0) ∧ (locE (ps.eraseIdx (nx ps.length e)) p q < 1 ∨ locE (triE ps e) p q < 0) ∧ (0 ≤ locE ps p q ↔ 0 ≤ locE (triE ps e) p q ∨ 0 ≤ locE (ps.eraseIdx (nx ps.length e)) p q) := by
  have hl := shL_len ps e
  obtain ⟨m, hm⟩ := erase_turn he (by omega)
  obtain ⟨g1, g2, _⟩ := ear_cut hG h4 he hE
  obtain ⟨a0, a1, a2⟩ := shL_three he (by omega)
  have l2 : (twoL (shL ps e) 2).length = ps.length - 1 := by rw [twoL_len, hl]; omega
  have t : oneL (shL ps e) 2 = triE ps e := by
    rw [one_tri (by omega), a0.1, a0.2, a1.1, a1.2, a2.1, a2.2]
    rfl
  rw [hm]
  refine ⟨shL_good g2 m, ?_, fun p q => ?_⟩
  · rw [shL_area _ m (by omega), ← t, ← shL_area ps e (by omega)]
    exact cut_area (by omega)
  · rw [shL_loc _ m p q (by omega), ← t, ← shL_loc ps e p q (by omega)]
    exact cut_locG (by omega) (by omega) (shL_good hG e) g1 g2 p q
end Go.Proofs.YtalhkcmlacppjaaDoor


namespace Go.Proofs.YtalhkcmlacppjaaDoor
open Go.ChangeShapes Go.WideShapes Go.ChangeAt Go.RowKit
set_option linter.unusedVariables false
set_option linter.unusedSimpArgs false

/-- The parts of a polygon that is clipped ear by ear, whichever ears are taken. -/
inductive Clips : List (Int × Int) → List (List (Int × Int)) → Prop
  | done {ps : List (Int × Int)} : ps.length = 3 → Clips ps [ps]
  | step {ps : List (Int × Int)} {e : Nat} {parts : List (List (Int × Int))} : 4 ≤ ps.length → e < ps.length → Ear ps e → Clips (ps.eraseIdx (nx ps.length e)) parts → Clips ps (triE ps e :: parts)
def sumA (l : List (List (Int × Int))) : Int := l.foldr (fun t s => area2 t + s) 0
theorem sumA_cons (t : List (Int × Int)) (l : List (List (Int × Int))) : sumA (t :: l) = area2 t + sumA l := rfl
theorem mem_corner {ps : List (Int × Int)} {i : Nat} (hi : i < ps.length) : (cx ps i, cy ps i) ∈ ps := by
  unfold cx cy
  rw [List.getD_eq_getElem?_getD, List.getElem?_eq_getElem hi]
  exact List.getElem_mem hi
theorem triE_mem {ps : List (Int × Int)} {e : Nat} (he : e < ps.length) {y : Int × Int} (hy : y ∈ triE ps e) : y ∈ ps := by
  have hv := nx_lt' he
  have hw := nx_lt' hv
  unfold triE triL at hy
  rcases List.mem_cons.1 hy with rfl | hy
  · exact mem_corner he
  · rcases List.mem_cons.1 hy with rfl | hy
    · exact mem_corner hv
    · rcases List.mem_cons.1 hy with rfl | hy
      · exact mem_corner hw
      · cases hy
theorem Clips.area {ps : List (Int × Int)} {parts : List (List (Int × Int))} (h : Clips ps parts) (hG : Good ps) : sumA parts = area2 ps := by
  induction h with
  | done h => show area2 _ + 0 = _; omega
  | step h4 he hE _ ih =>
    obtain ⟨g, a, _⟩ := clip hG h4 he hE
    rw [sumA_cons, ih g, a]
/-- Inside a part: inside the polygon. -/
theorem Clips.inner {ps : List (Int × Int)} {parts : List (List (Int × Int))} (h : Clips ps parts) (hG : Good ps) {t : List (Int × Int)} (ht : t ∈ parts) {p q : Int} (hi : locE t p q = 1) : locE ps p q = 1 := by
  induction h with
  | done h => rw [List.mem_singleton.1 ht] at hi; exact hi
  | step h4 he hE _ ih =>
    obtain ⟨g, _, _⟩ := clip hG h4 he hE
    rcases List.mem_cons.1 ht with rfl | ht
    · exact clip_in hG h4 he hE (.inl hi)
    · exact clip_in hG h4 he hE (.inr (ih g ht))
/-- No point is inside two parts. -/
theorem Clips.apart {ps : List (Int × Int)} {parts : List (List (Int × Int))} (h : Clips ps parts) (hG : Good ps) (p q : Int) : parts.Pairwise fun s t => ¬ (locE s p q = 1 ∧ locE t p q = 1) := by
  induction h with
  | done h => exact List.pairwise_singleton _ _
  | step h4 he hE hc ih =>
    obtain ⟨g, _, l⟩ := clip hG h4 he hE
    refine List.pairwise_cons.2 ⟨fun t ht ⟨k1, k2⟩ => ?_, ih g⟩
    have := hc.inner g ht k2
    have := (l p q).1
    omega
/-- Every part is a triangle that turns left; its corners are corners of the polygon. -/
theorem Clips.part {ps : List (Int × Int)} {parts : List (List (Int × Int))} (h : Clips ps parts) (hG : Good ps) {t : List (Int × Int)} (ht : t ∈ parts) : t.length = 3 ∧ 0 < det (cx t 0) (cy t 0) (cx t 1) (cy t 1) (cx t 2) (cy t 2) ∧ ∀ y, y ∈ t → y ∈ ps := by
  induction h with
  | done h =>
    rw [List.mem_singleton] at ht
    subst ht
    have e := ear_three hG h (e := 0) (by omega)
    have := e.1
    rw [h, nx3.1, nx3.2.1] at this
    exact ⟨h, this, fun y hy => hy⟩
  | step h4 he hE _ ih =>
    obtain ⟨g, _, _⟩ := clip hG h4 he hE
    rcases List.mem_cons.1 ht with rfl | ht
    · exact ⟨rfl, hE.1, fun y hy => triE_mem he hy⟩
    · obtain ⟨a, b, c⟩ := ih g ht
      exact ⟨a, b, fun y hy => List.mem_of_mem_eraseIdx (c y hy)⟩
end Go.Proofs.YtalhkcmlacppjaaDoor



namespace Go.Proofs.YtalhkcmlacppjaaDoor
open Go.ChangeShapes Go.WideShapes Go.ChangeAt Go.RowKit
set_option linter.unusedVariables false
set_option linter.unusedSimpArgs false

/-- A product of lengths bounds the product of vectors. -/
theorem dot_le {u1 u2 v1 v2 a b : Int} (ha : 0 ≤ a) (hb : 0 ≤ b) (hu : u1 * u1 + u2 * u2 = a * a) (hv : v1 * v1 + v2 * v2 = b * b) : -(a * b) ≤ u1 * v1 + u2 * v2 ∧ u1 * v1 + u2 * v2 ≤ a * b := by
  have hab := Int.mul_nonneg ha hb
  have e : (u1 * v1 + u2 * v2) * (u1 * v1 + u2 * v2) + (u1 * v2 - u2 * v1) * (u1 * v2 - u2 * v1) = (a * b) * (a * b) := by
    have : (a * b) * (a * b) = (a * a) * (b * b) := by grind
    rw [this, ← hu, ← hv]; grind
  have h0 := sq_nn (u1 * v2 - u2 * v1)
  obtain ⟨x, hx⟩ : ∃ x, u1 * v1 + u2 * v2 = x := ⟨_, rfl⟩
  obtain ⟨c, hc⟩ : ∃ c, a * b = c := ⟨_, rfl⟩
  rw [hx, hc] at e
  rw [hc] at hab
  rw [hx, hc]
  have key : ∀ x : Int, x * x ≤ c * c → x ≤ c := fun x h => by
    rcases Int.lt_or_le c x with g | g
    · have := Int.mul_lt_mul' (Int.le_of_lt g) g hab (show 0 < x by omega)
      omega
    · exact g
  refine ⟨?_, key x (by omega)⟩
  have := key (-x) (by rw [Int.neg_mul_neg]; omega)
  omega
/-- The tip of a chain of three links: no farther than they are long, no nearer than one exceeds the others. -/
theorem reach {u1 u2 v1 v2 w1 w2 a b c : Int} (ha : 0 ≤ a) (hb : 0 ≤ b) (hc : 0 ≤ c) (hu : u1 * u1 + u2 * u2 = a * a) (hv : v1 * v1 + v2 * v2 = b * b) (hw : w1 * w1 + w2 * w2 = c * c) :
    (u1 + v1 + w1) * (u1 + v1 + w1) + (u2 + v2 + w2) * (u2 + v2 + w2) ≤ (a + b + c) * (a + b + c) ∧
    (b + c ≤ a → (a - b - c) * (a - b - c) ≤ (u1 + v1 + w1) * (u1 + v1 + w1) + (u2 + v2 + w2) * (u2 + v2 + w2)) := by
  obtain ⟨p1, p2⟩ := dot_le ha hb hu hv
  obtain ⟨q1, q2⟩ := dot_le ha hc hu hw
  obtain ⟨r1, r2⟩ := dot_le hb hc hv hw
  have e : (u1 + v1 + w1) * (u1 + v1 + w1) + (u2 + v2 + w2) * (u2 + v2 + w2) = a * a + b * b + c * c + 2 * (u1 * v1 + u2 * v2) + 2 * (u1 * w1 + u2 * w2) + 2 * (v1 * w1 + v2 * w2) := by
    rw [← hu, ← hv, ← hw]; grind
  have e1 : (a + b + c) * (a + b + c) = a * a + b * b + c * c + 2 * (a * b) + 2 * (a * c) + 2 * (b * c) := by grind
  rw [e]
  refine ⟨by omega, fun h => ?_⟩
  -- the tip is u - (-(v + w)), and v + w is no longer than b + c
  have hs : (v1 + w1) * (v1 + w1) + (v2 + w2) * (v2 + w2) ≤ (b + c) * (b + c) := by
    have e2 : (v1 + w1) * (v1 + w1) + (v2 + w2) * (v2 + w2) = b * b + c * c + 2 * (v1 * w1 + v2 * w2) := by rw [← hv, ← hw]; grind
    have e3 : (b + c) * (b + c) = b * b + c * c + 2 * (b * c) := by grind
    omega
  obtain ⟨s1, hs1⟩ : ∃ z, v1 + w1 = z := ⟨_, rfl⟩
  obtain ⟨s2, hs2⟩ : ∃ z, v2 + w2 = z := ⟨_, rfl⟩
  obtain ⟨d, hd⟩ : ∃ z, b + c = z := ⟨_, rfl⟩
  rw [hs1, hs2, hd] at hs
  have hd0 : 0 ≤ d := by omega
  have e4 : a * a + b * b + c * c + 2 * (u1 * v1 + u2 * v2) + 2 * (u1 * w1 + u2 * w2) + 2 * (v1 * w1 + v2 * w2) = (u1 + s1) * (u1 + s1) + (u2 + s2) * (u2 + s2) := by
    rw [← hs1, ← hs2, ← hu, ← hv, ← hw]; grind
  rw [e4, show a - b - c = a - d by omega]
  -- a |s| bounds u·s from below: (u·s)² ≤ a² |s|² ≤ a² d²
  have cs : (u1 * s1 + u2 * s2) * (u1 * s1 + u2 * s2) ≤ (a * a) * (s1 * s1 + s2 * s2) := by
    have h0 := sq_nn (u1 * s2 - u2 * s1)
    have e5 : (a * a) * (s1 * s1 + s2 * s2) = (u1 * s1 + u2 * s2) * (u1 * s1 + u2 * s2) + (u1 * s2 - u2 * s1) * (u1 * s2 - u2 * s1) := by rw [← hu]; grind
    omega
  obtain ⟨S, hS⟩ : ∃ z, s1 * s1 + s2 * s2 = z := ⟨_, rfl⟩
  obtain ⟨x, hx⟩ : ∃ z, u1 * s1 + u2 * s2 = z := ⟨_, rfl⟩
  rw [hS] at hs cs
  rw [hx] at cs
  have e6 : (u1 + s1) * (u1 + s1) + (u2 + s2) * (u2 + s2) = a * a + 2 * x + S := by rw [← hu, ← hS, ← hx]; grind
  rw [e6]
  have hS0 : 0 ≤ S := by have := sq_nn s1; have := sq_nn s2; omega
  -- (a - d)² ≤ a² + 2x + S: where x < 0, by x² ≤ a² S, S ≤ d² and d ≤ a
  rcases Int.le_total 0 x with g | g
  · have e7 : (a - d) * (a - d) = a * a - d * (2 * a - d) := by grind
    have := Int.mul_nonneg hd0 (show 0 ≤ 2 * a - d by omega)
    omega
  · obtain ⟨y, rfl⟩ : ∃ y, x = -y := ⟨-x, by omega⟩
    have hy : 0 ≤ y := by omega
    rw [Int.neg_mul_neg] at cs
    -- 4 a² y² ≤ 4 a⁴ S ≤ (a² (…)): from (2 a y)² ≤ 4 a² · a² S and the arithmetic of squares
    have f1 : 2 * y ≤ 2 * a * d - d * d + S := by
      rcases Int.lt_or_le (2 * a * d - d * d + S) (2 * y) with g2 | g2
      · exfalso
        obtain ⟨m, hm⟩ : ∃ m, 2 * a * d - d * d + S = m := ⟨_, rfl⟩
        rw [hm] at g2
        have hm0 : 0 ≤ m := by
          have := Int.mul_nonneg hd0 (show 0 ≤ 2 * a - d by omega)
          have e8 : d * (2 * a - d) = 2 * a * d - d * d := by grind
          omega
        have l1 : m * m < (2 * y) * (2 * y) := Int.mul_lt_mul' (Int.le_of_lt g2) g2 hm0 (by omega)
        have e9 : m * m = 4 * (a * a * S) + (d * d - S) * (4 * (a * a) - 4 * (a * d) + (d * d - S)) := by rw [← hm]; grind
        have e10 : (2 * y) * (2 * y) = 4 * (y * y) := by grind
        have l2 : 0 ≤ (d * d - S) * (4 * (a * a) - 4 * (a * d) + (d * d - S)) := by
          refine Int.mul_nonneg (by omega) ?_
          have := Int.mul_nonneg ha (show 0 ≤ a - d by omega)
          have e11 : a * (a - d) = a * a - a * d := by grind
          omega
        omega
      · exact g2
    have e7 : (a - d) * (a - d) = a * a - (2 * a * d - d * d) := by grind
    omega
end Go.Proofs.YtalhkcmlacppjaaDoor

namespace Go.Proofs.YtalhkcmlacppjaaDoor
open Go.ChangeShapes Go.WideShapes Go.ChangeAt Go.RowKit
set_option linter.unusedVariables false
set_option linter.unusedSimpArgs false
set_option maxRecDepth 100000

structure Corn (cx cy ex ey uu vv r0 r1 r2 r3 r4 r5 r6 r7 : Int) : Prop where
  e0 : cx - (-vv) = r0
  e1 : cy - uu = r1
  e2 : ex - (-vv) = r2
  e3 : ey - uu = r3
  e4 : ex + -vv = r4
  e5 : ey + uu = r5
  e6 : cx + -vv = r6
  e7 : cy + uu = r7
  b : ∀ x ∈ [r0, r1, r2, r3, r4, r5, r6, r7], -1000000000000 ≤ x ∧ x ≤ 1000000000000
def At (k dn dx dy cx cy ex ey : Int) (od ob oe : Nat) (X Y x1 y1 x2 y2 x3 y3 a1 b1 a2 b2 a3 b3 : Int) : Prop := (k = 0 ∧ dn = 1 ∧ od = 12 ∧ ob = 21 ∧ oe = 23 ∧ (dx, dy) = (x1, y1) ∧ (cx, cy) = (X, Y) ∧ (ex, ey) = (a1, b1)) ∨ (k = 1 ∧ dn = 2 ∧ od = 15 ∧ ob = 23 ∧ oe = 25 ∧ (dx, dy) = (x2, y2) ∧ (cx, cy) = (a1, b1) ∧ (ex, ey) = (a2, b2)) ∨ (k = 2 ∧ dn = 3 ∧ od = 18 ∧ ob = 25 ∧ oe = 27 ∧ (dx, dy) = (x3, y3) ∧ (cx, cy) = (a2, b2) ∧ (ex, ey) = (a3, b3))
section
variable {k dn dx dy cx cy ex ey : Int} {od ob oe : Nat} {X Y n0 n1 n2 W l0 l1 l2 h0 h1 h2 x1 x2 x3 y1 y2 y3 u1 u2 u3 v1 v2 v3 a1 a2 a3 b1 b2 b3 : Int}
theorem at_k (h : At k dn dx dy cx cy ex ey od ob oe X Y x1 y1 x2 y2 x3 y3 a1 b1 a2 b2 a3 b3) : 0 ≤ k ∧ k ≤ 2 := by
  rcases h with h | h | h <;> omega
theorem at_cells (h : At k dn dx dy cx cy ex ey od ob oe X Y x1 y1 x2 y2 x3 y3 a1 b1 a2 b2 a3 b3) (w : World) (b : Nat) (hb : w.heap[b]? = some (.cells #[.int .i64 X, .int .i64 Y, .int .i64 n0, .int .i64 n1, .int .i64 n2, .int .i64 W, .int .i64 l0, .int .i64 l1, .int .i64 l2, .int .i64 h0, .int .i64 h1, .int .i64 h2, .int .i64 x1, .int .i64 y1, .int .i64 1, .int .i64 x2, .int .i64 y2, .int .i64 2, .int .i64 x3, .int .i64 y3, .int .i64 3, .int .i64 X, .int .i64 Y, .int .i64 a1, .int .i64 b1, .int .i64 a2, .int .i64 b2, .int .i64 a3, .int .i64 b3] 65 (0, 0))) :
    (w.cell? ⟨b, od, none⟩ = some (.int .i64 dx) ∧ w.cell? ⟨b, od + 1, none⟩ = some (.int .i64 dy) ∧ w.cell? ⟨b, od + 2, none⟩ = some (.int .i64 dn)) ∧ (w.cell? ⟨b, ob, none⟩ = some (.int .i64 cx) ∧ w.cell? ⟨b, ob + 1, none⟩ = some (.int .i64 cy)) ∧ (w.cell? ⟨b, oe, none⟩ = some (.int .i64 ex) ∧ w.cell? ⟨b, oe + 1, none⟩ = some (.int .i64 ey)) ∧ w.cell? ⟨b, 5, none⟩ = some (.int .i64 W) := by
  rcases h with h | h | h
  all_goals
    obtain ⟨-, rfl, rfl, rfl, rfl, hd, hc, he⟩ := h
    cases hd
    cases hc
    cases he
    exact ⟨⟨blk_cell hb _ _ rfl, blk_cell hb _ _ rfl, blk_cell hb _ _ rfl⟩, ⟨blk_cell hb _ _ rfl, blk_cell hb _ _ rfl⟩, ⟨blk_cell hb _ _ rfl, blk_cell hb _ _ rfl⟩, blk_cell hb _ _ rfl⟩
theorem at_addr (h : At k dn dx dy cx cy ex ey od ob oe X Y x1 y1 x2 y2 x3 y3 a1 b1 a2 b2 a3 b3) (b : Nat) (w : World) :
    (Instr.indexAt 42 (.pointer (some ⟨b, 12, none⟩)) (.int .i64 k)).run Tryd.prog w = .ok (.pointer (some ⟨b, od, none⟩)) w ∧ (Instr.indexAt 44 (.pointer (some ⟨b, 21, none⟩)) (.int .i64 k)).run Tryd.prog w = .ok (.pointer (some ⟨b, ob, none⟩)) w ∧ (Instr.indexAt 44 (.pointer (some ⟨b, 21, none⟩)) (.int .i64 (k + 1))).run Tryd.prog w = .ok (.pointer (some ⟨b, oe, none⟩)) w := by
  rcases h with h | h | h
  all_goals
    obtain ⟨rfl, -, rfl, rfl, rfl, -⟩ := h
    refine ⟨?_, ?_, ?_⟩ <;> kernel_rfl
end

set_option maxHeartbeats 4000000 in
theorem body_is (X Y n0 n1 n2 W l0 l1 l2 h0 h1 h2 : Int) (x1 x2 x3 y1 y2 y3 u1 u2 u3 v1 v2 v3 a1 a2 a3 b1 b2 b3 : Int) (k dn dx dy cx cy ex ey uu vv r0 r1 r2 r3 r4 r5 r6 r7 : Int) (od ob oe : Nat) (w : World) (hk : Hid (At k dn dx dy cx cy ex ey od ob oe X Y x1 y1 x2 y2 x3 y3 a1 b1 a2 b2 a3 b3)) (hd : Hid (vdB dx dy dn = true)) (hW : -200 ≤ W ∧ W ≤ 200)
    (hU : Hid (W * 16 * p65 (3 - dn) * dx = uu)) (hV : Hid (W * 16 * p65 (3 - dn) * dy = vv)) (hc : Hid (Corn cx cy ex ey uu vv r0 r1 r2 r3 r4 r5 r6 r7)) (hvv : -1000000000000 ≤ vv ∧ vv ≤ 1000000000000) :
    Calls Tryd.prog 41 #[.agg #[.int .i64 X, .int .i64 Y, .int .i64 n0, .int .i64 n1, .int .i64 n2, .int .i64 W, .int .i64 l0, .int .i64 l1, .int .i64 l2, .int .i64 h0, .int .i64 h1, .int .i64 h2, .int .i64 x1, .int .i64 y1, .int .i64 1, .int .i64 x2, .int .i64 y2, .int .i64 2, .int .i64 x3, .int .i64 y3, .int .i64 3, .int .i64 X, .int .i64 Y, .int .i64 a1, .int .i64 b1, .int .i64 a2, .int .i64 b2, .int .i64 a3, .int .i64 b3], .int .i64 k] w fun e w' => (∃ g, e = .returned (.slice (some ⟨g, 0, none⟩) 4 4) ∧ PRow w' (some ⟨g, 0, none⟩) [(r0, r1), (r2, r3), (r4, r5), (r6, r7)]) ∧ Below w.heap.size w w' := by
  have K := at_k hk.out
  have IA := fun b w => (at_addr hk.out b w).1
  have IB := fun b w => (at_addr hk.out b w).2.1
  have IC := fun b w => (at_addr hk.out b w).2.2
  have RB := Lib.hid hc.out.b
  have R0 : -1000000000000 ≤ r0 ∧ r0 ≤ 1000000000000 := hc.out.b _ (by simp)
  have R1 : -1000000000000 ≤ r1 ∧ r1 ≤ 1000000000000 := hc.out.b _ (by simp)
  have R2 : -1000000000000 ≤ r2 ∧ r2 ≤ 1000000000000 := hc.out.b _ (by simp)
  have R3 : -1000000000000 ≤ r3 ∧ r3 ≤ 1000000000000 := hc.out.b _ (by simp)
  have R4 : -1000000000000 ≤ r4 ∧ r4 ≤ 1000000000000 := hc.out.b _ (by simp)
  have R5 : -1000000000000 ≤ r5 ∧ r5 ≤ 1000000000000 := hc.out.b _ (by simp)
  have R6 : -1000000000000 ≤ r6 ∧ r6 ≤ 1000000000000 := hc.out.b _ (by simp)
  have R7 : -1000000000000 ≤ r7 ∧ r7 ≤ 1000000000000 := hc.out.b _ (by simp)
  go_enter Tryd.func41, Tryd.ntmps41
  go_upto_region 1 with fail
  obtain ⟨W0, hW0⟩ : ∃ z, w.alloc (.cells #[.int .i64 X, .int .i64 Y, .int .i64 n0, .int .i64 n1, .int .i64 n2, .int .i64 W, .int .i64 l0, .int .i64 l1, .int .i64 l2, .int .i64 h0, .int .i64 h1, .int .i64 h2, .int .i64 x1, .int .i64 y1, .int .i64 1, .int .i64 x2, .int .i64 y2, .int .i64 2, .int .i64 x3, .int .i64 y3, .int .i64 3, .int .i64 X, .int .i64 Y, .int .i64 a1, .int .i64 b1, .int .i64 a2, .int .i64 b2, .int .i64 a3, .int .i64 b3] 65) = z := ⟨_, rfl⟩
  obtain ⟨b, hb⟩ : ∃ b, w.heap.size = b := ⟨_, rfl⟩
  have HP : Hid (W0.heap[b]? = some (.cells #[.int .i64 X, .int .i64 Y, .int .i64 n0, .int .i64 n1, .int .i64 n2, .int .i64 W, .int .i64 l0, .int .i64 l1, .int .i64 l2, .int .i64 h0, .int .i64 h1, .int .i64 h2, .int .i64 x1, .int .i64 y1, .int .i64 1, .int .i64 x2, .int .i64 y2, .int .i64 2, .int .i64 x3, .int .i64 y3, .int .i64 3, .int .i64 X, .int .i64 Y, .int .i64 a1, .int .i64 b1, .int .i64 a2, .int .i64 b2, .int .i64 a3, .int .i64 b3] 65 (0, 0))) := Lib.hid (by rw [← hW0]; exact blk_new _ _ _ hb)
  have B : Hid (Below w.heap.size w W0) := Lib.hid (by rw [← hW0]; go_grown)
  rw [hW0, hb]
  have LB : Hid (b < W0.heap.size) := Lib.hid (blk_lt HP.out)
  clear hW0
  obtain ⟨sp, hsp⟩ : ∃ sp : ToldS, sp = [none, none, none, none, none, some (newS W0.heap.size #[.int .i64 0, .int .i64 0] 23), none, none, some (eqS (.int .i64 k)), some (eqS (.pointer (some ⟨b, 12, none⟩))), some (eqS (.pointer (some ⟨b, od, none⟩))), some (eqS (.agg #[.int .i64 dx, .int .i64 dy, .int .i64 dn])), some (eqS (.pointer (some ⟨b, 0, none⟩))), some (eqS (.pointer (some ⟨b, 5, none⟩))), some (eqS (.int .i64 W)), some (eqS (.agg #[.int .i64 uu, .int .i64 vv])), some (eqS (.agg #[.int .i64 (-vv), .int .i64 uu]))] := ⟨_, rfl⟩
  have s5 : sp.getD 5 none = some (newS W0.heap.size #[.int .i64 0, .int .i64 0] 23) := by rw [hsp]; rfl
  have s8 : sp.getD 8 none = some (eqS (.int .i64 k)) := by rw [hsp]; rfl
  have s9 : sp.getD 9 none = some (eqS (.pointer (some ⟨b, 12, none⟩))) := by rw [hsp]; rfl
  have s10 : sp.getD 10 none = some (eqS (.pointer (some ⟨b, od, none⟩))) := by rw [hsp]; rfl
  have s11 : sp.getD 11 none = some (eqS (.agg #[.int .i64 dx, .int .i64 dy, .int .i64 dn])) := by rw [hsp]; rfl
  have s12 : sp.getD 12 none = some (eqS (.pointer (some ⟨b, 0, none⟩))) := by rw [hsp]; rfl
  have s13 : sp.getD 13 none = some (eqS (.pointer (some ⟨b, 5, none⟩))) := by rw [hsp]; rfl
  have s14 : sp.getD 14 none = some (eqS (.int .i64 W)) := by rw [hsp]; rfl
  have s15 : sp.getD 15 none = some (eqS (.agg #[.int .i64 uu, .int .i64 vv])) := by rw [hsp]; rfl
  have s16 : sp.getD 16 none = some (eqS (.agg #[.int .i64 (-vv), .int .i64 uu])) := by rw [hsp]; rfl
  clear hsp
  refine (wpIn_wide (n := 0)).1 (region_headR (RtS sp) (rtS_keep sp) 10 rfl rfl rfl (by kernel_rfl) (by decide) (by kernel_rfl) (by kernel_rfl) (by kernel_rfl) ?_ ?_)
  · intro Q'; show ObsR _ _ _ _ _ _ _ _ (List.take _ _); simp only [List.take_succ_cons, List.take_zero]
    refine obsR_cons ?_ ?_
    · intro T wx K hB hF hD hK
      have g1 : T[1]? = some (.int .i64 k) := hF 1 (freeM_of (by kernel_rfl))
      refine ob_yes (wanted_none rfl) ?_
      clear hF hD
      go_simp
      exact hK _ _ (Below.refl _ _) (rt_eqS s8)
    refine obsR_cons ?_ ?_
    · intro T wx K hB hF hD hK
      have g2 : T[2]? = some (.pointer (some ⟨b, 0, none⟩)) := hF 2 (freeM_of (by kernel_rfl))
      refine ob_yes (wanted_none rfl) ?_
      clear hF hD
      go_simp
      exact hK _ _ (Below.refl _ _) (rt_eqS s9)
    refine obsR_cons ?_ ?_
    · intro T wx K hB hF hD hK
      have g9 := get_eqS (hD 1 9 (by simp [Region.binds]) (by kernel_rfl)) s9
      have g8 := get_eqS (hD 0 8 (by simp [Region.binds]) (by kernel_rfl)) s8
      refine ob_yes (wanted_none rfl) ?_
      clear hF hD
      go_simp
      exact hK _ _ (Below.refl _ _) (rt_eqS s10)
    refine obsR_cons ?_ ?_
    · intro T wx K hB hF hD hK
      have g10 := get_eqS (hD 2 10 (by simp [Region.binds]) (by kernel_rfl)) s10
      refine ob_yes (wanted_none rfl) ?_
      clear hF hD
      obtain ⟨⟨c0, c1, c2⟩, ⟨c3, c4⟩, ⟨c5, c6⟩, c7⟩ := at_cells hk.out _ _ (blk_call HP.out hB)
      go_simp
      exact hK _ _ (Below.refl _ _) (rt_eqS s11)
    refine obsR_cons ?_ ?_
    · intro T wx K hB hF hD hK
      have g2 : T[2]? = some (.pointer (some ⟨b, 0, none⟩)) := hF 2 (freeM_of (by kernel_rfl))
      refine ob_yes (wanted_none rfl) ?_
      clear hF hD
      go_simp
      exact hK _ _ (Below.refl _ _) (rt_eqS s12)
    refine obsR_cons ?_ ?_
    · intro T wx K hB hF hD hK
      have g12 := get_eqS (hD 4 12 (by simp [Region.binds]) (by kernel_rfl)) s12
      refine ob_yes (wanted_none rfl) ?_
      clear hF hD
      go_simp
      exact hK _ _ (Below.refl _ _) (rt_eqS s13)
    refine obsR_cons ?_ ?_
    · intro T wx K hB hF hD hK
      have g13 := get_eqS (hD 5 13 (by simp [Region.binds]) (by kernel_rfl)) s13
      refine ob_yes (wanted_none rfl) ?_
      clear hF hD
      obtain ⟨⟨c0, c1, c2⟩, ⟨c3, c4⟩, ⟨c5, c6⟩, c7⟩ := at_cells hk.out _ _ (blk_call HP.out hB)
      go_simp
      exact hK _ _ (Below.refl _ _) (rt_eqS s14)
    refine obsR_cons ?_ ?_
    · intro T wx K hB hF hD hK
      have g11 := get_eqS (hD 3 11 (by simp [Region.binds]) (by kernel_rfl)) s11
      have g14 := get_eqS (hD 6 14 (by simp [Region.binds]) (by kernel_rfl)) s14
      refine ob_yes (wanted_none rfl) ?_
      clear hF hD
      go_simp
      refine (offset_is dx dy dn W uu vv _ hd.out hW hU hV).mono ?_; rintro e w9 ⟨rfl, hb⟩
      exact hK _ _ hb (rt_eqS s15)
    refine obsR_cons ?_ ?_
    · intro T wx K hB hF hD hK
      have g15 := get_eqS (hD 7 15 (by simp [Region.binds]) (by kernel_rfl)) s15
      refine ob_yes (wanted_none rfl) ?_
      clear hF hD
      go_simp
      refine (quarter_any uu vv _ (by omega)).mono ?_; rintro e w9 ⟨rfl, hb⟩
      exact hK _ _ hb (rt_eqS s16)
    refine obsR_cons ?_ ?_
    · intro T wx K hB hF hD hK
      refine ob_yes (wanted_none rfl) ?_
      clear hF hD
      go_simp
      exact hK _ _ (belA (Below.refl _ _) _) (rt_S s5 ⟨_, rfl, hB.size, blk_new _ _ _ rfl⟩)
    exact obsR_nil
  · intro T w8 hb8 hF hs hD
    have g8 := get_eqS (hD 0 8 (by decide) (by kernel_rfl)) s8
    have g9 := get_eqS (hD 1 9 (by decide) (by kernel_rfl)) s9
    have g10 := get_eqS (hD 2 10 (by decide) (by kernel_rfl)) s10
    have g11 := get_eqS (hD 3 11 (by decide) (by kernel_rfl)) s11
    have g12 := get_eqS (hD 4 12 (by decide) (by kernel_rfl)) s12
    have g13 := get_eqS (hD 5 13 (by decide) (by kernel_rfl)) s13
    have g14 := get_eqS (hD 6 14 (by decide) (by kernel_rfl)) s14
    have g15 := get_eqS (hD 7 15 (by decide) (by kernel_rfl)) s15
    have g16 := get_eqS (hD 8 16 (by decide) (by kernel_rfl)) s16
    obtain ⟨v5, g5, p5⟩ := getS (hD 9 5 (by decide) (by kernel_rfl)) s5
    have hT := conc [(8, .int .i64 k), (9, .pointer (some ⟨b, 12, none⟩)), (10, .pointer (some ⟨b, od, none⟩)), (11, .agg #[.int .i64 dx, .int .i64 dy, .int .i64 dn]), (12, .pointer (some ⟨b, 0, none⟩)), (13, .pointer (some ⟨b, 5, none⟩)), (14, .int .i64 W), (15, .agg #[.int .i64 uu, .int .i64 vv]), (16, .agg #[.int .i64 (-vv), .int .i64 uu]), (5, v5)] hs hF (by simp only [List.forall_mem_cons]; exact ⟨g8, g9, g10, g11, g12, g13, g14, g15, g16, g5, fun p hp => absurd hp List.not_mem_nil⟩) (by kernel_rfl)
    simp only [List.foldl, List.setIfInBounds_toArray, List.set_cons_succ, List.set_cons_zero] at hT
    subst hT
    clear hF hD hs g8 g9 g10 g11 g12 g13 g14 g15 g16 g5 s5 s8 s9 s10 s11 s12 s13 s14 s15 s16
    show wpOpsIn _ _ _ _ _ [10] _ _
    obtain ⟨s, rfl, hs, h5⟩ := p5
    have f0 := blk_cell h5 0 _ rfl
    have f1 := blk_cell h5 1 _ rfl
    have f2 := blk_fz h5 0
    have f3 := blk_fz h5 1
    have B1 := Lib.hid (belS (p := ⟨s, 1, none⟩) (belS (p := ⟨s, 0, none⟩) (belT B.out hb8) (show w.heap.size ≤ s by have := LB.out; omega) (.int .i64 (-vv))) (show w.heap.size ≤ s by have := LB.out; omega) (.int .i64 uu))
    have P1 := Lib.hid (blk_other (j := 1) (blk_other (j := 0) (blk_call HP.out hb8) (show s ≠ b by have := LB.out; omega) (.int .i64 (-vv))) (show s ≠ b by have := LB.out; omega) (.int .i64 uu))
    have S1 := Lib.hid (blk_set (j := 1) (blk_set (j := 0) h5 (.int .i64 (-vv))) (.int .i64 uu))
    clear hb8 hs h5 HP B LB
    simp only [wpOpsIn]
    go_simp
    clear f0 f1 f2 f3
    generalize ((w8.setCell ⟨s, 0, none⟩ (.int .i64 (-vv))).setCell ⟨s, 1, none⟩ (.int .i64 uu)) = W1 at *
    go_upto_region 2 with fail
    obtain ⟨⟨c0, c1, c2⟩, ⟨c3, c4⟩, ⟨c5, c6⟩, c7⟩ := at_cells hk.out _ _ P1.out
    have yb := blk_lt P1.out
    go_cut [6, 7] (fun s6 s7 wx => ∃ g h : Nat, s6 = .pointer (some ⟨g, 0, none⟩) ∧ s7 = .pointer (some ⟨h, 0, none⟩) ∧ wx.heap[g]? = some (.cells #[.int .i64 cx, .int .i64 cy] 23 (0, 0)) ∧ wx.heap[h]? = some (.cells #[.int .i64 ex, .int .i64 ey] 23 (0, 0)) ∧ Below W1.heap.size W1 wx)
    case first =>
      go_region
      all_goals
        go_wp2_with fail
        go_meet
      · exact ⟨_, _, rfl, rfl, blk_alloc (blk_new _ _ _ rfl) _, blk_new _ _ _ (by simp), (belA (belA (Below.refl _ _) _) _).drew⟩
      · exact ⟨_, _, rfl, rfl, blk_new _ _ _ (by simp), blk_alloc (blk_new _ _ _ rfl) _, (belA (belA (Below.refl _ _) _) _).drew⟩
    case rest =>
    obtain ⟨g, h, rfl, rfl, hG, hH, hB3⟩ := hcut
    have G2 := Lib.hid hG
    have H2 := Lib.hid hH
    have S2 := Lib.hid (blk_call S1.out hB3)
    have B2 := Lib.hid (belT B1.out hB3)
    clear c0 c1 c2 c3 c4 c5 c6 c7 hG hH hB3 B1 S1 P1 IA IB IC
    go_upto_region 3 with fail
    obtain ⟨sp, hsp⟩ : ∃ sp : ToldS, sp = [none, none, none, none, none, none, none, none, none, none, none, none, none, none, none, none, none, none, none, none, none, none, none, none, none, none, some (eqS (.agg #[.int .i64 cx, .int .i64 cy])), some (eqS (.agg #[.int .i64 (-vv), .int .i64 uu])), some (eqS (.agg #[.int .i64 r0, .int .i64 r1])), some (eqS (.agg #[.int .i64 ex, .int .i64 ey])), some (eqS (.agg #[.int .i64 (-vv), .int .i64 uu])), some (eqS (.agg #[.int .i64 r2, .int .i64 r3])), some (eqS (.agg #[.int .i64 ex, .int .i64 ey])), some (eqS (.agg #[.int .i64 (-vv), .int .i64 uu])), some (eqS (.agg #[.int .i64 r4, .int .i64 r5])), some (eqS (.agg #[.int .i64 cx, .int .i64 cy])), some (eqS (.agg #[.int .i64 (-vv), .int .i64 uu])), some (eqS (.agg #[.int .i64 r6, .int .i64 r7])), some (row4 [(r0, r1), (r2, r3), (r4, r5), (r6, r7)])] := ⟨_, rfl⟩
    have s26 : sp.getD 26 none = some (eqS (.agg #[.int .i64 cx, .int .i64 cy])) := by rw [hsp]; rfl
    have s27 : sp.getD 27 none = some (eqS (.agg #[.int .i64 (-vv), .int .i64 uu])) := by rw [hsp]; rfl
    have s28 : sp.getD 28 none = some (eqS (.agg #[.int .i64 r0, .int .i64 r1])) := by rw [hsp]; rfl
    have s29 : sp.getD 29 none = some (eqS (.agg #[.int .i64 ex, .int .i64 ey])) := by rw [hsp]; rfl
    have s30 : sp.getD 30 none = some (eqS (.agg #[.int .i64 (-vv), .int .i64 uu])) := by rw [hsp]; rfl
    have s31 : sp.getD 31 none = some (eqS (.agg #[.int .i64 r2, .int .i64 r3])) := by rw [hsp]; rfl
    have s32 : sp.getD 32 none = some (eqS (.agg #[.int .i64 ex, .int .i64 ey])) := by rw [hsp]; rfl
    have s33 : sp.getD 33 none = some (eqS (.agg #[.int .i64 (-vv), .int .i64 uu])) := by rw [hsp]; rfl
    have s34 : sp.getD 34 none = some (eqS (.agg #[.int .i64 r4, .int .i64 r5])) := by rw [hsp]; rfl
    have s35 : sp.getD 35 none = some (eqS (.agg #[.int .i64 cx, .int .i64 cy])) := by rw [hsp]; rfl
    have s36 : sp.getD 36 none = some (eqS (.agg #[.int .i64 (-vv), .int .i64 uu])) := by rw [hsp]; rfl
    have s37 : sp.getD 37 none = some (eqS (.agg #[.int .i64 r6, .int .i64 r7])) := by rw [hsp]; rfl
    have s38 : sp.getD 38 none = some (row4 [(r0, r1), (r2, r3), (r4, r5), (r6, r7)]) := by rw [hsp]; rfl
    clear hsp
    refine (wpIn_wide (n := 0)).1 (region_headR (RtS sp) (rtS_keep sp) 13 rfl rfl rfl (by kernel_rfl) (by decide) (by kernel_rfl) (by kernel_rfl) (by kernel_rfl) ?_ ?_)
    · intro Q'; show ObsR _ _ _ _ _ _ _ _ (List.take _ _); simp only [List.take_succ_cons, List.take_zero]
      refine obsR_cons ?_ ?_
      · intro T wx K hB hF hD hK
        have g6 : T[6]? = some (.pointer (some ⟨g, 0, none⟩)) := hF 6 (freeM_of (by kernel_rfl))
        refine ob_yes (wanted_none rfl) ?_
        clear hF hD
        have c0 := blk_cell (blk_call G2.out hB) 0 _ rfl
        have c1 := blk_cell (blk_call G2.out hB) 1 _ rfl
        go_simp
        exact hK _ _ (Below.refl _ _) (rt_eqS s26)
      refine obsR_cons ?_ ?_
      · intro T wx K hB hF hD hK
        have g5 : T[5]? = some (.pointer (some ⟨s, 0, none⟩)) := hF 5 (freeM_of (by kernel_rfl))
        refine ob_yes (wanted_none rfl) ?_
        clear hF hD
        have c0 := blk_cell (blk_call S2.out hB) 0 _ rfl
        have c1 := blk_cell (blk_call S2.out hB) 1 _ rfl
        go_simp
        exact hK _ _ (Below.refl _ _) (rt_eqS s27)
      refine obsR_cons ?_ ?_
      · intro T wx K hB hF hD hK
        have g26 := get_eqS (hD 0 26 (by simp [Region.binds]) (by kernel_rfl)) s26
        have g27 := get_eqS (hD 1 27 (by simp [Region.binds]) (by kernel_rfl)) s27
        refine ob_yes (wanted_none rfl) ?_
        clear hF hD
        go_simp
        refine (sub_is7 cx cy (-vv) uu r0 r1 _ (Lib.hid hc.out.e0) (Lib.hid hc.out.e1) R0 R1).mono ?_; rintro e w9 ⟨rfl, hb⟩
        exact hK _ _ hb (rt_eqS s28)
      refine obsR_cons ?_ ?_
      · intro T wx K hB hF hD hK
        have g7 : T[7]? = some (.pointer (some ⟨h, 0, none⟩)) := hF 7 (freeM_of (by kernel_rfl))
        refine ob_yes (wanted_none rfl) ?_
        clear hF hD
        have c0 := blk_cell (blk_call H2.out hB) 0 _ rfl
        have c1 := blk_cell (blk_call H2.out hB) 1 _ rfl
        go_simp
        exact hK _ _ (Below.refl _ _) (rt_eqS s29)
      refine obsR_cons ?_ ?_
      · intro T wx K hB hF hD hK
        have g5 : T[5]? = some (.pointer (some ⟨s, 0, none⟩)) := hF 5 (freeM_of (by kernel_rfl))
        refine ob_yes (wanted_none rfl) ?_
        clear hF hD
        have c0 := blk_cell (blk_call S2.out hB) 0 _ rfl
        have c1 := blk_cell (blk_call S2.out hB) 1 _ rfl
        go_simp
        exact hK _ _ (Below.refl _ _) (rt_eqS s30)
      refine obsR_cons ?_ ?_
      · intro T wx K hB hF hD hK
        have g29 := get_eqS (hD 3 29 (by simp [Region.binds]) (by kernel_rfl)) s29
        have g30 := get_eqS (hD 4 30 (by simp [Region.binds]) (by kernel_rfl)) s30
        refine ob_yes (wanted_none rfl) ?_
        clear hF hD
        go_simp
        refine (sub_is7 ex ey (-vv) uu r2 r3 _ (Lib.hid hc.out.e2) (Lib.hid hc.out.e3) R2 R3).mono ?_; rintro e w9 ⟨rfl, hb⟩
        exact hK _ _ hb (rt_eqS s31)
      refine obsR_cons ?_ ?_
      · intro T wx K hB hF hD hK
        have g7 : T[7]? = some (.pointer (some ⟨h, 0, none⟩)) := hF 7 (freeM_of (by kernel_rfl))
        refine ob_yes (wanted_none rfl) ?_
        clear hF hD
        have c0 := blk_cell (blk_call H2.out hB) 0 _ rfl
        have c1 := blk_cell (blk_call H2.out hB) 1 _ rfl
        go_simp
        exact hK _ _ (Below.refl _ _) (rt_eqS s32)
      refine obsR_cons ?_ ?_
      · intro T wx K hB hF hD hK
        have g5 : T[5]? = some (.pointer (some ⟨s, 0, none⟩)) := hF 5 (freeM_of (by kernel_rfl))
        refine ob_yes (wanted_none rfl) ?_
        clear hF hD
        have c0 := blk_cell (blk_call S2.out hB) 0 _ rfl
        have c1 := blk_cell (blk_call S2.out hB) 1 _ rfl
        go_simp
        exact hK _ _ (Below.refl _ _) (rt_eqS s33)
      refine obsR_cons ?_ ?_
      · intro T wx K hB hF hD hK
        have g32 := get_eqS (hD 6 32 (by simp [Region.binds]) (by kernel_rfl)) s32
        have g33 := get_eqS (hD 7 33 (by simp [Region.binds]) (by kernel_rfl)) s33
        refine ob_yes (wanted_none rfl) ?_
        clear hF hD
        go_simp
        refine (gadd_is ex ey (-vv) uu r4 r5 _ (Lib.hid hc.out.e4) (Lib.hid hc.out.e5) R4 R5).mono ?_; rintro e w9 ⟨rfl, hb⟩
        exact hK _ _ hb (rt_eqS s34)
      refine obsR_cons ?_ ?_
      · intro T wx K hB hF hD hK
        have g6 : T[6]? = some (.pointer (some ⟨g, 0, none⟩)) := hF 6 (freeM_of (by kernel_rfl))
        refine ob_yes (wanted_none rfl) ?_
        clear hF hD
        have c0 := blk_cell (blk_call G2.out hB) 0 _ rfl
        have c1 := blk_cell (blk_call G2.out hB) 1 _ rfl
        go_simp
        exact hK _ _ (Below.refl _ _) (rt_eqS s35)
      refine obsR_cons ?_ ?_
      · intro T wx K hB hF hD hK
        have g5 : T[5]? = some (.pointer (some ⟨s, 0, none⟩)) := hF 5 (freeM_of (by kernel_rfl))
        refine ob_yes (wanted_none rfl) ?_
        clear hF hD
        have c0 := blk_cell (blk_call S2.out hB) 0 _ rfl
        have c1 := blk_cell (blk_call S2.out hB) 1 _ rfl
        go_simp
        exact hK _ _ (Below.refl _ _) (rt_eqS s36)
      refine obsR_cons ?_ ?_
      · intro T wx K hB hF hD hK
        have g35 := get_eqS (hD 9 35 (by simp [Region.binds]) (by kernel_rfl)) s35
        have g36 := get_eqS (hD 10 36 (by simp [Region.binds]) (by kernel_rfl)) s36
        refine ob_yes (wanted_none rfl) ?_
        clear hF hD
        go_simp
        refine (gadd_is cx cy (-vv) uu r6 r7 _ (Lib.hid hc.out.e6) (Lib.hid hc.out.e7) R6 R7).mono ?_; rintro e w9 ⟨rfl, hb⟩
        exact hK _ _ hb (rt_eqS s37)
      refine obsR_cons ?_ ?_
      · intro T wx K hB hF hD hK
        have g28 := get_eqS (hD 2 28 (by simp [Region.binds]) (by kernel_rfl)) s28
        have g31 := get_eqS (hD 5 31 (by simp [Region.binds]) (by kernel_rfl)) s31
        have g34 := get_eqS (hD 8 34 (by simp [Region.binds]) (by kernel_rfl)) s34
        have g37 := get_eqS (hD 11 37 (by simp [Region.binds]) (by kernel_rfl)) s37
        refine ob_yes (wanted_none rfl) ?_
        clear hF hD
        go_simp
        exact hK _ _ (belA (Below.refl _ _) _) (rt_S s38 ⟨_, rfl, prow_new _ _ _ _ rfl rfl⟩)
      exact obsR_nil
    · intro T w8 hb hF hs hD
      have g26 := get_eqS (hD 0 26 (by decide) (by kernel_rfl)) s26
      have g27 := get_eqS (hD 1 27 (by decide) (by kernel_rfl)) s27
      have g28 := get_eqS (hD 2 28 (by decide) (by kernel_rfl)) s28
      have g29 := get_eqS (hD 3 29 (by decide) (by kernel_rfl)) s29
      have g30 := get_eqS (hD 4 30 (by decide) (by kernel_rfl)) s30
      have g31 := get_eqS (hD 5 31 (by decide) (by kernel_rfl)) s31
      have g32 := get_eqS (hD 6 32 (by decide) (by kernel_rfl)) s32
      have g33 := get_eqS (hD 7 33 (by decide) (by kernel_rfl)) s33
      have g34 := get_eqS (hD 8 34 (by decide) (by kernel_rfl)) s34
      have g35 := get_eqS (hD 9 35 (by decide) (by kernel_rfl)) s35
      have g36 := get_eqS (hD 10 36 (by decide) (by kernel_rfl)) s36
      have g37 := get_eqS (hD 11 37 (by decide) (by kernel_rfl)) s37
      obtain ⟨v38, g38, p38⟩ := getS (hD 12 38 (by decide) (by kernel_rfl)) s38
      have hT := conc [(26, .agg #[.int .i64 cx, .int .i64 cy]), (27, .agg #[.int .i64 (-vv), .int .i64 uu]), (28, .agg #[.int .i64 r0, .int .i64 r1]), (29, .agg #[.int .i64 ex, .int .i64 ey]), (30, .agg #[.int .i64 (-vv), .int .i64 uu]), (31, .agg #[.int .i64 r2, .int .i64 r3]), (32, .agg #[.int .i64 ex, .int .i64 ey]), (33, .agg #[.int .i64 (-vv), .int .i64 uu]), (34, .agg #[.int .i64 r4, .int .i64 r5]), (35, .agg #[.int .i64 cx, .int .i64 cy]), (36, .agg #[.int .i64 (-vv), .int .i64 uu]), (37, .agg #[.int .i64 r6, .int .i64 r7]), (38, v38)] hs hF (by simp only [List.forall_mem_cons]; exact ⟨g26, g27, g28, g29, g30, g31, g32, g33, g34, g35, g36, g37, g38, fun p hp => absurd hp List.not_mem_nil⟩) (by kernel_rfl)
      simp only [List.foldl, List.setIfInBounds_toArray, List.set_cons_succ, List.set_cons_zero] at hT
      subst hT
      clear hF hD hs g26 g27 g28 g29 g30 g31 g32 g33 g34 g35 g36 g37 g38 s26 s27 s28 s29 s30 s31 s32 s33 s34 s35 s36 s37 s38
      show wpOpsIn _ _ _ _ _ [13] _ _
      obtain ⟨g9, rfl, pr⟩ := p38
      have B3 := Lib.hid (belT B2.out hb)
      have PR := Lib.hid pr
      clear hb pr
      simp only [wpOpsIn]
      go_simp
      go_wp2
      go_ret
      exact ⟨⟨_, rfl, PR.out⟩, B3.out⟩
end Go.Proofs.YtalhkcmlacppjaaDoor

