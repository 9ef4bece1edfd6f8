/- Helpers: what the law reaches. -/
import Derived.Test.YtalhkcmlacppjaaGreatDoorZlHp
namespace Go.Proofs.YtalhkcmlacppjaaGreatDoor
open Go.ChangeShapes Go.WideShapes Go.ChangeAt Go.RowKit
set_option linter.unusedVariables false
set_option linter.unusedSimpArgs false

def bi (b : Bool) : Int := if b then 1 else 0
theorem bi_bd (b : Bool) : 0 ≤ bi b ∧ bi b ≤ 1 := by cases b <;> simp [bi]
/-- The signed crossing of the edge (a, b) - (c, d) by the ray from (p, q) to the right: an edge that goes up counts 1, one that goes down -1. -/
def wE (a b c d p q : Int) : Int := if d < b then -bi (upB c d a b p q) else bi (upB a b c d p q)
def wEi (ps : List (Int × Int)) (p q : Int) (i : Nat) : Int := wE (cx ps i) (cy ps i) (cx ps (nx ps.length i)) (cy ps (nx ps.length i)) p q
/-- The winding number; on an edge it is that of a point a little to the right and upwards. -/
def wnd (ps : List (Int × Int)) (p q : Int) : Int := sumE (wEi ps p q) (List.range ps.length)

theorem xor_signed {u v s t : Bool} (h : Bool.xor u v = Bool.xor s t) (h1 : u = true → s = false) (h2 : v = true → t = false) : bi u - bi v = bi t - bi s := by
  cases u <;> cases v <;> cases s <;> cases t <;> simp_all [bi]
theorem up_signed {a b c d x1 x2 y1 y2 : Int} (hbd : b ≤ d) (hxy : x2 < y2) (h : segB a b c d x1 x2 y1 y2 = false) :
    bi (upB a b c d x1 x2) - bi (upB a b c d y1 y2) = bi (inQ x1 x2 y1 y2 c d) - bi (inQ x1 x2 y1 y2 a b) := by
  refine xor_signed (edge_key hbd hxy h) (fun k => ?_) (fun k => ?_)
  · unfold upB at k
    rw [Bool.and_eq_true, Bool.and_eq_true, decide_eq_true_eq] at k
    unfold inQ
    rw [decide_eq_false (by omega)]; rfl
  · unfold upB at k
    rw [Bool.and_eq_true, Bool.and_eq_true, decide_eq_true_eq, decide_eq_true_eq] at k
    unfold inQ
    rw [decide_eq_false (p := d ≤ y2) (by omega)]; simp
/-- Along a segment upwards that does not meet an edge its crossing changes by what the edge's ends say. -/
theorem wE_key {a b c d x1 x2 y1 y2 : Int} (hxy : x2 < y2) (h : segB a b c d x1 x2 y1 y2 = false) :
    wE a b c d x1 x2 - wE a b c d y1 y2 = bi (inQ x1 x2 y1 y2 c d) - bi (inQ x1 x2 y1 y2 a b) := by
  unfold wE
  by_cases g : d < b
  · rw [if_pos g, if_pos g]
    have := up_signed (a := c) (b := d) (c := a) (d := b) (by omega) hxy (by rw [segB_rev1]; exact h)
    omega
  · rw [if_neg g, if_neg g]
    exact up_signed (by omega) hxy h
theorem wE_flat {a b c d x1 y1 z : Int} (h : segB a b c d x1 z y1 z = false) : wE a b c d x1 z = wE a b c d y1 z := by
  unfold wE
  split
  · rw [edge_flat (by omega) (by rw [segB_rev1]; exact h)]
  · rw [edge_flat (by omega) h]
theorem sumE_zero (f : Nat → Int) : ∀ l : List Nat, (∀ i ∈ l, f i = 0) → sumE f l = 0
  | [], _ => rfl
  | i :: l, h => by
    simp only [sumE]
    rw [h i List.mem_cons_self, sumE_zero f l (fun j hj => h j (List.mem_cons_of_mem _ hj))]
    omega
theorem sumE_one (f : Nat → Int) (e : Nat) : ∀ n, e < n → (∀ i, i < n → i ≠ e → f i = 0) → sumE f (List.range n) = f e
  | 0, h, _ => by omega
  | n + 1, h, hz => by
    rw [List.range_succ, sumE_snoc]
    by_cases g : e = n
    · subst g
      rw [sumE_zero f _ (fun i hi => hz i (by have := List.mem_range.1 hi; omega) (by have := List.mem_range.1 hi; omega))]
      omega
    · rw [sumE_one f e n (by omega) (fun i hi => hz i (by omega)), hz n (by omega) (fun k => g k.symm)]
      omega
theorem sumE_two (f : Nat → Int) (e g : Nat) (heg : e ≠ g) : ∀ n, e < n → g < n → (∀ i, i < n → i ≠ e → i ≠ g → f i = 0) → sumE f (List.range n) = f e + f g
  | 0, h, _, _ => by omega
  | n + 1, h, h', hz => by
    rw [List.range_succ, sumE_snoc]
    by_cases k : e = n
    · subst k
      rw [sumE_one f g e (by omega) (fun i hi hne => hz i (by omega) (by omega) hne)]
      omega
    · by_cases k' : g = n
      · subst k'
        rw [sumE_one f e g (by omega) (fun i hi hne => hz i (by omega) hne (by omega))]
      · rw [sumE_two f e g heg n (by omega) (by omega) (fun i hi => hz i (by omega)), hz n (by omega) (fun q => k q.symm) (fun q => k' q.symm)]
        omega
theorem sumE_sub (f g : Nat → Int) (l : List Nat) : sumE (fun i => f i - g i) l = sumE f l - sumE g l := by
  rw [show (fun i => f i - g i) = (fun i => f i + (fun i => -g i) i) from funext fun i => by show f i - g i = f i + -g i; omega, sumE_add, sumE_neg]
  omega
/-- Round a closed polygon the differences of a function on the corners add up to nothing. -/
theorem sum_round (Q : Nat → Int) (n : Nat) (hn : 0 < n) : sumE (fun i => Q (nx n i) - Q i) (List.range n) = 0 := by
  rw [sumE_sub]
  have := sumE_turn Q n 1 hn
  show sumE (fun i => Q ((i + 1) % n)) (List.range n) - sumE Q (List.range n) = 0
  omega
/-- The change of the winding number along a segment that meets only edge e, or e and g. -/
theorem wnd_one (ps : List (Int × Int)) {x1 x2 y1 y2 : Int} (e : Nat) (he : e < ps.length) (hxy : x2 < y2)
    (h : ∀ i, i < ps.length → i ≠ e → segB (cx ps i) (cy ps i) (cx ps (nx ps.length i)) (cy ps (nx ps.length i)) x1 x2 y1 y2 = false) :
    wnd ps x1 x2 - wnd ps y1 y2 = wEi ps x1 x2 e - wEi ps y1 y2 e - (bi (inQ x1 x2 y1 y2 (cx ps (nx ps.length e)) (cy ps (nx ps.length e))) - bi (inQ x1 x2 y1 y2 (cx ps e) (cy ps e))) := by
  have k := sum_round (fun i => bi (inQ x1 x2 y1 y2 (cx ps i) (cy ps i))) ps.length (by omega)
  have r := sumE_one (fun i => (wEi ps x1 x2 i - wEi ps y1 y2 i) - (bi (inQ x1 x2 y1 y2 (cx ps (nx ps.length i)) (cy ps (nx ps.length i))) - bi (inQ x1 x2 y1 y2 (cx ps i) (cy ps i)))) e ps.length he (fun i hi hne => by
    have := wE_key hxy (h i hi hne)
    show (wEi ps x1 x2 i - wEi ps y1 y2 i) - _ = 0
    unfold wEi
    omega)
  rw [sumE_sub, sumE_sub] at r
  unfold wnd
  rw [← r]
  have k' : sumE (fun i => bi (inQ x1 x2 y1 y2 (cx ps (nx ps.length i)) (cy ps (nx ps.length i))) - bi (inQ x1 x2 y1 y2 (cx ps i) (cy ps i))) (List.range ps.length) = 0 := k
  rw [k']
  omega
theorem wnd_two (ps : List (Int × Int)) {x1 x2 y1 y2 : Int} (e g : Nat) (heg : e ≠ g) (he : e < ps.length) (hg : g < ps.length) (hxy : x2 < y2)
    (h : ∀ i, i < ps.length → i ≠ e → i ≠ g → segB (cx ps i) (cy ps i) (cx ps (nx ps.length i)) (cy ps (nx ps.length i)) x1 x2 y1 y2 = false) :
    wnd ps x1 x2 - wnd ps y1 y2 = (wEi ps x1 x2 e - wEi ps y1 y2 e - (bi (inQ x1 x2 y1 y2 (cx ps (nx ps.length e)) (cy ps (nx ps.length e))) - bi (inQ x1 x2 y1 y2 (cx ps e) (cy ps e)))) + (wEi ps x1 x2 g - wEi ps y1 y2 g - (bi (inQ x1 x2 y1 y2 (cx ps (nx ps.length g)) (cy ps (nx ps.length g))) - bi (inQ x1 x2 y1 y2 (cx ps g) (cy ps g)))) := by
  have k := sum_round (fun i => bi (inQ x1 x2 y1 y2 (cx ps i) (cy ps i))) ps.length (by omega)
  have r := sumE_two (fun i => (wEi ps x1 x2 i - wEi ps y1 y2 i) - (bi (inQ x1 x2 y1 y2 (cx ps (nx ps.length i)) (cy ps (nx ps.length i))) - bi (inQ x1 x2 y1 y2 (cx ps i) (cy ps i)))) e g heg ps.length he hg (fun i hi hne hne' => by
    have := wE_key hxy (h i hi hne hne')
    show (wEi ps x1 x2 i - wEi ps y1 y2 i) - _ = 0
    unfold wEi
    omega)
  rw [sumE_sub, sumE_sub] at r
  unfold wnd
  rw [← r]
  have k' : sumE (fun i => bi (inQ x1 x2 y1 y2 (cx ps (nx ps.length i)) (cy ps (nx ps.length i))) - bi (inQ x1 x2 y1 y2 (cx ps i) (cy ps i))) (List.range ps.length) = 0 := k
  rw [k']
  omega
theorem wnd_flat1 (ps : List (Int × Int)) {x1 y1 z : Int} (e : Nat) (he : e < ps.length)
    (h : ∀ i, i < ps.length → i ≠ e → segB (cx ps i) (cy ps i) (cx ps (nx ps.length i)) (cy ps (nx ps.length i)) x1 z y1 z = false) :
    wnd ps x1 z - wnd ps y1 z = wEi ps x1 z e - wEi ps y1 z e := by
  have r := sumE_one (fun i => wEi ps x1 z i - wEi ps y1 z i) e ps.length he (fun i hi hne => by
    have := wE_flat (h i hi hne)
    show wEi ps x1 z i - wEi ps y1 z i = 0
    unfold wEi
    omega)
  rw [sumE_sub] at r
  exact r
theorem wnd_flat2 (ps : List (Int × Int)) {x1 y1 z : Int} (e g : Nat) (heg : e ≠ g) (he : e < ps.length) (hg : g < ps.length)
    (h : ∀ i, i < ps.length → i ≠ e → i ≠ g → segB (cx ps i) (cy ps i) (cx ps (nx ps.length i)) (cy ps (nx ps.length i)) x1 z y1 z = false) :
    wnd ps x1 z - wnd ps y1 z = (wEi ps x1 z e - wEi ps y1 z e) + (wEi ps x1 z g - wEi ps y1 z g) := by
  have r := sumE_two (fun i => wEi ps x1 z i - wEi ps y1 z i) e g heg ps.length he hg (fun i hi hne hne' => by
    have := wE_flat (h i hi hne hne')
    show wEi ps x1 z i - wEi ps y1 z i = 0
    unfold wEi
    omega)
  rw [sumE_sub] at r
  exact r

def scL (N : Int) (ps : List (Int × Int)) : List (Int × Int) := ps.map fun p => (N * p.1, N * p.2)
theorem scL_len (N : Int) (ps : List (Int × Int)) : (scL N ps).length = ps.length := by simp [scL]
theorem scL_at (N : Int) (ps : List (Int × Int)) (i : Nat) : cx (scL N ps) i = N * cx ps i ∧ cy (scL N ps) i = N * cy ps i := by
  unfold cx cy scL
  rw [List.getD_eq_getElem?_getD, List.getD_eq_getElem?_getD, List.getElem?_map]
  cases ps[i]? with
  | none => simp
  | some p => exact ⟨rfl, rfl⟩
theorem scL_scL (M N : Int) (ps : List (Int × Int)) : scL M (scL N ps) = scL (M * N) ps := by
  unfold scL
  rw [List.map_map]
  congr 1
  funext p
  show (M * (N * p.1), M * (N * p.2)) = (M * N * p.1, M * N * p.2)
  rw [Int.mul_assoc, Int.mul_assoc]
theorem scL_one (ps : List (Int × Int)) : scL 1 ps = ps := by
  unfold scL
  have : (fun p : Int × Int => (1 * p.1, 1 * p.2)) = id := by funext p; simp
  rw [this, List.map_id]
section
variable {N : Int} (hN : 0 < N)
include hN
theorem lt_sc (a b : Int) : N * a < N * b ↔ a < b := by
  constructor
  · intro h; exact Int.lt_of_mul_lt_mul_left h (by omega)
  · intro h; exact Int.mul_lt_mul_of_pos_left h hN
theorem le_sc (a b : Int) : N * a ≤ N * b ↔ a ≤ b := by
  constructor
  · intro h; exact Int.le_of_mul_le_mul_left h hN
  · intro h; exact Int.mul_le_mul_of_nonneg_left h (by omega)
theorem det_sc (a b c d p q : Int) : (det (N * a) (N * b) (N * c) (N * d) (N * p) (N * q) < 0 ↔ det a b c d p q < 0) ∧ (0 < det (N * a) (N * b) (N * c) (N * d) (N * p) (N * q) ↔ 0 < det a b c d p q) := by
  have e : det (N * a) (N * b) (N * c) (N * d) (N * p) (N * q) = N * (N * det a b c d p q) := by unfold det; grind
  rw [e]
  constructor
  · have := lt_sc hN (N * det a b c d p q) 0
    have k := lt_sc hN (det a b c d p q) 0
    rw [Int.mul_zero] at this k
    rw [this, k]
  · have := lt_sc hN 0 (N * det a b c d p q)
    have k := lt_sc hN 0 (det a b c d p q)
    rw [Int.mul_zero] at this k
    rw [this, k]
theorem upB_sc (a b c d p q : Int) : upB (N * a) (N * b) (N * c) (N * d) (N * p) (N * q) = upB a b c d p q := by
  unfold upB
  rw [ori_pos, ori_pos]
  have h1 := le_sc hN b q
  have h2 := lt_sc hN q d
  have h3 := (det_sc hN a b c d p q).2
  rw [decide_eq_decide.2 h1, decide_eq_decide.2 h2, decide_eq_decide.2 h3]
theorem wE_sc (a b c d p q : Int) : wE (N * a) (N * b) (N * c) (N * d) (N * p) (N * q) = wE a b c d p q := by
  unfold wE
  rw [upB_sc hN, upB_sc hN]
  have := lt_sc hN d b
  by_cases h : d < b
  · rw [if_pos h, if_pos (this.2 h)]
  · rw [if_neg h, if_neg (fun k => h (this.1 k))]
theorem wnd_sc (ps : List (Int × Int)) (p q : Int) : wnd (scL N ps) (N * p) (N * q) = wnd ps p q := by
  unfold wnd
  rw [scL_len]
  exact sumE_congr fun i _ => by
    unfold wEi
    rw [scL_len, (scL_at N ps i).1, (scL_at N ps i).2, (scL_at N ps (nx ps.length i)).1, (scL_at N ps (nx ps.length i)).2, wE_sc hN]
end
theorem cmpI_sign {x y z t : Int} (h1 : x < y ↔ z < t) (h2 : y < x ↔ t < z) : cmpI x y = cmpI z t := by
  unfold cmpI
  by_cases a : x < y
  · rw [if_pos a, if_pos (h1.1 a)]
  · rw [if_neg a, if_neg (fun k => a (h1.2 k))]
    by_cases b : y < x
    · rw [if_pos b, if_pos (h2.1 b)]
    · rw [if_neg b, if_neg (fun k => b (h2.2 k))]
section
variable {N : Int} (hN : 0 < N)
include hN
theorem ori_sc (a b c d p q : Int) : ori (N * a) (N * b) (N * c) (N * d) (N * p) (N * q) = ori a b c d p q := by
  have h := det_sc hN a b c d p q
  unfold det at h
  unfold ori
  exact cmpI_sign (by omega) (by omega)
theorem mnI_sc (a b : Int) : mnI (N * a) (N * b) = N * mnI a b := by
  have := lt_sc hN b a
  unfold mnI
  by_cases h : b < a
  · rw [if_pos h, if_pos (this.2 h)]
  · rw [if_neg h, if_neg (fun k => h (this.1 k))]
theorem mxI_sc (a b : Int) : mxI (N * a) (N * b) = N * mxI a b := by
  have := lt_sc hN a b
  unfold mxI
  by_cases h : a < b
  · rw [if_pos h, if_pos (this.2 h)]
  · rw [if_neg h, if_neg (fun k => h (this.1 k))]
theorem onB_sc (a b c d p q : Int) : onB (N * a) (N * b) (N * c) (N * d) (N * p) (N * q) = onB a b c d p q := by
  unfold onB
  rw [mnI_sc hN, mxI_sc hN, mnI_sc hN, mxI_sc hN, ori_sc hN, decide_eq_decide.2 (le_sc hN (mnI a c) p), decide_eq_decide.2 (le_sc hN p (mxI a c)), decide_eq_decide.2 (le_sc hN (mnI b d) q), decide_eq_decide.2 (le_sc hN q (mxI b d))]
theorem segB_sc (a b c d p q r s : Int) : segB (N * a) (N * b) (N * c) (N * d) (N * p) (N * q) (N * r) (N * s) = segB a b c d p q r s := by
  unfold segB
  rw [onB_sc hN, onB_sc hN, onB_sc hN, onB_sc hN, ori_sc hN, ori_sc hN, ori_sc hN, ori_sc hN]
end
end Go.Proofs.YtalhkcmlacppjaaGreatDoor


namespace Go.Proofs.YtalhkcmlacppjaaGreatDoor
open Go.ChangeShapes Go.WideShapes Go.ChangeAt Go.RowKit
set_option linter.unusedVariables false
set_option linter.unusedSimpArgs false

theorem btw_mul {a c p : Int} (v : Int) (h : Btw a c p) : v * a ≤ v * p ∨ v * c ≤ v * p := by
  unfold Btw at h
  rcases Int.le_total 0 v with g | g
  · rcases h with ⟨h1, h2⟩ | ⟨h1, h2⟩
    · exact .inl (Int.mul_le_mul_of_nonneg_left h1 g)
    · exact .inr (Int.mul_le_mul_of_nonneg_left h1 g)
  · rcases h with ⟨h1, h2⟩ | ⟨h1, h2⟩
    · exact .inr (Int.mul_le_mul_of_nonpos_left g h2)
    · exact .inl (Int.mul_le_mul_of_nonpos_left g h2)
/-- What is positive at both ends of a segment is positive on it. -/
theorem on_pos {x1 x2 y1 y2 p q : Int} (u v k : Int) (h : onB x1 x2 y1 y2 p q = true) (hx : 0 < u * x1 + v * x2 + k) (hy : 0 < u * y1 + v * y2 + k) : 0 < u * p + v * q + k := by
  obtain ⟨h1, h2, h3⟩ := on_iff.1 h
  by_cases e : y1 = x1
  · have hp : p = x1 := by unfold Btw at h1; omega
    subst hp e
    rcases btw_mul v h2 with g | g <;> omega
  · have key : (y1 - x1) * (u * p + v * q + k) = (y1 - p) * (u * x1 + v * x2 + k) + (p - x1) * (u * y1 + v * y2 + k) := by
      have : (y1 - x1) * (v * q) = v * ((y1 - x1) * x2 + (y2 - x2) * (p - x1)) := by
        have e3 : (y1 - x1) * q = (y1 - x1) * x2 + (y2 - x2) * (p - x1) := by have := h3; grind
        rw [← e3]; grind
      grind
    generalize u * x1 + v * x2 + k = fx at *
    generalize u * y1 + v * y2 + k = fy at *
    generalize u * p + v * q + k = fp at *
    unfold Btw at h1
    rcases Int.lt_or_gt_of_ne e with g | g
    · have m1 : (y1 - p) * fx ≤ 0 := Int.mul_nonpos_of_nonpos_of_nonneg (by omega) (by omega)
      have m2 : (p - x1) * fy ≤ 0 := Int.mul_nonpos_of_nonpos_of_nonneg (by omega) (by omega)
      have m3 : (y1 - p) * fx < 0 ∨ (p - x1) * fy < 0 := by
        by_cases z : y1 - p = 0
        · exact .inr (np (by omega) hy)
        · exact .inl (np (by omega) hx)
      rcases Int.lt_or_le 0 fp with z | z
      · exact z
      · have := Int.mul_nonneg_of_nonpos_of_nonpos (show y1 - x1 ≤ 0 by omega) z
        omega
    · have m1 : 0 ≤ (y1 - p) * fx := zz (by omega) (by omega)
      have m2 : 0 ≤ (p - x1) * fy := zz (by omega) (by omega)
      have m3 : 0 < (y1 - p) * fx ∨ 0 < (p - x1) * fy := by
        by_cases z : y1 - p = 0
        · exact .inr (pp (by omega) hy)
        · exact .inl (pp (by omega) hx)
      exact pos_of (y := y1 - x1) (by omega) (by rw [Int.mul_comm]; omega)
theorem det_on {a b c d p q : Int} (h : onB a b c d p q = true) : det a b c d p q = 0 := by
  have := (on_iff.1 h).2.2
  unfold det
  omega
theorem det_lin (a b c d p q : Int) : det a b c d p q = -(d - b) * p + (c - a) * q + ((d - b) * a - (c - a) * b) := by unfold det; grind
theorem on_det_pos {a b c d x1 x2 y1 y2 p q : Int} (h : onB x1 x2 y1 y2 p q = true) (hx : 0 < det a b c d x1 x2) (hy : 0 < det a b c d y1 y2) : 0 < det a b c d p q := by
  rw [det_lin] at *
  exact on_pos _ _ _ h hx hy
theorem on_det_neg {a b c d x1 x2 y1 y2 p q : Int} (h : onB x1 x2 y1 y2 p q = true) (hx : det a b c d x1 x2 < 0) (hy : det a b c d y1 y2 < 0) : det a b c d p q < 0 := by
  have := on_det_pos (a := c) (b := d) (c := a) (d := b) h (by rw [det_rev]; omega) (by rw [det_rev]; omega)
  rw [det_rev] at this
  omega
/-- Segments that meet have a common point, where all is scaled. -/
theorem seg_pt {a b c d p q r s : Int} (h : segB a b c d p q r s = true) : ∃ N X Y : Int, 0 < N ∧ onB (N * a) (N * b) (N * c) (N * d) X Y = true ∧ onB (N * p) (N * q) (N * r) (N * s) X Y = true := by
  have one : ∀ X Y, onB a b c d X Y = true → onB p q r s X Y = true → ∃ N X Y : Int, 0 < N ∧ onB (N * a) (N * b) (N * c) (N * d) X Y = true ∧ onB (N * p) (N * q) (N * r) (N * s) X Y = true := fun X Y h g => ⟨1, X, Y, by omega, by simpa using h, by simpa using g⟩
  by_cases hD : dD a b c d p q r s = 0
  · rw [seg_par hD, Bool.or_eq_true, Bool.or_eq_true, Bool.or_eq_true] at h
    rcases h with (h | h) | (h | h)
    · exact one _ _ h on_first
    · exact one _ _ h on_last
    · exact one _ _ on_first h
    · exact one _ _ on_last h
  · obtain ⟨hS, hT⟩ := (seg_meets hD).1 h
    have main : ∀ D S T : Int, 0 < D → (0 ≤ S ∧ S ≤ D) → (0 ≤ T ∧ T ≤ D) → D * (p - a) = S * (c - a) - T * (r - p) → D * (q - b) = S * (d - b) - T * (s - q) → ∃ N X Y : Int, 0 < N ∧ onB (N * a) (N * b) (N * c) (N * d) X Y = true ∧ onB (N * p) (N * q) (N * r) (N * s) X Y = true := by
      intro D S T h0 ⟨s0, s1⟩ ⟨t0, t1⟩ e1 e2
      have bt : ∀ x y U : Int, 0 ≤ U → U ≤ D → Btw (D * x) (D * y) (D * x + U * (y - x)) := fun x y U u0 u1 => by
        unfold Btw
        rcases Int.le_total x y with g | g
        · have m1 := Int.mul_nonneg u0 (show 0 ≤ y - x by omega)
          have m2 := Int.mul_nonneg (show 0 ≤ D - U by omega) (show 0 ≤ y - x by omega)
          have : (D - U) * (y - x) = D * y - D * x - U * (y - x) := by grind
          left; omega
        · have m1 := Int.mul_nonneg u0 (show 0 ≤ x - y by omega)
          have m2 := Int.mul_nonneg (show 0 ≤ D - U by omega) (show 0 ≤ x - y by omega)
          have : (D - U) * (x - y) = D * x - D * y + U * (y - x) := by grind
          have : U * (x - y) = -(U * (y - x)) := by grind
          right; omega
      have g1 : D * (p - a) = D * p - D * a := by grind
      have g2 : D * (q - b) = D * q - D * b := by grind
      have f1 : D * a + S * (c - a) = D * p + T * (r - p) := by omega
      have f2 : D * b + S * (d - b) = D * q + T * (s - q) := by omega
      refine ⟨D, D * a + S * (c - a), D * b + S * (d - b), h0, on_iff.2 ⟨bt a c S s0 s1, bt b d S s0 s1, by grind⟩, ?_⟩
      rw [f1, f2]
      exact on_iff.2 ⟨bt p r T t0 t1, bt q s T t0 t1, by grind⟩
    have i0 : dD a b c d p q r s * (p - a) = dS a b p q r s * (c - a) - dT a b c d p q * (r - p) := by unfold dD dS dT; grind
    have i1 : dD a b c d p q r s * (q - b) = dS a b p q r s * (d - b) - dT a b c d p q * (s - q) := by unfold dD dS dT; grind
    generalize dD a b c d p q r s = D at *
    generalize dS a b p q r s = S at *
    generalize dT a b c d p q = T at *
    unfold Inn at hS hT
    rcases Int.lt_or_gt_of_ne hD with g | g
    · exact main (-D) (-S) (-T) (by omega) (by omega) (by omega) (by rw [Int.neg_mul, Int.neg_mul, Int.neg_mul]; omega) (by rw [Int.neg_mul, Int.neg_mul, Int.neg_mul]; omega)
    · exact main D S T g (by omega) (by omega) i0 i1
theorem seg_none {a b c d p q r s : Int} (h : ∀ N X Y : Int, 0 < N → onB (N * a) (N * b) (N * c) (N * d) X Y = true → onB (N * p) (N * q) (N * r) (N * s) X Y = true → False) : segB a b c d p q r s = false := by
  cases g : segB a b c d p q r s with
  | false => rfl
  | true => obtain ⟨N, X, Y, h0, h1, h2⟩ := seg_pt g; exact (h N X Y h0 h1 h2).elim
/-- Both ends strictly on one side of the line of the other segment. -/
theorem seg_side {a b c d p q r s : Int} (h : (0 < det a b c d p q ∧ 0 < det a b c d r s) ∨ (det a b c d p q < 0 ∧ det a b c d r s < 0)) : segB a b c d p q r s = false := seg_none fun N X Y h0 h1 h2 => by
  have e := det_on h1
  rcases h with ⟨k1, k2⟩ | ⟨k1, k2⟩
  · have := on_det_pos h2 ((det_sc h0 a b c d p q).2.2 k1) ((det_sc h0 a b c d r s).2.2 k2)
    omega
  · have := on_det_neg h2 ((det_sc h0 a b c d p q).1.2 k1) ((det_sc h0 a b c d r s).1.2 k2)
    omega
/-- A segment between two points of a segment is a part of it. -/
theorem on_trans {a b c d x1 x2 y1 y2 p q : Int} (hx : onB a b c d x1 x2 = true) (hy : onB a b c d y1 y2 = true) (h : onB x1 x2 y1 y2 p q = true) : onB a b c d p q = true := by
  obtain ⟨a1, a2, a3⟩ := on_iff.1 hx
  obtain ⟨b1, b2, b3⟩ := on_iff.1 hy
  obtain ⟨c1, c2, c3⟩ := on_iff.1 h
  refine on_iff.2 ⟨by unfold Btw at *; omega, by unfold Btw at *; omega, ?_⟩
  by_cases e : y1 = x1
  · by_cases f : y2 = x2
    · have : p = x1 := by unfold Btw at c1; omega
      have : q = x2 := by unfold Btw at c2; omega
      subst p q
      exact a3
    · have k : (y2 - x2) * ((c - a) * (q - b) - (d - b) * (p - a)) = (y2 - q) * ((c - a) * (x2 - b) - (d - b) * (x1 - a)) + (q - x2) * ((c - a) * (y2 - b) - (d - b) * (y1 - a)) := by
        have : (d - b) * ((y2 - x2) * p) = (d - b) * ((y2 - x2) * x1 + (y1 - x1) * (q - x2)) := by
          rw [show (y2 - x2) * p = (y2 - x2) * x1 + (y1 - x1) * (q - x2) by have := c3; grind]
        grind
      rw [show (c - a) * (x2 - b) - (d - b) * (x1 - a) = 0 by omega, show (c - a) * (y2 - b) - (d - b) * (y1 - a) = 0 by omega, Int.mul_zero, Int.mul_zero] at k
      have := (Int.mul_eq_zero.1 (show (y2 - x2) * ((c - a) * (q - b) - (d - b) * (p - a)) = 0 by omega))
      omega
  · have k : (y1 - x1) * ((c - a) * (q - b) - (d - b) * (p - a)) = (y1 - p) * ((c - a) * (x2 - b) - (d - b) * (x1 - a)) + (p - x1) * ((c - a) * (y2 - b) - (d - b) * (y1 - a)) := by
      have : (c - a) * ((y1 - x1) * q) = (c - a) * ((y1 - x1) * x2 + (y2 - x2) * (p - x1)) := by
        rw [show (y1 - x1) * q = (y1 - x1) * x2 + (y2 - x2) * (p - x1) by have := c3; grind]
      grind
    rw [show (c - a) * (x2 - b) - (d - b) * (x1 - a) = 0 by omega, show (c - a) * (y2 - b) - (d - b) * (y1 - a) = 0 by omega, Int.mul_zero, Int.mul_zero] at k
    have := (Int.mul_eq_zero.1 (show (y1 - x1) * ((c - a) * (q - b) - (d - b) * (p - a)) = 0 by omega))
    omega
theorem seg_mono {a b c d p q r s x1 x2 y1 y2 : Int} (hx : onB p q r s x1 x2 = true) (hy : onB p q r s y1 y2 = true) (h : segB a b c d p q r s = false) : segB a b c d x1 x2 y1 y2 = false := seg_none fun N X Y h0 h1 h2 => by
  have k := on_trans (by rw [onB_sc h0]; exact hx) (by rw [onB_sc h0]; exact hy) h2
  have := seg_common h1 k
  rw [segB_sc h0] at this
  rw [this] at h
  cases h
/-- The angle at (b1, b2) is not nought. -/
def Gd (a1 a2 b1 b2 c1 c2 : Int) : Prop := det a1 a2 b1 b2 c1 c2 ≠ 0 ∨ (a1 - b1) * (c1 - b1) + (a2 - b2) * (c2 - b2) < 0
theorem Gd.sc {a1 a2 b1 b2 c1 c2 N : Int} (hN : 0 < N) (h : Gd a1 a2 b1 b2 c1 c2) : Gd (N * a1) (N * a2) (N * b1) (N * b2) (N * c1) (N * c2) := by
  rcases h with h | h
  · left
    have := det_sc hN a1 a2 b1 b2 c1 c2
    omega
  · right
    have e : (N * a1 - N * b1) * (N * c1 - N * b1) + (N * a2 - N * b2) * (N * c2 - N * b2) = N * (N * ((a1 - b1) * (c1 - b1) + (a2 - b2) * (c2 - b2))) := by grind
    rw [e]
    exact pn hN (pn hN h)
/-- Neighbouring edges have but one common point. -/
theorem adj_pt {a1 a2 b1 b2 c1 c2 X Y : Int} (hg : Gd a1 a2 b1 b2 c1 c2) (h1 : onB a1 a2 b1 b2 X Y = true) (h2 : onB b1 b2 c1 c2 X Y = true) : X = b1 ∧ Y = b2 := by
  obtain ⟨p1, p2, p3⟩ := on_iff.1 h1
  obtain ⟨q1, q2, q3⟩ := on_iff.1 h2
  have e1 : (a1 - b1) * (Y - b2) = (a2 - b2) * (X - b1) := by grind
  have e2 : (c1 - b1) * (Y - b2) = (c2 - b2) * (X - b1) := by grind
  have k1 : Btw 0 (a1 - b1) (X - b1) := by unfold Btw at *; omega
  have k2 : Btw 0 (a2 - b2) (Y - b2) := by unfold Btw at *; omega
  have k3 : Btw 0 (c1 - b1) (X - b1) := by unfold Btw at *; omega
  have k4 : Btw 0 (c2 - b2) (Y - b2) := by unfold Btw at *; omega
  have hd : det a1 a2 b1 b2 c1 c2 = -((a1 - b1) * (c2 - b2) - (a2 - b2) * (c1 - b1)) := by unfold det; grind
  unfold Gd at hg
  rw [hd] at hg
  have r : X - b1 = 0 ∧ Y - b2 = 0 := by
    generalize X - b1 = Z1 at *
    generalize Y - b2 = Z2 at *
    generalize a1 - b1 = A1 at *
    generalize a2 - b2 = A2 at *
    generalize c1 - b1 = C1 at *
    generalize c2 - b2 = C2 at *
    clear p1 p2 p3 q1 q2 q3 hd h1 h2
    unfold Btw at k1 k2 k3 k4
    false_or_by_contra
    rename_i hz
    have d0 : A1 * C2 - A2 * C1 = 0 := by
      by_cases z : Z1 = 0
      · have z2 : Z2 ≠ 0 := fun g => hz ⟨z, g⟩
        rw [z, Int.mul_zero] at e1 e2
        have := Int.mul_eq_zero.1 e1
        have := Int.mul_eq_zero.1 e2
        have a0 : A1 = 0 := by omega
        have c0 : C1 = 0 := by omega
        rw [a0, c0]; simp
      · have k : Z1 * (A1 * C2 - A2 * C1) = 0 := by
          have m1 : A1 * (C2 * Z1) = A1 * (C1 * Z2) := by rw [e2]
          have m2 : C1 * (A2 * Z1) = C1 * (A1 * Z2) := by rw [e1]
          grind
        have := Int.mul_eq_zero.1 k
        omega
    have s1 : 0 ≤ A1 * C1 := by
      rcases Int.lt_trichotomy Z1 0 with g | g | g
      · exact Int.mul_nonneg_of_nonpos_of_nonpos (by omega) (by omega)
      · have z2 : Z2 ≠ 0 := fun g' => hz ⟨g, g'⟩
        rw [g, Int.mul_zero] at e1
        have := Int.mul_eq_zero.1 e1
        have a0 : A1 = 0 := by omega
        rw [a0, Int.zero_mul]; omega
      · exact Int.mul_nonneg (by omega) (by omega)
    have s2 : 0 ≤ A2 * C2 := by
      rcases Int.lt_trichotomy Z2 0 with g | g | g
      · exact Int.mul_nonneg_of_nonpos_of_nonpos (by omega) (by omega)
      · have z1 : Z1 ≠ 0 := fun g' => hz ⟨g', g⟩
        rw [g, Int.mul_zero] at e1
        have := Int.mul_eq_zero.1 e1.symm
        have a0 : A2 = 0 := by omega
        rw [a0, Int.zero_mul]; omega
      · exact Int.mul_nonneg (by omega) (by omega)
    omega
  omega
/-- A part of an edge that does not reach the corner does not meet the edge behind the corner. -/
theorem seg_adj {a1 a2 b1 b2 c1 c2 x1 x2 y1 y2 : Int} (hg : Gd a1 a2 b1 b2 c1 c2) (hx : onB a1 a2 b1 b2 x1 x2 = true) (hy : onB a1 a2 b1 b2 y1 y2 = true) (nx' : ¬ (x1 = b1 ∧ x2 = b2)) (ny : ¬ (y1 = b1 ∧ y2 = b2)) : segB b1 b2 c1 c2 x1 x2 y1 y2 = false := seg_none fun N X Y h0 h1 h2 => by
  have k := on_trans (by rw [onB_sc h0]; exact hx) (by rw [onB_sc h0]; exact hy) h2
  obtain ⟨rfl, rfl⟩ := adj_pt (Gd.sc h0 hg) k h1
  rw [onB_sc h0] at h2
  obtain ⟨p1, p2, p3⟩ := on_iff.1 hx
  obtain ⟨q1, q2, q3⟩ := on_iff.1 hy
  obtain ⟨r1, r2, r3⟩ := on_iff.1 h2
  clear hx hy h1 h2 k
  by_cases e : b1 = a1
  · have ex : x1 = b1 := by unfold Btw at p1; omega
    have ey : y1 = b1 := by unfold Btw at q1; omega
    unfold Btw at *
    omega
  · have ex : x1 ≠ b1 := fun h => nx' ⟨h, by
      rw [h] at p3
      have : (b1 - a1) * (x2 - b2) = 0 := by grind
      have := Int.mul_eq_zero.1 this
      omega⟩
    have ey : y1 ≠ b1 := fun h => ny ⟨h, by
      rw [h] at q3
      have : (b1 - a1) * (y2 - b2) = 0 := by grind
      have := Int.mul_eq_zero.1 this
      omega⟩
    unfold Btw at *
    omega
theorem ex_bd2 (x y : Int) : ∃ m : Int, 0 < m ∧ (-m < x ∧ x < m) ∧ -m < y ∧ y < m := ⟨x.natAbs + y.natAbs + 1, by omega⟩
theorem sc_gap {N x y m : Int} (hxy : x < y) (hN : m ≤ N) (hm : 0 < m) : N * x + m ≤ N * y := by
  have : N * 1 ≤ N * (y - x) := Int.mul_le_mul_of_nonneg_left (by omega) (by omega)
  have e : N * (y - x) = N * y - N * x := by grind
  omega
/-- Near a point that is not on a segment, where all is scaled enough, nothing meets it. -/
theorem far_seg {a b c d p q : Int} (h : onB a b c d p q = false) (A1 A2 C1 C2 : Int) : ∃ N0 : Int, ∀ N : Int, N0 ≤ N → 0 < N → segB (N * a) (N * b) (N * c) (N * d) (N * p + A1) (N * q + A2) (N * p + C1) (N * q + C2) = false := by
  have dl : ∀ N A1 A2 : Int, det (N * a) (N * b) (N * c) (N * d) (N * p + A1) (N * q + A2) = N * (N * det a b c d p q + ((c - a) * A2 - (d - b) * A1)) := fun N A1 A2 => by unfold det; grind
  obtain ⟨m, m0, m1, m2⟩ := ex_bd2 ((c - a) * A2 - (d - b) * A1) ((c - a) * C2 - (d - b) * C1)
  rcases Int.lt_trichotomy (det a b c d p q) 0 with g | g | g
  · refine ⟨m, fun N hN h0 => seg_side (.inr ⟨?_, ?_⟩)⟩
    · rw [dl]
      have := sc_gap g hN m0
      exact pn h0 (by omega)
    · rw [dl]
      have := sc_gap g hN m0
      exact pn h0 (by omega)
  · have out : (p < a ∧ p < c) ∨ (a < p ∧ c < p) ∨ (q < b ∧ q < d) ∨ (b < q ∧ d < q) := by
      false_or_by_contra
      rename_i k
      rw [on_of g (by omega) (by omega)] at h
      cases h
    obtain ⟨u, u0, ⟨u1, u2⟩, u3, u4⟩ := ex_bd2 A1 C1
    obtain ⟨v, v0, ⟨v1, v2⟩, v3, v4⟩ := ex_bd2 A2 C2
    clear dl m1 m2 h g
    refine ⟨u + v, fun N hN h0 => ?_⟩
    have hu : u ≤ N := by omega
    have hv : v ≤ N := by omega
    cases k : segB (N * a) (N * b) (N * c) (N * d) (N * p + A1) (N * q + A2) (N * p + C1) (N * q + C2) with
    | false => rfl
    | true =>
      obtain ⟨⟨b1, b2⟩, b3, b4⟩ := seg_boxes k
      clear k
      rcases out with ⟨o1, o2⟩ | ⟨o1, o2⟩ | ⟨o1, o2⟩ | ⟨o1, o2⟩
      · have r1 := sc_gap o1 hu u0
        have r2 := sc_gap o2 hu u0
        exact absurd ⟨by omega, by omega, by omega, by omega⟩ b2
      · have r1 := sc_gap o1 hu u0
        have r2 := sc_gap o2 hu u0
        exact absurd ⟨by omega, by omega, by omega, by omega⟩ b1
      · have r1 := sc_gap o1 hv v0
        have r2 := sc_gap o2 hv v0
        exact absurd ⟨by omega, by omega, by omega, by omega⟩ b4
      · have r1 := sc_gap o1 hv v0
        have r2 := sc_gap o2 hv v0
        exact absurd ⟨by omega, by omega, by omega, by omega⟩ b3
  · refine ⟨m, fun N hN h0 => seg_side (.inl ⟨?_, ?_⟩)⟩
    · rw [dl]
      have := sc_gap g hN m0
      exact pp h0 (by omega)
    · rw [dl]
      have := sc_gap g hN m0
      exact pp h0 (by omega)
end Go.Proofs.YtalhkcmlacppjaaGreatDoor


namespace Go.Proofs.YtalhkcmlacppjaaGreatDoor
open Go.ChangeShapes Go.WideShapes Go.ChangeAt Go.RowKit
set_option linter.unusedVariables false
set_option linter.unusedSimpArgs false

/-- A simple polygon: no angle is nought, and edges that are not neighbours do not meet. -/
def Simp (ps : List (Int × Int)) : Prop := 3 ≤ ps.length ∧ (∀ i, i < ps.length → Gd (cx ps i) (cy ps i) (cx ps (nx ps.length i)) (cy ps (nx ps.length i)) (cx ps (nx ps.length (nx ps.length i))) (cy ps (nx ps.length (nx ps.length i)))) ∧ ∀ i j, i < ps.length → j < ps.length → Apart ps.length i j → segE ps i j = false
theorem Simp.sc {ps : List (Int × Int)} (h : Simp ps) {N : Int} (hN : 0 < N) : Simp (scL N ps) := by
  obtain ⟨h1, h2, h3⟩ := h
  refine ⟨by rw [scL_len]; exact h1, fun i hi => ?_, fun i j hi hj hap => ?_⟩
  · rw [scL_len] at hi ⊢
    rw [(scL_at N ps i).1, (scL_at N ps i).2, (scL_at N ps _).1, (scL_at N ps _).2, (scL_at N ps _).1, (scL_at N ps _).2]
    exact (h2 i hi).sc hN
  · rw [scL_len] at hi hj hap
    unfold segE
    rw [scL_len, (scL_at N ps i).1, (scL_at N ps i).2, (scL_at N ps j).1, (scL_at N ps j).2, (scL_at N ps _).1, (scL_at N ps _).2, (scL_at N ps _).1, (scL_at N ps _).2, segB_sc hN]
    exact h3 i j hi hj hap
theorem simp_valid {ps : List (Int × Int)} (h : validP ps = true) : Simp ps := by
  unfold validP at h
  rw [Bool.and_eq_true, Bool.and_eq_true, Bool.and_eq_true] at h
  obtain ⟨h1, h2, h3, h4⟩ := h
  refine ⟨((validC_iff ps).1 h1).1, fun i hi => ?_, (simple_iff ps).1 h3⟩
  left
  intro e
  have := List.all_eq_true.1 h2 i (List.mem_range.2 hi)
  have k : (oriE ps i == 0) = true := by
    unfold oriE
    rw [ori_zero, e]
    rfl
  rw [beq_iff_eq] at k
  rw [k] at this
  simp at this
theorem Gd.symm {a1 a2 b1 b2 c1 c2 : Int} (h : Gd a1 a2 b1 b2 c1 c2) : Gd c1 c2 b1 b2 a1 a2 := by
  rcases h with h | h
  · left
    have : det c1 c2 b1 b2 a1 a2 = -det a1 a2 b1 b2 c1 c2 := by unfold det; grind
    omega
  · right
    have : (c1 - b1) * (a1 - b1) + (c2 - b2) * (a2 - b2) = (a1 - b1) * (c1 - b1) + (a2 - b2) * (c2 - b2) := by grind
    omega
theorem Gd.ne1 {a1 a2 b1 b2 c1 c2 : Int} (h : Gd a1 a2 b1 b2 c1 c2) : ¬ (a1 = b1 ∧ a2 = b2) := by
  rintro ⟨rfl, rfl⟩
  rcases h with h | h
  · exact h (by unfold det; grind)
  · simp at h
theorem nx_ne {n i : Nat} (hn : 2 ≤ n) (hi : i < n) : nx n i ≠ i := by
  unfold nx
  by_cases h : i + 1 < n
  · rw [Nat.mod_eq_of_lt h]; omega
  · rw [show i + 1 = n by omega, Nat.mod_self]; omega
theorem nx_inj {n i j : Nat} (hi : i < n) (hj : j < n) (h : nx n i = nx n j) : i = j := by
  unfold nx at h
  by_cases h1 : i + 1 < n <;> by_cases h2 : j + 1 < n
  · rw [Nat.mod_eq_of_lt h1, Nat.mod_eq_of_lt h2] at h; omega
  · rw [Nat.mod_eq_of_lt h1, show j + 1 = n by omega, Nat.mod_self] at h; omega
  · rw [show i + 1 = n by omega, Nat.mod_self, Nat.mod_eq_of_lt h2] at h; omega
  · omega
/-- Inside the edge e. -/
def InE (ps : List (Int × Int)) (e : Nat) (p q : Int) : Prop := onE ps p q e = true ∧ ¬ (p = cx ps e ∧ q = cy ps e) ∧ ¬ (p = cx ps (nx ps.length e) ∧ q = cy ps (nx ps.length e))
theorem wE_on {a b c d p q : Int} (h : onB a b c d p q = true) : wE a b c d p q = 0 := by
  have e := det_on h
  have e' : det c d a b p q = 0 := by rw [det_rev]; omega
  unfold wE upB
  rw [ori_pos, ori_pos, e, e']
  split <;> simp [bi]
theorem wEi_on {ps : List (Int × Int)} {p q : Int} {e : Nat} (h : onE ps p q e = true) : wEi ps p q e = 0 := wE_on h
theorem det_line {a b c d x1 x2 y1 y2 : Int} (hne : ¬ (a = c ∧ b = d)) (hx : onB a b c d x1 x2 = true) (hy : onB a b c d y1 y2 = true) : det x1 x2 y1 y2 a b = 0 ∧ det x1 x2 y1 y2 c d = 0 := by
  have e1 := (on_iff.1 hx).2.2
  have e2 := (on_iff.1 hy).2.2
  by_cases k : c - a = 0
  · have k' : d - b ≠ 0 := by omega
    have r1 : (d - b) * det x1 x2 y1 y2 a b = 0 := by
      unfold det
      have m1 : (b - x2) * ((d - b) * (y1 - a)) = (b - x2) * ((c - a) * (y2 - b)) := by rw [e2]
      have m2 : (y2 - b) * ((d - b) * (x1 - a)) = (y2 - b) * ((c - a) * (x2 - b)) := by rw [e1]
      grind
    have r2 : (d - b) * det x1 x2 y1 y2 c d = 0 := by
      unfold det
      have m1 : (d - x2) * ((d - b) * (y1 - a)) = (d - x2) * ((c - a) * (y2 - b)) := by rw [e2]
      have m2 : (y2 - d) * ((d - b) * (x1 - a)) = (y2 - d) * ((c - a) * (x2 - b)) := by rw [e1]
      grind
    have := Int.mul_eq_zero.1 r1
    have := Int.mul_eq_zero.1 r2
    omega
  · have r1 : (c - a) * det x1 x2 y1 y2 a b = 0 := by
      unfold det
      have m1 : (y1 - a) * ((c - a) * (x2 - b)) = (y1 - a) * ((d - b) * (x1 - a)) := by rw [e1]
      have m2 : (x1 - a) * ((c - a) * (y2 - b)) = (x1 - a) * ((d - b) * (y1 - a)) := by rw [e2]
      grind
    have r2 : (c - a) * det x1 x2 y1 y2 c d = 0 := by
      unfold det
      have m1 : (y1 - c) * ((c - a) * (x2 - b)) = (y1 - c) * ((d - b) * (x1 - a)) := by rw [e1]
      have m2 : (x1 - c) * ((c - a) * (y2 - b)) = (x1 - c) * ((d - b) * (y1 - a)) := by rw [e2]
      grind
    have := Int.mul_eq_zero.1 r1
    have := Int.mul_eq_zero.1 r2
    omega
theorem inQ_zero {x1 x2 y1 y2 p q : Int} (h : det x1 x2 y1 y2 p q = 0) : inQ x1 x2 y1 y2 p q = false := by
  unfold inQ
  rw [h]
  simp
/-- A segment inside an edge meets no other edge. -/
theorem edge_free {ps : List (Int × Int)} (hs : Simp ps) {e : Nat} (he : e < ps.length) {y1 y2 z1 z2 : Int} (hy : InE ps e y1 y2) (hz : InE ps e z1 z2) {g : Nat} (hg : g < ps.length) (hne : g ≠ e) :
    segB (cx ps g) (cy ps g) (cx ps (nx ps.length g)) (cy ps (nx ps.length g)) y1 y2 z1 z2 = false := by
  obtain ⟨h1, h2, h3⟩ := hs
  obtain ⟨a1, a2, a3⟩ := hy
  obtain ⟨b1, b2, b3⟩ := hz
  by_cases k1 : nx ps.length e = g
  · subst k1
    exact seg_adj (h2 e he) a1 b1 a3 b3
  · by_cases k2 : nx ps.length g = e
    · have hgd := (h2 g hg).symm
      rw [k2] at hgd ⊢
      rw [← segB_rev1]
      exact seg_adj hgd (by rw [onB_rev]; exact a1) (by rw [onB_rev]; exact b1) a2 b2
    · exact seg_mono a1 b1 (h3 g e hg he ⟨hne, k2, k1⟩)
theorem edge_nd {ps : List (Int × Int)} (hs : Simp ps) {e : Nat} (he : e < ps.length) : ¬ (cx ps e = cx ps (nx ps.length e) ∧ cy ps e = cy ps (nx ps.length e)) := (hs.2.1 e he).ne1
/-- Claim A: inside an edge the winding number is the same everywhere. -/
theorem along {ps : List (Int × Int)} (hs : Simp ps) {e : Nat} (he : e < ps.length) {y1 y2 z1 z2 : Int} (hy : InE ps e y1 y2) (hz : InE ps e z1 z2) : wnd ps y1 y2 = wnd ps z1 z2 := by
  have nd := edge_nd hs he
  have up : ∀ {y1 y2 z1 z2 : Int}, InE ps e y1 y2 → InE ps e z1 z2 → y2 < z2 → wnd ps y1 y2 = wnd ps z1 z2 := fun {y1 y2 z1 z2} hy hz h => by
    have k := wnd_one ps e he h (fun i hi hne => edge_free hs he hy hz hi hne)
    have d := det_line nd hy.1 hz.1
    rw [wEi_on hy.1, wEi_on hz.1, inQ_zero d.1, inQ_zero d.2] at k
    omega
  rcases Int.lt_trichotomy y2 z2 with h | h | h
  · exact up hy hz h
  · subst h
    have k := wnd_flat1 ps e he (fun i hi hne => edge_free hs he hy hz hi hne)
    rw [wEi_on hy.1, wEi_on hz.1] at k
    omega
  · exact (up hz hy h).symm

theorem onE_sc {N : Int} (hN : 0 < N) (ps : List (Int × Int)) (p q : Int) (e : Nat) : onE (scL N ps) (N * p) (N * q) e = onE ps p q e := by
  unfold onE
  rw [scL_len, (scL_at N ps e).1, (scL_at N ps e).2, (scL_at N ps _).1, (scL_at N ps _).2, onB_sc hN]
theorem mul_ne2 {N x y p q : Int} (hN : 0 < N) (h : ¬ (p = x ∧ q = y)) : ¬ (N * p = N * x ∧ N * q = N * y) := fun ⟨e, f⟩ => h ⟨Int.eq_of_mul_eq_mul_left (by omega) e, Int.eq_of_mul_eq_mul_left (by omega) f⟩
theorem InE.sc {N : Int} (hN : 0 < N) {ps : List (Int × Int)} {e : Nat} {p q : Int} (h : InE ps e p q) : InE (scL N ps) e (N * p) (N * q) := by
  obtain ⟨a, b, c⟩ := h
  refine ⟨by rw [onE_sc hN]; exact a, ?_, ?_⟩
  · rw [(scL_at N ps e).1, (scL_at N ps e).2]; exact mul_ne2 hN b
  · rw [scL_len, (scL_at N ps _).1, (scL_at N ps _).2]; exact mul_ne2 hN c
/-- The value of an edge: the winding number at its middle. -/
def vE (ps : List (Int × Int)) (e : Nat) : Int := wnd (scL 2 ps) (cx ps e + cx ps (nx ps.length e)) (cy ps e + cy ps (nx ps.length e))
theorem mid_in {ps : List (Int × Int)} (hs : Simp ps) {e : Nat} (he : e < ps.length) : InE (scL 2 ps) e (cx ps e + cx ps (nx ps.length e)) (cy ps e + cy ps (nx ps.length e)) := by
  have nd := edge_nd hs he
  refine ⟨?_, ?_, ?_⟩
  · unfold onE
    rw [scL_len, (scL_at 2 ps e).1, (scL_at 2 ps e).2, (scL_at 2 ps _).1, (scL_at 2 ps _).2]
    exact on_mid (by omega) (by omega)
  · rw [(scL_at 2 ps e).1, (scL_at 2 ps e).2]; omega
  · rw [scL_len, (scL_at 2 ps _).1, (scL_at 2 ps _).2]; omega
/-- At every scale, inside edge e, the winding number is the edge's value. -/
theorem at_edge {ps : List (Int × Int)} (hs : Simp ps) {e : Nat} (he : e < ps.length) {N : Int} (hN : 0 < N) {p q : Int} (h : InE (scL N ps) e p q) : wnd (scL N ps) p q = vE ps e := by
  have k := along ((hs.sc hN).sc (N := 2) (by omega)) (e := e) (by rw [scL_len, scL_len]; exact he) (h.sc (N := 2) (by omega)) (z1 := N * (cx ps e + cx ps (nx ps.length e))) (z2 := N * (cy ps e + cy ps (nx ps.length e))) (by
    have := (mid_in hs he).sc hN
    rw [scL_scL] at this ⊢
    rwa [Int.mul_comm 2 N])
  rw [wnd_sc (by omega)] at k
  rw [k, scL_scL, Int.mul_comm 2 N, ← scL_scL, wnd_sc hN]
  rfl
theorem ex_all {P : Nat → Prop} {R : Nat → Int → Prop} : ∀ n : Nat, (∀ i, i < n → P i → ∃ N0 : Int, ∀ N, N0 ≤ N → 0 < N → R i N) → ∃ N0 : Int, ∀ N, N0 ≤ N → 0 < N → ∀ i, i < n → P i → R i N
  | 0, _ => ⟨0, fun _ _ _ i h => by omega⟩
  | n + 1, h => by
    obtain ⟨M, hM⟩ := ex_all n (fun i hi => h i (by omega))
    by_cases hp : P n
    · obtain ⟨L, hL⟩ := h n (by omega) hp
      refine ⟨mxI M L, fun N hN h0 i hi hpi => ?_⟩
      have b := (mxI_bd M L).1
      by_cases e : i = n
      · subst e; exact hL N (by omega) h0
      · exact hM N (by omega) h0 i (by omega) hpi
    · exact ⟨M, fun N hN h0 i hi hpi => by
        by_cases e : i = n
        · subst e; exact absurd hpi hp
        · exact hM N hN h0 i (by omega) hpi⟩
/-- A corner lies on no edge but its own two. -/
theorem corner_off {ps : List (Int × Int)} (hs : Simp ps) {e : Nat} (he : e < ps.length) {g : Nat} (hg : g < ps.length) (h1 : g ≠ e) (h2 : g ≠ nx ps.length e) : onE ps (cx ps (nx ps.length e)) (cy ps (nx ps.length e)) g = false := by
  cases k : onE ps (cx ps (nx ps.length e)) (cy ps (nx ps.length e)) g with
  | false => rfl
  | true =>
    exfalso
    by_cases k2 : nx ps.length g = e
    · have gd := hs.2.1 g hg
      have k' := k
      unfold onE at k'
      rw [k2] at gd k'
      obtain ⟨e1, e2⟩ := adj_pt gd k' on_last
      exact edge_nd hs he ⟨e1.symm, e2.symm⟩
    · have := hs.2.2 g e hg he ⟨h1, k2, fun q => h2 q.symm⟩
      unfold segE at this
      rw [seg_common k on_last] at this
      cases this
/-- Does the edge go down, or to the right? -/
def dnE (a b c d : Int) : Int := if d < b ∨ (b = d ∧ a < c) then 1 else 0
def dnEi (ps : List (Int × Int)) (i : Nat) : Int := dnE (cx ps i) (cy ps i) (cx ps (nx ps.length i)) (cy ps (nx ps.length i))
end Go.Proofs.YtalhkcmlacppjaaGreatDoor


namespace Go.Proofs.YtalhkcmlacppjaaGreatDoor
open Go.ChangeShapes Go.WideShapes Go.ChangeAt Go.RowKit
set_option linter.unusedVariables false
set_option linter.unusedSimpArgs false

theorem dec_sc {N x : Int} (hN : 0 < N) : decide (0 < N * x) = decide (0 < x) := by
  rw [decide_eq_decide]
  have := lt_sc hN 0 x
  rwa [Int.mul_zero] at this
theorem sc_le {N x : Int} (hN : 0 < N) (h : x < 0) : N * x ≤ -N := by
  have : N * x ≤ N * (-1) := Int.mul_le_mul_of_nonneg_left (by omega) (by omega)
  omega
theorem sc_ge {N x : Int} (hN : 0 < N) (h : 0 < x) : N ≤ N * x := by
  have : N * 1 ≤ N * x := Int.mul_le_mul_of_nonneg_left (by omega) (by omega)
  omega
section
variable {N A1 A2 C1 C2 : Int} (hN : 2 ≤ N)
include hN
theorem valU (hA : -N < A2 ∧ A2 < N) : wE 0 0 (N * C1) (N * C2) A1 A2 = if C2 < 0 then -bi (decide (A2 < 0) && decide (0 < A1 * C2 - A2 * C1)) else if 0 < C2 then bi (decide (0 ≤ A2) && decide (0 < A2 * C1 - A1 * C2)) else 0 := by
  have d1 : det (N * C1) (N * C2) 0 0 A1 A2 = N * (A1 * C2 - A2 * C1) := by unfold det; grind
  have d2 : det 0 0 (N * C1) (N * C2) A1 A2 = N * (A2 * C1 - A1 * C2) := by unfold det; grind
  unfold wE upB
  rw [ori_pos, ori_pos, d1, d2, dec_sc (by omega), dec_sc (by omega)]
  rcases Int.lt_trichotomy C2 0 with g | g | g
  · have := sc_le (N := N) (by omega) g
    rw [if_pos (by omega), if_pos g, decide_eq_true (show N * C2 ≤ A2 by omega), Bool.true_and]
  · subst g
    rw [Int.mul_zero, if_neg (by omega), if_neg (by omega), if_neg (by omega)]
    by_cases h : 0 ≤ A2
    · rw [decide_eq_false (show ¬ A2 < 0 by omega)]; simp [bi]
    · rw [decide_eq_false h]; simp [bi]
  · have := sc_ge (N := N) (by omega) g
    rw [if_neg (by omega), if_neg (by omega), if_pos g, decide_eq_true (show A2 < N * C2 by omega), Bool.and_true]
theorem valT (hC : -N < C2 ∧ C2 < N) : wE (N * A1) (N * A2) 0 0 C1 C2 = if 0 < A2 then -bi (decide (0 ≤ C2) && decide (0 < A1 * C2 - A2 * C1)) else if A2 < 0 then bi (decide (C2 < 0) && decide (0 < A2 * C1 - A1 * C2)) else 0 := by
  have d1 : det (N * A1) (N * A2) 0 0 C1 C2 = N * (A2 * C1 - A1 * C2) := by unfold det; grind
  have d2 : det 0 0 (N * A1) (N * A2) C1 C2 = N * (A1 * C2 - A2 * C1) := by unfold det; grind
  unfold wE upB
  rw [ori_pos, ori_pos, d1, d2, dec_sc (by omega), dec_sc (by omega)]
  rcases Int.lt_trichotomy A2 0 with g | g | g
  · have := sc_le (N := N) (by omega) g
    rw [if_neg (by omega), if_neg (by omega), if_pos g, decide_eq_true (show N * A2 ≤ C2 by omega), Bool.true_and]
  · subst g
    rw [Int.mul_zero, if_neg (by omega), if_neg (by omega), if_neg (by omega)]
    by_cases h : 0 ≤ C2
    · rw [decide_eq_false (show ¬ C2 < 0 by omega)]; simp [bi]
    · rw [decide_eq_false h]; simp [bi]
  · have := sc_ge (N := N) (by omega) g
    rw [if_pos (by omega), if_pos g, decide_eq_true (show C2 < N * A2 by omega), Bool.and_true]
/-- Q of the far ends: of a's. -/
theorem valQ1 (h : A2 < C2) (hC : -N < C2 ∧ C2 < N) : inQ A1 A2 C1 C2 (N * A1) (N * A2) = false := by
  unfold inQ
  rcases Int.lt_trichotomy A2 0 with g | g | g
  · have : (N - 1) * A2 ≤ -(N - 1) := sc_le (by omega) g
    have e : (N - 1) * A2 = N * A2 - A2 := by grind
    rw [decide_eq_false (by omega)]; rfl
  · subst g
    rw [Int.mul_zero, decide_eq_false (show ¬ (0 : Int) < 0 by omega)]; rfl
  · have := sc_ge (N := N) (by omega) g
    rw [decide_eq_false (show ¬ N * A2 ≤ C2 by omega)]; simp
theorem valQ2 (h : A2 < C2) (hA : -N < A2 ∧ A2 < N) : inQ A1 A2 C1 C2 (N * C1) (N * C2) = decide (C2 = 0 ∧ 0 < C1) := by
  unfold inQ
  rcases Int.lt_trichotomy C2 0 with g | g | g
  · have := sc_le (N := N) (by omega) g
    rw [decide_eq_false (show ¬ A2 < N * C2 by omega), decide_eq_false (show ¬ (C2 = 0 ∧ 0 < C1) by omega)]; rfl
  · subst g
    have e : det A1 A2 C1 0 (N * C1) (N * 0) = (N - 1) * (A2 * C1) := by unfold det; grind
    rw [e, Int.mul_zero, decide_eq_true h, decide_eq_true (show (0 : Int) ≤ 0 by omega), Bool.true_and, Bool.true_and, decide_eq_decide]
    constructor
    · intro k
      refine ⟨rfl, ?_⟩
      have : 0 < (N - 1) * (-(A2 * C1)) := by rw [Int.mul_neg]; omega
      have := pos_of (x := -(A2 * C1)) (y := N - 1) (by omega) (by rw [Int.mul_comm]; exact this)
      exact pos_of (y := -A2) (by omega) (by rw [Int.mul_neg, Int.mul_comm]; exact this)
    · rintro ⟨_, k⟩
      exact pn (by omega) (np h k)
  · have : N ≤ N * C2 := sc_ge (by omega) g
    have k : (N - 1) * 1 ≤ (N - 1) * C2 := Int.mul_le_mul_of_nonneg_left (by omega) (by omega)
    have e : (N - 1) * C2 = N * C2 - C2 := by grind
    rw [decide_eq_false (show ¬ N * C2 ≤ C2 by omega), decide_eq_false (show ¬ (C2 = 0 ∧ 0 < C1) by omega)]; simp
end
theorem gd_side {A1 A2 C1 C2 : Int} (h : 0 < A2 * C2) (g : A1 * C2 - A2 * C1 ≠ 0 ∨ A1 * C1 + A2 * C2 < 0) : A1 * C2 - A2 * C1 ≠ 0 := by
  rcases g with g | g
  · exact g
  · intro e
    have hc : C2 ≠ 0 := fun k => by rw [k, Int.mul_zero] at h; omega
    have k : (A1 * C1 + A2 * C2) * (C2 * C2) = (A2 * C2) * (C1 * C1 + C2 * C2) := by
      have : (A1 * C2) * (C1 * C2) = (A2 * C1) * (C1 * C2) := by rw [show A1 * C2 = A2 * C1 by omega]
      grind
    have q := sq_pos hc
    have q' := sq_nn C1
    have l := np g q
    have r := pp h (show 0 < C1 * C1 + C2 * C2 by omega)
    omega
theorem mul_dec {x y : Int} (hy : 0 < y) : decide (0 < x * y) = decide (0 < x) := by
  rw [decide_eq_decide]
  exact ⟨pos_of hy, fun h => pp h hy⟩
/-- Round a corner: what the two edges say. -/
theorem corner_UT {A1 A2 C1 C2 : Int} (hg : A1 * C2 - A2 * C1 ≠ 0 ∨ A1 * C1 + A2 * C2 < 0) :
    (if C2 < 0 then -bi (decide (A2 < 0) && decide (0 < A1 * C2 - A2 * C1)) else if 0 < C2 then bi (decide (0 ≤ A2) && decide (0 < A2 * C1 - A1 * C2)) else 0)
    - (if 0 < A2 then -bi (decide (0 ≤ C2) && decide (0 < A1 * C2 - A2 * C1)) else if A2 < 0 then bi (decide (C2 < 0) && decide (0 < A2 * C1 - A1 * C2)) else 0)
    - (if A2 < C2 then bi (decide (C2 = 0 ∧ 0 < C1)) else 0) - (if C2 < A2 then bi (decide (A2 = 0 ∧ 0 < A1)) else 0) = dnE A1 A2 0 0 - dnE 0 0 C1 C2 := by
  have bt : bi true = 1 := rfl
  have bf : bi false = 0 := rfl
  have two : ∀ x : Int, x ≠ 0 → bi (decide (0 < x)) + bi (decide (0 < -x)) = 1 := fun x hx => by
    rcases Int.lt_or_gt_of_ne hx with k | k
    · rw [decide_eq_false (by omega), decide_eq_true (by omega)]; rfl
    · rw [decide_eq_true (by omega), decide_eq_false (by omega)]; rfl
  have eneg : A2 * C1 - A1 * C2 = -(A1 * C2 - A2 * C1) := by omega
  unfold dnE
  rcases Int.lt_trichotomy A2 0 with a | a | a <;> rcases Int.lt_trichotomy C2 0 with c | c | c
  · have hd := two _ (gd_side (nn a c) hg)
    rw [eneg]
    rw [if_pos c, if_neg (by omega), if_pos a, decide_eq_true a, decide_eq_true c, Bool.true_and, Bool.true_and, decide_eq_false (show ¬ (C2 = 0 ∧ 0 < C1) by omega), decide_eq_false (show ¬ (A2 = 0 ∧ 0 < A1) by omega), bf, if_neg (show ¬ (0 < A2 ∨ A2 = 0 ∧ A1 < 0) by omega), if_pos (show C2 < 0 ∨ 0 = C2 ∧ 0 < C1 by omega)]
    split <;> split <;> omega
  · subst c
    rw [if_neg (by omega), if_neg (by omega), if_neg (by omega), if_pos a, decide_eq_false (show ¬ (0 : Int) < 0 by omega), Bool.false_and, bf, if_pos a, if_neg (show ¬ 0 < A2 by omega), if_neg (show ¬ (0 < A2 ∨ A2 = 0 ∧ A1 < 0) by omega)]
    by_cases k : 0 < C1
    · rw [decide_eq_true ⟨rfl, k⟩, bt, if_pos (by omega)]; omega
    · rw [decide_eq_false (by omega), bf, if_neg (by omega)]; omega
  · rw [if_neg (by omega), if_pos c, if_neg (by omega), if_pos a, decide_eq_false (show ¬ 0 ≤ A2 by omega), decide_eq_false (show ¬ C2 < 0 by omega), Bool.false_and, bf]
    rw [decide_eq_false (show ¬ (C2 = 0 ∧ 0 < C1) by omega), bf, if_neg (show ¬ C2 < A2 by omega), if_neg (show ¬ (0 < A2 ∨ A2 = 0 ∧ A1 < 0) by omega), if_neg (show ¬ (C2 < 0 ∨ 0 = C2 ∧ 0 < C1) by omega)]
    simp
  · subst a
    rw [if_pos c, decide_eq_false (show ¬ (0 : Int) < 0 by omega), Bool.false_and, bf, if_neg (show ¬ (0 : Int) < 0 by omega), if_neg (show ¬ (0 : Int) < 0 by omega), if_neg (show ¬ 0 < C2 by omega), if_pos c, if_pos (show C2 < 0 ∨ 0 = C2 ∧ 0 < C1 by omega)]
    have ha : A1 ≠ 0 := fun e => by rw [e] at hg; simp at hg
    by_cases k : 0 < A1
    · rw [decide_eq_true ⟨rfl, k⟩, bt, if_neg (by omega)]; omega
    · rw [decide_eq_false (by omega), bf, if_pos (by omega)]; omega
  · subst a c
    have hg' : A1 * C1 < 0 := by
      rcases hg with hg | hg
      · exact absurd (by simp) hg
      · simpa using hg
    by_cases k : 0 < A1
    · have : C1 < 0 := by
        rcases Int.lt_or_le C1 0 with q | q
        · exact q
        · have := zz (show 0 ≤ A1 by omega) q; omega
      rw [if_neg (show ¬ ((0 : Int) < 0 ∨ (0 : Int) = 0 ∧ A1 < 0) by omega), if_neg (show ¬ ((0 : Int) < 0 ∨ (0 : Int) = 0 ∧ 0 < C1) by omega)]
      simp
    · have k1 : A1 < 0 := by
        rcases Int.lt_or_eq_of_le (show A1 ≤ 0 by omega) with q | q
        · exact q
        · rw [q, Int.zero_mul] at hg'; omega
      have : 0 < C1 := by
        rcases Int.lt_or_le 0 C1 with q | q
        · exact q
        · have := Int.mul_nonneg_of_nonpos_of_nonpos (show A1 ≤ 0 by omega) q; omega
      rw [if_pos (show (0 : Int) < 0 ∨ (0 : Int) = 0 ∧ A1 < 0 by omega), if_pos (show (0 : Int) < 0 ∨ (0 : Int) = 0 ∧ 0 < C1 by omega)]
      simp
  · subst a
    have e : (0 : Int) * C1 - A1 * C2 = -A1 * C2 := by grind
    rw [e, mul_dec c]
    rw [if_neg (by omega), if_pos c, decide_eq_true (show (0 : Int) ≤ 0 by omega), Bool.true_and, if_neg (show ¬ (0 : Int) < 0 by omega), if_neg (show ¬ (0 : Int) < 0 by omega), if_pos c, decide_eq_false (show ¬ (C2 = 0 ∧ 0 < C1) by omega), bf, if_neg (show ¬ C2 < 0 by omega), if_neg (show ¬ (C2 < 0 ∨ 0 = C2 ∧ 0 < C1) by omega)]
    by_cases k : A1 < 0
    · rw [decide_eq_true (by omega), bt, if_pos (by omega)]; omega
    · rw [decide_eq_false (by omega), bf, if_neg (by omega)]; omega
  · rw [if_pos c, decide_eq_false (show ¬ A2 < 0 by omega), Bool.false_and, bf, if_pos a, decide_eq_false (show ¬ 0 ≤ C2 by omega), Bool.false_and, bf, if_neg (show ¬ A2 < C2 by omega), if_pos (show C2 < A2 by omega), decide_eq_false (show ¬ (A2 = 0 ∧ 0 < A1) by omega), bf, if_pos (show 0 < A2 ∨ A2 = 0 ∧ A1 < 0 by omega), if_pos (show C2 < 0 ∨ 0 = C2 ∧ 0 < C1 by omega)]
    omega
  · subst c
    have hc : C1 ≠ 0 := fun e => by rw [e] at hg; simp at hg
    have e : A1 * 0 - A2 * C1 = -C1 * A2 := by grind
    rw [e, mul_dec a]
    rw [if_neg (by omega), if_neg (by omega), if_pos a, decide_eq_true (show (0 : Int) ≤ 0 by omega), Bool.true_and, if_neg (show ¬ A2 < 0 by omega), if_pos a, decide_eq_false (show ¬ (A2 = 0 ∧ 0 < A1) by omega), bf, if_pos (show 0 < A2 ∨ A2 = 0 ∧ A1 < 0 by omega)]
    by_cases k : 0 < C1
    · rw [decide_eq_false (by omega), bf, if_pos (by omega)]; omega
    · rw [decide_eq_true (by omega), bt, if_neg (by omega)]; omega
  · have hd := two _ (gd_side (pp a c) hg)
    rw [eneg]
    rw [if_neg (by omega), if_pos c, if_pos a, decide_eq_true (show 0 ≤ A2 by omega), decide_eq_true (show 0 ≤ C2 by omega), Bool.true_and, Bool.true_and, decide_eq_false (show ¬ (C2 = 0 ∧ 0 < C1) by omega), decide_eq_false (show ¬ (A2 = 0 ∧ 0 < A1) by omega), bf, if_pos (show 0 < A2 ∨ A2 = 0 ∧ A1 < 0 by omega), if_neg (show ¬ (C2 < 0 ∨ 0 = C2 ∧ 0 < C1) by omega)]
    split <;> split <;> omega
end Go.Proofs.YtalhkcmlacppjaaGreatDoor


namespace Go.Proofs.YtalhkcmlacppjaaGreatDoor
open Go.ChangeShapes Go.WideShapes Go.ChangeAt Go.RowKit
set_option linter.unusedVariables false
set_option linter.unusedSimpArgs false

theorem wE_mov (a b c d p q u v : Int) : wE (a + u) (b + v) (c + u) (d + v) (p + u) (q + v) = wE a b c d p q := by
  unfold wE
  rw [upB_mov, upB_mov]
  by_cases h : d < b
  · rw [if_pos h, if_pos (by omega)]
  · rw [if_neg h, if_neg (by omega)]
theorem inQ_mov (x1 x2 y1 y2 p q u v : Int) : inQ (x1 + u) (x2 + v) (y1 + u) (y2 + v) (p + u) (q + v) = inQ x1 x2 y1 y2 p q := by
  have e : det (x1 + u) (x2 + v) (y1 + u) (y2 + v) (p + u) (q + v) = det x1 x2 y1 y2 p q := by unfold det; grind
  unfold inQ
  rw [e, lt_mov, le_mov]
theorem btw_near {N A : Int} (hN : 2 ≤ N) (B : Int) : Btw (N * A + B) B (A + B) := by
  unfold Btw
  rcases Int.le_total 0 A with g | g
  · have : 1 * A ≤ N * A := Int.mul_le_mul_of_nonneg_right (by omega) g
    right; omega
  · have : N * A ≤ 1 * A := Int.mul_le_mul_of_nonpos_right (by omega) g
    left; omega
theorem on_near {N A1 A2 B1 B2 : Int} (hN : 2 ≤ N) : onB (N * A1 + B1) (N * A2 + B2) B1 B2 (A1 + B1) (A2 + B2) = true :=
  on_iff.2 ⟨btw_near hN B1, btw_near hN B2, by grind⟩
theorem near_ne {N A1 A2 B1 B2 : Int} (hN : 2 ≤ N) (h : ¬ (A1 = 0 ∧ A2 = 0)) : ¬ (A1 + B1 = N * A1 + B1 ∧ A2 + B2 = N * A2 + B2) := by
  rintro ⟨e1, e2⟩
  have k1 : (N - 1) * A1 = 0 := by have : (N - 1) * A1 = N * A1 - A1 := by grind
                                   omega
  have k2 : (N - 1) * A2 = 0 := by have : (N - 1) * A2 = N * A2 - A2 := by grind
                                   omega
  have := Int.mul_eq_zero.1 k1
  have := Int.mul_eq_zero.1 k2
  omega
theorem gd_rel {a1 a2 b1 b2 c1 c2 : Int} (h : Gd a1 a2 b1 b2 c1 c2) : (a1 - b1) * (c2 - b2) - (a2 - b2) * (c1 - b1) ≠ 0 ∨ (a1 - b1) * (c1 - b1) + (a2 - b2) * (c2 - b2) < 0 := by
  rcases h with h | h
  · left
    have : det a1 a2 b1 b2 c1 c2 = -((a1 - b1) * (c2 - b2) - (a2 - b2) * (c1 - b1)) := by unfold det; grind
    omega
  · exact .inr h
theorem dn_rel (a b c d : Int) : dnE a b c d = dnE (a - c) (b - d) 0 0 := by
  unfold dnE
  by_cases h : d < b ∨ b = d ∧ a < c
  · rw [if_pos h, if_pos (by omega)]
  · rw [if_neg h, if_neg (by omega)]
theorem dn_rel' (a b c d : Int) : dnE a b c d = dnE 0 0 (c - a) (d - b) := by
  unfold dnE
  by_cases h : d < b ∨ b = d ∧ a < c
  · rw [if_pos h, if_pos (by omega)]
  · rw [if_neg h, if_neg (by omega)]
/-- The corner behind edge e, near by: a point on e, a point on the next edge. -/
theorem near_in {ps : List (Int × Int)} (hs : Simp ps) {e : Nat} (he : e < ps.length) {N : Int} (hN : 2 ≤ N) :
    InE (scL N ps) e ((cx ps e - cx ps (nx ps.length e)) + N * cx ps (nx ps.length e)) ((cy ps e - cy ps (nx ps.length e)) + N * cy ps (nx ps.length e)) := by
  have nd := edge_nd hs he
  have k1 : N * cx ps e = N * (cx ps e - cx ps (nx ps.length e)) + N * cx ps (nx ps.length e) := by grind
  have k2 : N * cy ps e = N * (cy ps e - cy ps (nx ps.length e)) + N * cy ps (nx ps.length e) := by grind
  refine ⟨?_, ?_, ?_⟩
  · unfold onE
    rw [scL_len, (scL_at N ps e).1, (scL_at N ps e).2, (scL_at N ps _).1, (scL_at N ps _).2, k1, k2]
    exact on_near hN
  · rw [(scL_at N ps e).1, (scL_at N ps e).2, k1, k2]
    exact near_ne hN (by omega)
  · rw [scL_len, (scL_at N ps _).1, (scL_at N ps _).2]
    omega
theorem near_in' {ps : List (Int × Int)} (hs : Simp ps) {f : Nat} (hf : f < ps.length) {N : Int} (hN : 2 ≤ N) :
    InE (scL N ps) f ((cx ps (nx ps.length f) - cx ps f) + N * cx ps f) ((cy ps (nx ps.length f) - cy ps f) + N * cy ps f) := by
  have nd := edge_nd hs hf
  have k1 : N * cx ps (nx ps.length f) = N * (cx ps (nx ps.length f) - cx ps f) + N * cx ps f := by grind
  have k2 : N * cy ps (nx ps.length f) = N * (cy ps (nx ps.length f) - cy ps f) + N * cy ps f := by grind
  refine ⟨?_, ?_, ?_⟩
  · unfold onE
    rw [scL_len, (scL_at N ps f).1, (scL_at N ps f).2, (scL_at N ps _).1, (scL_at N ps _).2, k1, k2, ← onB_rev]
    exact on_near hN
  · rw [(scL_at N ps f).1, (scL_at N ps f).2]
    omega
  · rw [scL_len, (scL_at N ps _).1, (scL_at N ps _).2, k1, k2]
    exact near_ne hN (by omega)
/-- Claim B: from an edge to the next. -/
theorem corner_step {ps : List (Int × Int)} (hs : Simp ps) {e : Nat} (he : e < ps.length) : vE ps e - vE ps (nx ps.length e) = dnEi ps e - dnEi ps (nx ps.length e) := by
  have hf := nx_lt' he
  have hef : e ≠ nx ps.length e := fun h => nx_ne (by have := hs.1; omega) he h.symm
  obtain ⟨N0, hN0⟩ := ex_all (P := fun g => g ≠ e ∧ g ≠ nx ps.length e) (R := fun g N => segB (N * cx ps g) (N * cy ps g) (N * cx ps (nx ps.length g)) (N * cy ps (nx ps.length g)) (N * cx ps (nx ps.length e) + (cx ps e - cx ps (nx ps.length e))) (N * cy ps (nx ps.length e) + (cy ps e - cy ps (nx ps.length e))) (N * cx ps (nx ps.length e) + (cx ps (nx ps.length (nx ps.length e)) - cx ps (nx ps.length e))) (N * cy ps (nx ps.length e) + (cy ps (nx ps.length (nx ps.length e)) - cy ps (nx ps.length e))) = false) ps.length (fun g hg hp => far_seg (corner_off hs he hg hp.1 hp.2) _ _ _ _)
  have hgd := gd_rel (hs.2.1 e he)
  obtain ⟨N, hN, hNN, ha, hc⟩ : ∃ N : Int, 2 ≤ N ∧ N0 ≤ N ∧ (-N < cy ps e - cy ps (nx ps.length e) ∧ cy ps e - cy ps (nx ps.length e) < N) ∧ (-N < cy ps (nx ps.length (nx ps.length e)) - cy ps (nx ps.length e) ∧ cy ps (nx ps.length (nx ps.length e)) - cy ps (nx ps.length e) < N) := ⟨N0.natAbs + (cy ps e - cy ps (nx ps.length e)).natAbs + (cy ps (nx ps.length (nx ps.length e)) - cy ps (nx ps.length e)).natAbs + 2, by omega⟩
  have hfree := hN0 N hNN (by omega)
  have yin := near_in hs he hN
  have zin := near_in' hs hf hN
  have ly := at_edge hs he (by omega) yin
  have lz := at_edge hs hf (by omega) zin
  rw [← ly, ← lz]
  clear ly lz hN0 hNN
  have he' : e < (scL N ps).length := by rw [scL_len]; exact he
  have hf' : nx ps.length e < (scL N ps).length := by rw [scL_len]; exact hf
  have w1 := wEi_on yin.1
  have w2 := wEi_on zin.1
  have ka1 : N * cx ps e = N * (cx ps e - cx ps (nx ps.length e)) + N * cx ps (nx ps.length e) := by grind
  have ka2 : N * cy ps e = N * (cy ps e - cy ps (nx ps.length e)) + N * cy ps (nx ps.length e) := by grind
  have kc1 : N * cx ps (nx ps.length (nx ps.length e)) = N * (cx ps (nx ps.length (nx ps.length e)) - cx ps (nx ps.length e)) + N * cx ps (nx ps.length e) := by grind
  have kc2 : N * cy ps (nx ps.length (nx ps.length e)) = N * (cy ps (nx ps.length (nx ps.length e)) - cy ps (nx ps.length e)) + N * cy ps (nx ps.length e) := by grind
  have U := valU (C1 := cx ps (nx ps.length (nx ps.length e)) - cx ps (nx ps.length e)) (C2 := cy ps (nx ps.length (nx ps.length e)) - cy ps (nx ps.length e)) (A1 := cx ps e - cx ps (nx ps.length e)) hN ha
  have T := valT (A1 := cx ps e - cx ps (nx ps.length e)) (A2 := cy ps e - cy ps (nx ps.length e)) (C1 := cx ps (nx ps.length (nx ps.length e)) - cx ps (nx ps.length e)) hN hc
  have hU : wEi (scL N ps) (cx ps e - cx ps (nx ps.length e) + N * cx ps (nx ps.length e)) (cy ps e - cy ps (nx ps.length e) + N * cy ps (nx ps.length e)) (nx ps.length e) = wE 0 0 (N * (cx ps (nx ps.length (nx ps.length e)) - cx ps (nx ps.length e))) (N * (cy ps (nx ps.length (nx ps.length e)) - cy ps (nx ps.length e))) (cx ps e - cx ps (nx ps.length e)) (cy ps e - cy ps (nx ps.length e)) := by
    unfold wEi
    rw [scL_len, (scL_at N ps _).1, (scL_at N ps _).2, (scL_at N ps _).1, (scL_at N ps _).2, kc1, kc2, ← wE_mov 0 0 _ _ _ _ (N * cx ps (nx ps.length e)) (N * cy ps (nx ps.length e)), Int.zero_add, Int.zero_add]
  have hT : wEi (scL N ps) (cx ps (nx ps.length (nx ps.length e)) - cx ps (nx ps.length e) + N * cx ps (nx ps.length e)) (cy ps (nx ps.length (nx ps.length e)) - cy ps (nx ps.length e) + N * cy ps (nx ps.length e)) e = wE (N * (cx ps e - cx ps (nx ps.length e))) (N * (cy ps e - cy ps (nx ps.length e))) 0 0 (cx ps (nx ps.length (nx ps.length e)) - cx ps (nx ps.length e)) (cy ps (nx ps.length (nx ps.length e)) - cy ps (nx ps.length e)) := by
    unfold wEi
    rw [scL_len, (scL_at N ps e).1, (scL_at N ps e).2, (scL_at N ps _).1, (scL_at N ps _).2, ka1, ka2, ← wE_mov _ _ 0 0 _ _ (N * cx ps (nx ps.length e)) (N * cy ps (nx ps.length e)), Int.zero_add, Int.zero_add]
  have key := corner_UT hgd
  rw [← U, ← T] at key
  rw [← dn_rel, ← dn_rel'] at key
  unfold dnEi
  rw [← key]
  have seg : ∀ i, i < (scL N ps).length → i ≠ e → i ≠ nx ps.length e → segB (cx (scL N ps) i) (cy (scL N ps) i) (cx (scL N ps) (nx (scL N ps).length i)) (cy (scL N ps) (nx (scL N ps).length i)) (cx ps e - cx ps (nx ps.length e) + N * cx ps (nx ps.length e)) (cy ps e - cy ps (nx ps.length e) + N * cy ps (nx ps.length e)) (cx ps (nx ps.length (nx ps.length e)) - cx ps (nx ps.length e) + N * cx ps (nx ps.length e)) (cy ps (nx ps.length (nx ps.length e)) - cy ps (nx ps.length e) + N * cy ps (nx ps.length e)) = false := fun i hi h1 h2 => by
    rw [scL_len] at hi ⊢
    have := hfree i hi ⟨h1, h2⟩
    rw [(scL_at N ps i).1, (scL_at N ps i).2, (scL_at N ps _).1, (scL_at N ps _).2]
    rwa [Int.add_comm (N * cx ps (nx ps.length e)), Int.add_comm (N * cy ps (nx ps.length e)), Int.add_comm (N * cx ps (nx ps.length e)), Int.add_comm (N * cy ps (nx ps.length e))] at this
  have cen1 : cx (scL N ps) (nx (scL N ps).length e) = N * cx ps (nx ps.length e) := by rw [scL_len]; exact (scL_at N ps _).1
  have cen2 : cy (scL N ps) (nx (scL N ps).length e) = N * cy ps (nx ps.length e) := by rw [scL_len]; exact (scL_at N ps _).2
  have cfn1 : cx (scL N ps) (nx (scL N ps).length (nx ps.length e)) = N * cx ps (nx ps.length (nx ps.length e)) := by rw [scL_len]; exact (scL_at N ps _).1
  have cfn2 : cy (scL N ps) (nx (scL N ps).length (nx ps.length e)) = N * cy ps (nx ps.length (nx ps.length e)) := by rw [scL_len]; exact (scL_at N ps _).2
  rcases Int.lt_trichotomy (cy ps e - cy ps (nx ps.length e)) (cy ps (nx ps.length (nx ps.length e)) - cy ps (nx ps.length e)) with h | h | h
  · have k := wnd_two (scL N ps) e (nx ps.length e) hef he' hf' (show cy ps e - cy ps (nx ps.length e) + N * cy ps (nx ps.length e) < cy ps (nx ps.length (nx ps.length e)) - cy ps (nx ps.length e) + N * cy ps (nx ps.length e) by omega) seg
    rw [w1, w2, hU, hT, cen1, cen2, cfn1, cfn2, (scL_at N ps e).1, (scL_at N ps e).2, (scL_at N ps (nx ps.length e)).1, (scL_at N ps (nx ps.length e)).2] at k
    have q1 : inQ (cx ps e - cx ps (nx ps.length e) + N * cx ps (nx ps.length e)) (cy ps e - cy ps (nx ps.length e) + N * cy ps (nx ps.length e)) (cx ps (nx ps.length (nx ps.length e)) - cx ps (nx ps.length e) + N * cx ps (nx ps.length e)) (cy ps (nx ps.length (nx ps.length e)) - cy ps (nx ps.length e) + N * cy ps (nx ps.length e)) (N * cx ps e) (N * cy ps e) = false := by
      rw [ka1, ka2, inQ_mov]; exact valQ1 hN h hc
    have q2 := valQ2 (A1 := cx ps e - cx ps (nx ps.length e)) (C1 := cx ps (nx ps.length (nx ps.length e)) - cx ps (nx ps.length e)) hN h ha
    rw [← inQ_mov _ _ _ _ _ _ (N * cx ps (nx ps.length e)) (N * cy ps (nx ps.length e)), ← kc1, ← kc2] at q2
    rw [q1, q2, show bi false = 0 from rfl] at k
    rw [if_pos h, if_neg (by omega)]
    omega
  · rw [if_neg (by omega), if_neg (by omega)]
    have seg' := seg
    rw [← h] at seg' ⊢
    have k := wnd_flat2 (scL N ps) e (nx ps.length e) hef he' hf' seg'
    rw [← h] at w2 hT hU
    rw [w1, w2, hU, hT] at k
    omega
  · have k := wnd_two (scL N ps) e (nx ps.length e) hef he' hf' (show cy ps (nx ps.length (nx ps.length e)) - cy ps (nx ps.length e) + N * cy ps (nx ps.length e) < cy ps e - cy ps (nx ps.length e) + N * cy ps (nx ps.length e) by omega) (fun i hi h1 h2 => by rw [segB_rev2]; exact seg i hi h1 h2)
    rw [w1, w2, hU, hT, cen1, cen2, cfn1, cfn2, (scL_at N ps e).1, (scL_at N ps e).2, (scL_at N ps (nx ps.length e)).1, (scL_at N ps (nx ps.length e)).2] at k
    have q1 : inQ (cx ps (nx ps.length (nx ps.length e)) - cx ps (nx ps.length e) + N * cx ps (nx ps.length e)) (cy ps (nx ps.length (nx ps.length e)) - cy ps (nx ps.length e) + N * cy ps (nx ps.length e)) (cx ps e - cx ps (nx ps.length e) + N * cx ps (nx ps.length e)) (cy ps e - cy ps (nx ps.length e) + N * cy ps (nx ps.length e)) (N * cx ps (nx ps.length (nx ps.length e))) (N * cy ps (nx ps.length (nx ps.length e))) = false := by
      rw [kc1, kc2, inQ_mov]; exact valQ1 hN h ha
    have q2 := valQ2 (A1 := cx ps (nx ps.length (nx ps.length e)) - cx ps (nx ps.length e)) (C1 := cx ps e - cx ps (nx ps.length e)) hN h hc
    rw [← inQ_mov _ _ _ _ _ _ (N * cx ps (nx ps.length e)) (N * cy ps (nx ps.length e)), ← ka1, ← ka2] at q2
    rw [q1, q2, show bi false = 0 from rfl] at k
    rw [if_neg (by omega), if_pos h]
    omega
/-- All edges have one value, but for their direction. -/
theorem edges_val {ps : List (Int × Int)} (hs : Simp ps) : ∃ R : Int, ∀ e, e < ps.length → vE ps e = R + dnEi ps e := by
  refine ⟨vE ps 0 - dnEi ps 0, fun e => ?_⟩
  induction e with
  | zero => intro _; omega
  | succ e ih =>
    intro he
    have h := ih (by omega)
    have k := corner_step hs (show e < ps.length by omega)
    rw [nx_small he] at k
    omega
/-- Above all corners, or as high as the highest, the winding number is nought. -/
theorem wnd_top (ps : List (Int × Int)) (p q : Int) (h : ∀ i, i < ps.length → cy ps i ≤ q) : wnd ps p q = 0 := by
  unfold wnd
  refine sumE_zero _ _ fun i hi => ?_
  have hi := List.mem_range.1 hi
  have h1 := h i hi
  have h2 := h _ (nx_lt' hi)
  unfold wEi wE upB
  rw [decide_eq_false (show ¬ q < cy ps i by omega), decide_eq_false (show ¬ q < cy ps (nx ps.length i) by omega)]
  simp [bi]
theorem top_corner (ps : List (Int × Int)) : ∀ n, 0 < n → ∃ f, f < n ∧ ∀ i, i < n → cy ps i < cy ps f ∨ (cy ps i = cy ps f ∧ cx ps i ≤ cx ps f)
  | 0, h => by omega
  | n + 1, _ => by
    by_cases h0 : n = 0
    · subst h0
      exact ⟨0, by omega, fun i hi => by obtain rfl : i = 0 := by omega
                                         right; omega⟩
    · obtain ⟨f, hf, hm⟩ := top_corner ps n (by omega)
      by_cases g : cy ps n < cy ps f ∨ (cy ps n = cy ps f ∧ cx ps n ≤ cx ps f)
      · exact ⟨f, by omega, fun i hi => by
          by_cases e : i = n
          · subst e; exact g
          · exact hm i (by omega)⟩
      · exact ⟨n, by omega, fun i hi => by
          by_cases e : i = n
          · subst e; right; omega
          · have := hm i (by omega); omega⟩
theorem nx_pred {n f : Nat} (hf : f < n) : ∃ e, e < n ∧ nx n e = f := by
  by_cases h : f = 0
  · refine ⟨n - 1, by omega, ?_⟩
    unfold nx
    rw [show n - 1 + 1 = n by omega, Nat.mod_self]; omega
  · exact ⟨f - 1, by omega, by unfold nx; rw [show f - 1 + 1 = f by omega]; exact Nat.mod_eq_of_lt hf⟩
/-- A segment on edge e that does not reach its beginning meets no edge but e and the next. -/
theorem edge_free2 {ps : List (Int × Int)} (hs : Simp ps) {e : Nat} (he : e < ps.length) {y1 y2 z1 z2 : Int} (hy : onE ps y1 y2 e = true) (hz : onE ps z1 z2 e = true) (ny : ¬ (y1 = cx ps e ∧ y2 = cy ps e)) (nz' : ¬ (z1 = cx ps e ∧ z2 = cy ps e)) {g : Nat} (hg : g < ps.length) (hne : g ≠ e) (hnf : g ≠ nx ps.length e) :
    segB (cx ps g) (cy ps g) (cx ps (nx ps.length g)) (cy ps (nx ps.length g)) y1 y2 z1 z2 = false := by
  obtain ⟨h1, h2, h3⟩ := hs
  by_cases k2 : nx ps.length g = e
  · have hgd := (h2 g hg).symm
    rw [k2] at hgd ⊢
    rw [← segB_rev1]
    exact seg_adj hgd (by rw [onB_rev]; exact hy) (by rw [onB_rev]; exact hz) ny nz'
  · exact seg_mono hy hz (h3 g e hg he ⟨hne, k2, fun q => hnf q.symm⟩)
end Go.Proofs.YtalhkcmlacppjaaGreatDoor


namespace Go.Proofs.YtalhkcmlacppjaaGreatDoor
open Go.ChangeShapes Go.WideShapes Go.ChangeAt Go.RowKit
set_option linter.unusedVariables false
set_option linter.unusedSimpArgs false

theorem topQ {N A1 A2 C1 C2 : Int} (hN : 2 ≤ N) (ha : -N < A2) (h : A2 < 0) (hc : C2 < 0 ∨ (C2 = 0 ∧ C1 ≤ 0)) : inQ A1 A2 0 0 (N * C1) (N * C2) = false := by
  unfold inQ
  rcases hc with hc | ⟨rfl, hc⟩
  · have := sc_le (N := N) (by omega) hc
    rw [decide_eq_false (show ¬ A2 < N * C2 by omega)]; rfl
  · have e : det A1 A2 0 0 (N * C1) (N * 0) = N * (A2 * C1) := by unfold det; grind
    have m := Int.mul_nonneg_of_nonpos_of_nonpos (show A2 ≤ 0 by omega) hc
    have m2 := zz (show 0 ≤ N by omega) m
    rw [e, decide_eq_false (show ¬ N * (A2 * C1) < 0 by omega)]
    simp
/-- Claim C. -/
theorem edges_R {ps : List (Int × Int)} (hs : Simp ps) {R : Int} (hR : ∀ e, e < ps.length → vE ps e = R + dnEi ps e) : R = 0 ∨ R = -1 := by
  obtain ⟨f, hf, hm⟩ := top_corner ps ps.length (by have := hs.1; omega)
  obtain ⟨e, he, rfl⟩ := nx_pred hf
  have nd := edge_nd hs he
  have me := hm e he
  have hef : e ≠ nx ps.length e := fun h => nx_ne (by have := hs.1; omega) he h.symm
  by_cases ha : cy ps e = cy ps (nx ps.length e)
  · have k := at_edge hs he (N := 2) (by omega) (near_in hs he (by omega))
    rw [wnd_top] at k
    · have := hR e he
      have d : dnEi ps e = 1 := by
        unfold dnEi dnE
        rw [if_pos (by omega)]
      omega
    · intro i hi
      rw [scL_len] at hi
      rw [(scL_at 2 ps i).2]
      have := hm i hi
      omega
  · have hA : cy ps e - cy ps (nx ps.length e) < 0 := by omega
    obtain ⟨N, hN, hNa⟩ : ∃ N : Int, 2 ≤ N ∧ (-N < cy ps e - cy ps (nx ps.length e) ∧ cy ps e - cy ps (nx ps.length e) < N) := ⟨(cy ps e - cy ps (nx ps.length e)).natAbs + 2, by omega⟩
    have yin := near_in hs he hN
    have ly := at_edge hs he (by omega) yin
    have he' : e < (scL N ps).length := by rw [scL_len]; exact he
    have hf' : nx ps.length e < (scL N ps).length := by rw [scL_len]; exact hf
    have cen1 : cx (scL N ps) (nx (scL N ps).length e) = N * cx ps (nx ps.length e) := by rw [scL_len]; exact (scL_at N ps _).1
    have cen2 : cy (scL N ps) (nx (scL N ps).length e) = N * cy ps (nx ps.length e) := by rw [scL_len]; exact (scL_at N ps _).2
    have zon : onE (scL N ps) (N * cx ps (nx ps.length e)) (N * cy ps (nx ps.length e)) e = true := by
      unfold onE
      rw [cen1, cen2]
      exact on_last
    have zon' : onE (scL N ps) (N * cx ps (nx ps.length e)) (N * cy ps (nx ps.length e)) (nx ps.length e) = true := by
      unfold onE
      rw [(scL_at N ps (nx ps.length e)).1, (scL_at N ps (nx ps.length e)).2]
      exact on_first
    have zne : ¬ (N * cx ps (nx ps.length e) = cx (scL N ps) e ∧ N * cy ps (nx ps.length e) = cy (scL N ps) e) := by
      rw [(scL_at N ps e).1, (scL_at N ps e).2]
      exact mul_ne2 (by omega) (fun h => nd ⟨h.1.symm, h.2.symm⟩)
    have seg : ∀ i, i < (scL N ps).length → i ≠ e → i ≠ nx ps.length e → segB (cx (scL N ps) i) (cy (scL N ps) i) (cx (scL N ps) (nx (scL N ps).length i)) (cy (scL N ps) (nx (scL N ps).length i)) (cx ps e - cx ps (nx ps.length e) + N * cx ps (nx ps.length e)) (cy ps e - cy ps (nx ps.length e) + N * cy ps (nx ps.length e)) (N * cx ps (nx ps.length e)) (N * cy ps (nx ps.length e)) = false := fun i hi h1 h2 =>
      edge_free2 (hs.sc (by omega)) he' yin.1 zon yin.2.1 zne hi h1 (by rw [scL_len]; exact h2)
    have k := wnd_two (scL N ps) e (nx ps.length e) hef he' hf' (show cy ps e - cy ps (nx ps.length e) + N * cy ps (nx ps.length e) < N * cy ps (nx ps.length e) by omega) seg
    have nds : ¬ (cx (scL N ps) e = cx (scL N ps) (nx (scL N ps).length e) ∧ cy (scL N ps) e = cy (scL N ps) (nx (scL N ps).length e)) := edge_nd (hs.sc (N := N) (by omega)) he'
    have dl := det_line nds yin.1 zon
    rw [wEi_on yin.1, wEi_on zon, wEi_on zon', inQ_zero dl.1, cen1, cen2, (scL_at N ps (nx ps.length e)).1, (scL_at N ps (nx ps.length e)).2] at k
    have kc1 : N * cx ps (nx ps.length (nx ps.length e)) = N * (cx ps (nx ps.length (nx ps.length e)) - cx ps (nx ps.length e)) + N * cx ps (nx ps.length e) := by grind
    have kc2 : N * cy ps (nx ps.length (nx ps.length e)) = N * (cy ps (nx ps.length (nx ps.length e)) - cy ps (nx ps.length e)) + N * cy ps (nx ps.length e) := by grind
    have cfn1 : cx (scL N ps) (nx (scL N ps).length (nx ps.length e)) = N * cx ps (nx ps.length (nx ps.length e)) := by rw [scL_len]; exact (scL_at N ps _).1
    have cfn2 : cy (scL N ps) (nx (scL N ps).length (nx ps.length e)) = N * cy ps (nx ps.length (nx ps.length e)) := by rw [scL_len]; exact (scL_at N ps _).2
    have mc := hm _ (nx_lt' hf)
    have q := topQ (A1 := cx ps e - cx ps (nx ps.length e)) (C1 := cx ps (nx ps.length (nx ps.length e)) - cx ps (nx ps.length e)) (C2 := cy ps (nx ps.length (nx ps.length e)) - cy ps (nx ps.length e)) hN hNa.1 hA (by omega)
    rw [← inQ_mov _ _ _ _ _ _ (N * cx ps (nx ps.length e)) (N * cy ps (nx ps.length e)), ← kc1, ← kc2, Int.zero_add, Int.zero_add] at q
    rw [cfn1, cfn2, q] at k
    have U := valU (C1 := cx ps (nx ps.length (nx ps.length e)) - cx ps (nx ps.length e)) (C2 := cy ps (nx ps.length (nx ps.length e)) - cy ps (nx ps.length e)) (A1 := cx ps e - cx ps (nx ps.length e)) hN hNa
    have hU : wEi (scL N ps) (cx ps e - cx ps (nx ps.length e) + N * cx ps (nx ps.length e)) (cy ps e - cy ps (nx ps.length e) + N * cy ps (nx ps.length e)) (nx ps.length e) = wE 0 0 (N * (cx ps (nx ps.length (nx ps.length e)) - cx ps (nx ps.length e))) (N * (cy ps (nx ps.length (nx ps.length e)) - cy ps (nx ps.length e))) (cx ps e - cx ps (nx ps.length e)) (cy ps e - cy ps (nx ps.length e)) := by
      unfold wEi
      rw [cfn1, cfn2, (scL_at N ps _).1, (scL_at N ps _).2, kc1, kc2, ← wE_mov 0 0 _ _ _ _ (N * cx ps (nx ps.length e)) (N * cy ps (nx ps.length e)), Int.zero_add, Int.zero_add]
    rw [hU, U] at k
    have z : wnd (scL N ps) (N * cx ps (nx ps.length e)) (N * cy ps (nx ps.length e)) = 0 := wnd_top _ _ _ fun i hi => by
      rw [scL_len] at hi
      rw [(scL_at N ps i).2]
      exact Int.mul_le_mul_of_nonneg_left (by have := hm i hi; omega) (by omega)
    rw [z, ly, hR e he] at k
    have d : dnEi ps e = 0 := by
      unfold dnEi dnE
      rw [if_neg (by omega)]
    have b := bi_bd (decide (cy ps e - cy ps (nx ps.length e) < 0) && decide (0 < (cx ps e - cx ps (nx ps.length e)) * (cy ps (nx ps.length (nx ps.length e)) - cy ps (nx ps.length e)) - (cy ps e - cy ps (nx ps.length e)) * (cx ps (nx ps.length (nx ps.length e)) - cx ps (nx ps.length e))))
    rw [show bi false = 0 from rfl] at k
    split at k
    · omega
    · rw [if_neg (by omega)] at k
      omega

theorem min_ex {P : Nat → Prop} (h : ∃ n, P n) : ∃ n, P n ∧ ∀ m, P m → n ≤ m := by
  obtain ⟨n, hn⟩ := h
  induction n using Nat.strongRecOn with
  | ind n ih =>
    by_cases k : ∃ m, m < n ∧ P m
    · obtain ⟨m, hm, hp⟩ := k
      exact ih m hm hp
    · exact ⟨n, hn, fun m hp => by
        rcases Nat.lt_or_ge m n with g | g
        · exact absurd ⟨m, g, hp⟩ k
        · exact g⟩
/-- A point inside an edge lies on no other. -/
theorem inE_only {ps : List (Int × Int)} (hs : Simp ps) {e g : Nat} (he : e < ps.length) (hg : g < ps.length) {p q : Int} (h : InE ps e p q) (h' : onE ps p q g = true) : g = e := by
  obtain ⟨h1, h2, h3⟩ := hs
  obtain ⟨a1, a2, a3⟩ := h
  false_or_by_contra
  rename_i hne
  by_cases k1 : nx ps.length e = g
  · subst k1
    exact a3 (adj_pt (h2 e he) a1 h')
  · by_cases k2 : nx ps.length g = e
    · have gd := h2 g hg
      have h'' := h'
      unfold onE at h''
      rw [k2] at gd h''
      exact a2 (adj_pt gd h'' a1)
    · have := h3 g e hg he ⟨hne, k2, k1⟩
      unfold segE at this
      rw [seg_common h' a1] at this
      cases this
theorem det_at {a b c d X p q : Int} (h : onB a b c d X q = true) : det a b c d p q = (d - b) * (X - p) := by
  have := det_on h
  have e : det a b c d p q = det a b c d X q + (d - b) * (X - p) := by unfold det; grind
  omega
theorem wE_none {a b c d p q : Int} (h : ¬ (b < q ∧ q < d) ∧ ¬ (d < q ∧ q < b)) (hb : b ≠ q) (hd : d ≠ q) : wE a b c d p q = 0 := by
  unfold wE upB
  split
  · by_cases k : d ≤ q
    · rw [decide_eq_false (show ¬ q < b by omega)]; simp [bi]
    · rw [decide_eq_false k]; simp [bi]
  · by_cases k : b ≤ q
    · rw [decide_eq_false (show ¬ q < d by omega)]; simp [bi]
    · rw [decide_eq_false k]; simp [bi]
theorem wE_up {a b c d X p q : Int} (h : b < q ∧ q < d) (hX : onB a b c d X q = true) : wE a b c d p q = bi (decide (p < X)) := by
  unfold wE upB
  rw [if_neg (by omega), ori_pos, det_at hX, decide_eq_true (show b ≤ q by omega), decide_eq_true h.2, Bool.true_and, Bool.true_and, Int.mul_comm, mul_dec (by omega), decide_eq_decide.2 (show 0 < X - p ↔ p < X by omega)]
theorem wE_down {a b c d X p q : Int} (h : d < q ∧ q < b) (hX : onB a b c d X q = true) : wE a b c d p q = -bi (decide (p < X)) := by
  unfold wE upB
  rw [if_pos (by omega), ori_pos, det_at (a := c) (b := d) (c := a) (d := b) (X := X) (by rw [onB_rev]; exact hX), decide_eq_true (show d ≤ q by omega), decide_eq_true h.2, Bool.true_and, Bool.true_and, Int.mul_comm, mul_dec (by omega), decide_eq_decide.2 (show 0 < X - p ↔ p < X by omega)]
/-- Claim D, at a point that lies on no edge and as high as no corner, where the edges cross its height at whole numbers. -/
theorem wnd_gen {ps : List (Int × Int)} (hs : Simp ps) {R : Int} (hR : ∀ e, e < ps.length → vE ps e = R + dnEi ps e) {p q : Int} (g1 : ∀ i, i < ps.length → cy ps i ≠ q) (g2 : ∀ i, i < ps.length → onE ps p q i = false)
    (g3 : ∀ i, i < ps.length → (cy ps i < q ∧ q < cy ps (nx ps.length i)) ∨ (cy ps (nx ps.length i) < q ∧ q < cy ps i) → ∃ X, onE ps X q i = true) : wnd ps p q = R ∨ wnd ps p q = R + 1 := by
  by_cases hex : ∃ k : Nat, ∃ i, i < ps.length ∧ onE ps (p + 1 + k) q i = true
  · obtain ⟨k, ⟨e, he, hon⟩, hmin⟩ := min_ex hex
    obtain ⟨X, hX⟩ : ∃ X, p + 1 + (k : Int) = X := ⟨_, rfl⟩
    rw [hX] at hon
    have hpX : p < X := by omega
    have hmin' : ∀ i Y, i < ps.length → onE ps Y q i = true → p < Y → X ≤ Y := fun i Y hi hY hpY => by
      have := hmin (Y - p - 1).toNat ⟨i, hi, by rw [show p + 1 + ((Y - p - 1).toNat : Int) = Y by omega]; exact hY⟩
      omega
    have yin : InE ps e X q := ⟨hon, fun h => g1 e he h.2.symm, fun h => g1 _ (nx_lt' he) h.2.symm⟩
    have span : ∀ i N X', i < ps.length → 0 < N → onB (N * cx ps i) (N * cy ps i) (N * cx ps (nx ps.length i)) (N * cy ps (nx ps.length i)) X' (N * q) = true → (cy ps i < q ∧ q < cy ps (nx ps.length i)) ∨ (cy ps (nx ps.length i) < q ∧ q < cy ps i) := fun i N X' hi h0 h => by
      have b := (on_iff.1 h).2.1
      have a1 := g1 i hi
      have a2 := g1 _ (nx_lt' hi)
      unfold Btw at b
      rw [le_sc h0, le_sc h0, le_sc h0, le_sc h0] at b
      omega
    have seg : ∀ i, i < ps.length → i ≠ e → segB (cx ps i) (cy ps i) (cx ps (nx ps.length i)) (cy ps (nx ps.length i)) p q X q = false := fun i hi hne => seg_none fun N X' Y' h0 h1 h2 => by
      have hy : Y' = N * q := by have := (on_iff.1 h2).2.1; unfold Btw at this; omega
      subst hy
      have sp := span i N X' hi h0 h1
      obtain ⟨Z, hZ⟩ := g3 i hi sp
      have d1 := det_on h1
      have d2 := det_on (show onB (N * cx ps i) (N * cy ps i) (N * cx ps (nx ps.length i)) (N * cy ps (nx ps.length i)) (N * Z) (N * q) = true by rw [onB_sc h0]; exact hZ)
      have e2 : (N * cy ps (nx ps.length i) - N * cy ps i) * (N * Z - X') = 0 := by
        unfold det at d1 d2
        grind
      have e3 : N * cy ps (nx ps.length i) - N * cy ps i ≠ 0 := by
        intro e
        have : cy ps (nx ps.length i) = cy ps i := Int.eq_of_mul_eq_mul_left (show N ≠ 0 by omega) (by omega)
        omega
      have hXZ : X' = N * Z := by have := Int.mul_eq_zero.1 e2; omega
      subst hXZ
      have bx := (on_iff.1 h2).1
      unfold Btw at bx
      rw [le_sc h0, le_sc h0, le_sc h0, le_sc h0] at bx
      have hpZ : p ≠ Z := fun h => by
        subst h
        rw [g2 i hi] at hZ
        cases hZ
      have := hmin' i Z hi hZ (by omega)
      have hZX : Z = X := by omega
      subst hZX
      exact hne (inE_only hs he hi yin hZ)
    have k1 := wnd_flat1 ps e he seg
    have k2 := at_edge hs he (N := 1) (by omega) (p := X) (q := q) (by rw [scL_one]; exact yin)
    rw [scL_one, hR e he] at k2
    rw [wEi_on hon] at k1
    have sp := span e 1 X he (by omega) (by simpa [onE] using hon)
    rcases sp with sp | sp
    · have w : wEi ps p q e = 1 := by
        unfold wEi
        rw [wE_up sp hon, decide_eq_true hpX]; rfl
      have d : dnEi ps e = 0 := by
        unfold dnEi dnE
        rw [if_neg (by omega)]
      omega
    · have w : wEi ps p q e = -1 := by
        unfold wEi
        rw [wE_down sp hon, decide_eq_true hpX]; rfl
      have d : dnEi ps e = 1 := by
        unfold dnEi dnE
        rw [if_pos (by omega)]
      omega
  · have z : wnd ps p q = 0 := by
      unfold wnd
      refine sumE_zero _ _ fun i hi => ?_
      have hi := List.mem_range.1 hi
      have nr : ∀ X, onE ps X q i = true → ¬ p < X := fun X hX h => hex ⟨(X - p - 1).toNat, i, hi, by rw [show p + 1 + ((X - p - 1).toNat : Int) = X by omega]; exact hX⟩
      have a1 := g1 i hi
      have a2 := g1 _ (nx_lt' hi)
      unfold wEi
      by_cases u : cy ps i < q ∧ q < cy ps (nx ps.length i)
      · obtain ⟨X, hX⟩ := g3 i hi (.inl u)
        rw [wE_up u hX, decide_eq_false (nr X hX)]; rfl
      · by_cases v : cy ps (nx ps.length i) < q ∧ q < cy ps i
        · obtain ⟨X, hX⟩ := g3 i hi (.inr v)
          rw [wE_down v hX, decide_eq_false (nr X hX)]; rfl
        · exact wE_none ⟨u, v⟩ a1 a2
    have := edges_R hs hR
    omega
end Go.Proofs.YtalhkcmlacppjaaGreatDoor


namespace Go.Proofs.YtalhkcmlacppjaaGreatDoor
open Go.ChangeShapes Go.WideShapes Go.ChangeAt Go.RowKit
set_option linter.unusedVariables false
set_option linter.unusedSimpArgs false

theorem vE_sc {N : Int} (hN : 0 < N) (ps : List (Int × Int)) (e : Nat) : vE (scL N ps) e = vE ps e := by
  unfold vE
  rw [scL_len, (scL_at N ps e).1, (scL_at N ps e).2, (scL_at N ps _).1, (scL_at N ps _).2, scL_scL, Int.mul_comm 2 N, ← scL_scL, ← Int.mul_add, ← Int.mul_add, wnd_sc hN]
theorem dnEi_sc {N : Int} (hN : 0 < N) (ps : List (Int × Int)) (e : Nat) : dnEi (scL N ps) e = dnEi ps e := by
  unfold dnEi dnE
  rw [scL_len, (scL_at N ps e).1, (scL_at N ps e).2, (scL_at N ps _).1, (scL_at N ps _).2]
  have a := lt_sc hN (cy ps (nx ps.length e)) (cy ps e)
  have b := lt_sc hN (cx ps e) (cx ps (nx ps.length e))
  have c : N * cy ps e = N * cy ps (nx ps.length e) ↔ cy ps e = cy ps (nx ps.length e) := ⟨fun h => Int.eq_of_mul_eq_mul_left (by omega) h, fun h => by rw [h]⟩
  by_cases h : cy ps (nx ps.length e) < cy ps e ∨ cy ps e = cy ps (nx ps.length e) ∧ cx ps e < cx ps (nx ps.length e)
  · rw [if_pos h, if_pos (by omega)]
  · rw [if_neg h, if_neg (by omega)]
theorem val_sc {ps : List (Int × Int)} {R : Int} (hR : ∀ e, e < ps.length → vE ps e = R + dnEi ps e) {N : Int} (hN : 0 < N) : ∀ e, e < (scL N ps).length → vE (scL N ps) e = R + dnEi (scL N ps) e := fun e he => by
  rw [scL_len] at he
  rw [vE_sc hN, dnEi_sc hN]
  exact hR e he
theorem ex_L (d : Nat → Int) : ∀ n : Nat, ∃ L : Int, 0 < L ∧ ∀ i, i < n → d i ≠ 0 → ∃ k, L = k * d i
  | 0 => ⟨1, by omega, fun i h => by omega⟩
  | n + 1 => by
    obtain ⟨L, h0, hL⟩ := ex_L d n
    by_cases g : d n = 0
    · exact ⟨L, h0, fun i hi hne => by
        by_cases e : i = n
        · subst e; exact absurd g hne
        · exact hL i (by omega) hne⟩
    · rcases Int.lt_or_gt_of_ne g with k | k
      · refine ⟨L * (-d n), pp h0 (by omega), fun i hi hne => ?_⟩
        by_cases e : i = n
        · subst e; exact ⟨-L, by rw [Int.mul_neg, Int.neg_mul]⟩
        · obtain ⟨m, hm⟩ := hL i (by omega) hne
          exact ⟨m * (-d n), by rw [hm]; grind⟩
      · refine ⟨L * d n, pp h0 k, fun i hi hne => ?_⟩
        by_cases e : i = n
        · subst e; exact ⟨L, rfl⟩
        · obtain ⟨m, hm⟩ := hL i (by omega) hne
          exact ⟨m * d n, by rw [hm]; grind⟩
theorem btw_t {D U : Int} (u0 : 0 ≤ U) (u1 : U ≤ D) (x y : Int) : Btw (D * x) (D * y) (D * x + U * (y - x)) := by
  unfold Btw
  rcases Int.le_total x y with g | g
  · have m1 := Int.mul_nonneg u0 (show 0 ≤ y - x by omega)
    have m2 := Int.mul_nonneg (show 0 ≤ D - U by omega) (show 0 ≤ y - x by omega)
    have : (D - U) * (y - x) = D * y - D * x - U * (y - x) := by grind
    left; omega
  · have m1 := Int.mul_nonneg u0 (show 0 ≤ x - y by omega)
    have m2 := Int.mul_nonneg (show 0 ≤ D - U by omega) (show 0 ≤ x - y by omega)
    have e1 : (D - U) * (x - y) = D * x - D * y + U * (y - x) := by grind
    have e2 : U * (x - y) = -(U * (y - x)) := by grind
    right; omega
theorem on_t {D U : Int} (u0 : 0 ≤ U) (u1 : U ≤ D) (a b c d : Int) : onB (D * a) (D * b) (D * c) (D * d) (D * a + U * (c - a)) (D * b + U * (d - b)) = true :=
  on_iff.2 ⟨btw_t u0 u1 a c, btw_t u0 u1 b d, by grind⟩
theorem mneg {L m d : Int} (h : L = m * d) (h0 : 0 < L) (hd : d < 0) : m < 0 := by
  have e : -m * -d = m * d := by grind
  have := pos_of (x := -m) (y := -d) (by omega) (by omega)
  omega
theorem wnd_gen2 {ps : List (Int × Int)} (hs : Simp ps) {R : Int} (hR : ∀ e, e < ps.length → vE ps e = R + dnEi ps e) {p q : Int} (g1 : ∀ i, i < ps.length → cy ps i ≠ q) (g2 : ∀ i, i < ps.length → onE ps p q i = false) : wnd ps p q = R ∨ wnd ps p q = R + 1 := by
  obtain ⟨L, h0, hL⟩ := ex_L (fun i => cy ps (nx ps.length i) - cy ps i) ps.length
  have k := wnd_gen (hs.sc h0) (val_sc hR h0) (p := L * p) (q := L * q) (fun i hi h => by
    rw [scL_len] at hi
    rw [(scL_at L ps i).2] at h
    exact g1 i hi (Int.eq_of_mul_eq_mul_left (by omega) h)) (fun i hi => by
    rw [scL_len] at hi
    rw [onE_sc h0]
    exact g2 i hi) (fun i hi h => by
    rw [scL_len] at hi h
    rw [(scL_at L ps i).2, (scL_at L ps _).2, lt_sc h0, lt_sc h0, lt_sc h0, lt_sc h0] at h
    obtain ⟨m, hm⟩ := hL i hi (by omega)
    have hy : L * q = L * cy ps i + (m * (q - cy ps i)) * (cy ps (nx ps.length i) - cy ps i) := by
      have : (m * (q - cy ps i)) * (cy ps (nx ps.length i) - cy ps i) = (m * (cy ps (nx ps.length i) - cy ps i)) * (q - cy ps i) := by grind
      rw [this, ← hm]; grind
    refine ⟨L * cx ps i + (m * (q - cy ps i)) * (cx ps (nx ps.length i) - cx ps i), ?_⟩
    unfold onE
    rw [scL_len, (scL_at L ps i).1, (scL_at L ps i).2, (scL_at L ps _).1, (scL_at L ps _).2, hy]
    refine on_t ?_ ?_ _ _ _ _
    · rcases h with h | h
      · have : 0 < m := pos_of (y := cy ps (nx ps.length i) - cy ps i) (by omega) (by rw [← hm]; exact h0)
        exact zz (by omega) (by omega)
      · have : m < 0 := mneg hm h0 (by omega)
        exact Int.mul_nonneg_of_nonpos_of_nonpos (by omega) (by omega)
    · rw [hm]
      rcases h with h | h
      · have : 0 < m := pos_of (y := cy ps (nx ps.length i) - cy ps i) (by omega) (by rw [← hm]; exact h0)
        exact Int.mul_le_mul_of_nonneg_left (by omega) (by omega)
      · have : m < 0 := mneg hm h0 (by omega)
        exact Int.mul_le_mul_of_nonpos_left (by omega) (by omega))
  rwa [wnd_sc h0] at k
theorem ex_bd (f g : Nat → Int) : ∀ n : Nat, ∃ m : Int, 0 < m ∧ ∀ i, i < n → (-m < f i ∧ f i < m) ∧ -m < g i ∧ g i < m
  | 0 => ⟨1, by omega, fun i h => by omega⟩
  | n + 1 => by
    obtain ⟨m, h0, hm⟩ := ex_bd f g n
    refine ⟨m + (f n).natAbs + (g n).natAbs + 1, by omega, fun i hi => ?_⟩
    by_cases e : i = n
    · subst e; omega
    · have := hm i (by omega); omega
theorem shift_le {M x y : Int} (hM : 2 ≤ M) : M * x ≤ M * y + 1 ↔ x ≤ y := by
  constructor
  · intro h
    rcases Int.lt_or_le y x with g | g
    · have : M * (x - y) ≥ M * 1 := Int.mul_le_mul_of_nonneg_left (by omega) (by omega)
      have e : M * (x - y) = M * x - M * y := by grind
      omega
    · exact g
  · intro h
    have := (le_sc (N := M) (by omega) x y).2 h
    omega
theorem shift_lt {M x y : Int} (hM : 2 ≤ M) : M * y + 1 < M * x ↔ y < x := by
  have := shift_le (x := x) (y := y) hM
  omega
/-- A little to the right and upwards. -/
theorem up_shift {M m a b c d p q : Int} (hm : 0 < m) (hM : m * m + m + 2 ≤ M) (h1 : -m < c - a ∧ c - a < m) (h2 : -m < d - b ∧ d - b < m) : upB (M * a) (M * b) (M * c) (M * d) (M * p + m) (M * q + 1) = upB a b c d p q := by
  have mm : 0 ≤ m * m := sq_nn m
  have hM2 : 2 ≤ M := by omega
  unfold upB
  rw [ori_pos, ori_pos, decide_eq_decide.2 (shift_le hM2), decide_eq_decide.2 (shift_lt hM2)]
  by_cases k1 : b ≤ q
  · by_cases k2 : q < d
    · have e : det (M * a) (M * b) (M * c) (M * d) (M * p + m) (M * q + 1) = M * (M * det a b c d p q + ((c - a) - (d - b) * m)) := by unfold det; grind
      have l1 : 1 * m ≤ (d - b) * m := Int.mul_le_mul_of_nonneg_right (by omega) (by omega)
      have l2 : (d - b) * m ≤ m * m := Int.mul_le_mul_of_nonneg_right (by omega) (by omega)
      have : decide (0 < det (M * a) (M * b) (M * c) (M * d) (M * p + m) (M * q + 1)) = decide (0 < det a b c d p q) := by
        rw [e, dec_sc (by omega), decide_eq_decide]
        rcases Int.lt_or_le 0 (det a b c d p q) with g | g
        · have : M * 1 ≤ M * det a b c d p q := Int.mul_le_mul_of_nonneg_left (by omega) (by omega)
          omega
        · have : M * det a b c d p q ≤ M * 0 := Int.mul_le_mul_of_nonneg_left (by omega) (by omega)
          omega
      rw [this]
    · rw [decide_eq_false k2, Bool.and_false, Bool.false_and, Bool.false_and]
  · rw [decide_eq_false k1, Bool.false_and, Bool.false_and, Bool.false_and]
theorem shift_off {ps : List (Int × Int)} {m M : Int} (h0 : 0 < m) (hM : m * m + m + 2 ≤ M) (hm : ∀ i, i < ps.length → (-m < cx ps (nx ps.length i) - cx ps i ∧ cx ps (nx ps.length i) - cx ps i < m) ∧ -m < cy ps (nx ps.length i) - cy ps i ∧ cy ps (nx ps.length i) - cy ps i < m) {i : Nat} (hi : i < (scL M ps).length) (p q : Int) : onE (scL M ps) (M * p + m) (M * q + 1) i = false := by
  have mm : 0 ≤ m * m := sq_nn m
  have hM2 : 2 ≤ M := by omega
  rw [scL_len] at hi
  cases g : onE (scL M ps) (M * p + m) (M * q + 1) i with
  | false => rfl
  | true =>
    exfalso
    unfold onE at g
    rw [scL_len, (scL_at M ps i).1, (scL_at M ps i).2, (scL_at M ps _).1, (scL_at M ps _).2] at g
    obtain ⟨hx, hy⟩ := hm i hi
    have e : det (M * cx ps i) (M * cy ps i) (M * cx ps (nx ps.length i)) (M * cy ps (nx ps.length i)) (M * p + m) (M * q + 1) = M * (M * det (cx ps i) (cy ps i) (cx ps (nx ps.length i)) (cy ps (nx ps.length i)) p q + ((cx ps (nx ps.length i) - cx ps i) - (cy ps (nx ps.length i) - cy ps i) * m)) := by unfold det; grind
    rw [det_on g] at e
    have b := (on_iff.1 g).2.1
    unfold Btw at b
    rw [shift_le hM2, shift_le hM2] at b
    have b' : cy ps i ≠ cy ps (nx ps.length i) := fun h => by
      rw [h] at b
      have := (le_sc (N := M) (by omega) (cy ps (nx ps.length i)) q)
      rcases b with ⟨b1, b2⟩ | ⟨b1, b2⟩
      · have := this.2 b1; omega
      · have := this.2 b1; omega
    have z := Int.mul_eq_zero.1 e.symm
    have z : M * det (cx ps i) (cy ps i) (cx ps (nx ps.length i)) (cy ps (nx ps.length i)) p q + ((cx ps (nx ps.length i) - cx ps i) - (cy ps (nx ps.length i) - cy ps i) * m) = 0 := by omega
    have l2 : (cy ps (nx ps.length i) - cy ps i) * m ≤ m * m := Int.mul_le_mul_of_nonneg_right (by omega) (by omega)
    have l3 : (-m) * m ≤ (cy ps (nx ps.length i) - cy ps i) * m := Int.mul_le_mul_of_nonneg_right (by omega) (by omega)
    have e3 : (-m) * m = -(m * m) := by grind
    have d0 : det (cx ps i) (cy ps i) (cx ps (nx ps.length i)) (cy ps (nx ps.length i)) p q = 0 := by
      rcases Int.lt_trichotomy (det (cx ps i) (cy ps i) (cx ps (nx ps.length i)) (cy ps (nx ps.length i)) p q) 0 with q' | q' | q'
      · have := sc_le (N := M) (by omega) q'; omega
      · exact q'
      · have := sc_ge (N := M) (by omega) q'; omega
    rw [d0, Int.mul_zero] at z
    rcases Int.lt_or_gt_of_ne b' with u | u
    · have : 1 * m ≤ (cy ps (nx ps.length i) - cy ps i) * m := Int.mul_le_mul_of_nonneg_right (by omega) (by omega)
      omega
    · have : (cy ps (nx ps.length i) - cy ps i) * m ≤ (-1) * m := Int.mul_le_mul_of_nonneg_right (by omega) (by omega)
      omega
theorem shift_wnd {ps : List (Int × Int)} {m M : Int} (h0 : 0 < m) (hM : m * m + m + 2 ≤ M) (hm : ∀ i, i < ps.length → (-m < cx ps (nx ps.length i) - cx ps i ∧ cx ps (nx ps.length i) - cx ps i < m) ∧ -m < cy ps (nx ps.length i) - cy ps i ∧ cy ps (nx ps.length i) - cy ps i < m) (p q : Int) : wnd (scL M ps) (M * p + m) (M * q + 1) = wnd ps p q := by
  have mm : 0 ≤ m * m := sq_nn m
  have hM2 : 2 ≤ M := by omega
  unfold wnd
  rw [scL_len]
  exact sumE_congr fun i hi => by
    have hi := List.mem_range.1 hi
    obtain ⟨hx, hy⟩ := hm i hi
    unfold wEi wE
    rw [scL_len, (scL_at M ps i).1, (scL_at M ps i).2, (scL_at M ps _).1, (scL_at M ps _).2, up_shift h0 hM hx hy, up_shift h0 hM (by omega) (by omega)]
    have := lt_sc (N := M) (by omega) (cy ps (nx ps.length i)) (cy ps i)
    by_cases g : cy ps (nx ps.length i) < cy ps i
    · rw [if_pos g, if_pos (this.2 g)]
    · rw [if_neg g, if_neg (fun q => g (this.1 q))]
/-- Claim D: round every point a simple polygon winds R or R + 1 times. -/
theorem wnd_all {ps : List (Int × Int)} (hs : Simp ps) {R : Int} (hR : ∀ e, e < ps.length → vE ps e = R + dnEi ps e) (p q : Int) : wnd ps p q = R ∨ wnd ps p q = R + 1 := by
  obtain ⟨m, h0, hm⟩ := ex_bd (fun i => cx ps (nx ps.length i) - cx ps i) (fun i => cy ps (nx ps.length i) - cy ps i) ps.length
  obtain ⟨M, hM⟩ : ∃ M : Int, m * m + m + 2 ≤ M := ⟨_, Int.le_refl _⟩
  have mm : 0 ≤ m * m := sq_nn m
  have hM2 : 2 ≤ M := by omega
  have k := wnd_gen2 (hs.sc (N := M) (by omega)) (val_sc hR (by omega)) (p := M * p + m) (q := M * q + 1) (fun i hi h => by
    rw [(scL_at M ps i).2] at h
    have a := (shift_le (x := cy ps i) (y := q) hM2).1 (by omega)
    have b := (le_sc (N := M) (by omega) (cy ps i) q).2 a
    omega) (fun i hi => shift_off h0 hM hm hi p q)
  rwa [shift_wnd h0 hM hm] at k
end Go.Proofs.YtalhkcmlacppjaaGreatDoor


namespace Go.Proofs.YtalhkcmlacppjaaGreatDoor
open Go.ChangeShapes Go.WideShapes Go.ChangeAt Go.RowKit
set_option linter.unusedVariables false
set_option linter.unusedSimpArgs false

theorem sumE_le {f g : Nat → Int} : ∀ l : List Nat, (∀ i ∈ l, f i ≤ g i) → sumE f l ≤ sumE g l
  | [], _ => Int.le_refl _
  | i :: l, h => by
    have a := h i List.mem_cons_self
    have b := sumE_le l (fun j hj => h j (List.mem_cons_of_mem _ hj))
    simp only [sumE]
    omega
theorem sumE_mul (k : Int) (f : Nat → Int) : ∀ l : List Nat, sumE (fun i => k * f i) l = k * sumE f l
  | [] => by simp [sumE]
  | i :: l => by
    simp only [sumE]
    rw [sumE_mul k f l]
    grind
theorem sumE_comm (f : Nat → Nat → Int) : ∀ (l m : List Nat), sumE (fun i => sumE (fun j => f i j) m) l = sumE (fun j => sumE (fun i => f i j) l) m
  | [], m => (sumE_zero _ m (fun _ _ => rfl)).symm
  | i :: l, m => by
    show sumE (fun j => f i j) m + sumE (fun i => sumE (fun j => f i j) m) l = _
    rw [sumE_comm f l m, ← sumE_add]
    rfl
/-- How many x from -K on, below n - K, have h x < num. -/
def cntX (h num K : Int) (n : Nat) : Int := sumE (fun x => bi (decide (h * ((x : Int) - K) < num))) (List.range n)
theorem cntX_next (h num K : Int) (n : Nat) : cntX h num K (n + 1) = cntX h num K n + bi (decide (h * ((n : Int) - K) < num)) := by
  unfold cntX; rw [List.range_succ, sumE_snoc]
theorem cntX_inv {h num K : Int} (h0 : 0 < h) : ∀ n : Nat, (cntX h num K n = n ∧ (n = 0 ∨ h * ((n : Int) - 1 - K) < num)) ∨ (cntX h num K n < n ∧ 0 ≤ cntX h num K n ∧ num ≤ h * (cntX h num K n - K) ∧ (cntX h num K n = 0 ∨ h * (cntX h num K n - 1 - K) < num))
  | 0 => .inl ⟨rfl, .inl rfl⟩
  | n + 1 => by
    rw [cntX_next]
    have ih := cntX_inv (num := num) (K := K) h0 n
    by_cases g : h * ((n : Int) - K) < num
    · rw [decide_eq_true g]
      rcases ih with ⟨i1, i2⟩ | ⟨i1, i2, i3, i4⟩
      · left
        refine ⟨by rw [i1]; show (n : Int) + 1 = _; omega, .inr ?_⟩
        rw [show ((n + 1 : Nat) : Int) - 1 - K = (n : Int) - K by omega]
        exact g
      · have : h * (cntX h num K n - K) ≤ h * ((n : Int) - K) := Int.mul_le_mul_of_nonneg_left (by omega) (by omega)
        omega
    · rw [decide_eq_false g, show bi false = 0 from rfl, Int.add_zero]
      rcases ih with ⟨i1, i2⟩ | ⟨i1, i2, i3, i4⟩
      · right
        refine ⟨by omega, by omega, by rw [i1]; omega, ?_⟩
        rcases i2 with i2 | i2
        · left; omega
        · right; rw [i1]; exact i2
      · right
        exact ⟨by omega, i2, i3, i4⟩
theorem cntX_all {h num : Int} (K : Nat) (h0 : 0 < h) (h1 : -(h * K) ≤ num) (h2 : num ≤ h * K) : num ≤ h * (cntX h num K (2 * K) - K) ∧ h * (cntX h num K (2 * K) - K) ≤ num + h := by
  have e : ∀ t : Int, h * (t - 1 - K) = h * (t - K) - h := fun t => by grind
  rcases cntX_inv (num := num) (K := (K : Int)) h0 (2 * K) with ⟨i1, i2⟩ | ⟨i1, i2, i3, i4⟩
  · rw [i1, show ((2 * K : Nat) : Int) - K = K by omega]
    rcases i2 with i2 | i2
    · have : (K : Int) = 0 := by omega
      rw [this] at h1 h2 ⊢
      rw [Int.mul_zero] at *
      omega
    · rw [e, show ((2 * K : Nat) : Int) - K = K by omega] at i2
      omega
  · refine ⟨i3, ?_⟩
    rcases i4 with i4 | i4
    · rw [i4, Int.zero_sub, Int.mul_neg]
      omega
    · rw [e] at i4
      omega
/-- The rows from height b up to below d. -/
def rowJ (b h K : Int) (n : Nat) : Int := if (n : Int) ≤ b + K then 0 else if b + K + h ≤ n then h else n - b - K
theorem up_sum {a b c d : Int} (K : Nat) (hbd : b < d) (ha : -(K : Int) ≤ a ∧ a ≤ K) (hb : -(K : Int) ≤ b) (hc : -(K : Int) ≤ c ∧ c ≤ K) : ∀ n : Nat,
    2 * a * (d - b) * rowJ b (d - b) K n + (c - a) * rowJ b (d - b) K n * (rowJ b (d - b) K n - 1) + 2 * (d - b) * K * rowJ b (d - b) K n ≤ 2 * (d - b) * sumE (fun y => sumE (fun x => bi (upB a b c d ((x : Int) - K) ((y : Int) - K))) (List.range (2 * K))) (List.range n)
    ∧ 2 * (d - b) * sumE (fun y => sumE (fun x => bi (upB a b c d ((x : Int) - K) ((y : Int) - K))) (List.range (2 * K))) (List.range n) ≤ 2 * a * (d - b) * rowJ b (d - b) K n + (c - a) * rowJ b (d - b) K n * (rowJ b (d - b) K n - 1) + 2 * (d - b) * K * rowJ b (d - b) K n + 2 * (d - b) * rowJ b (d - b) K n
  | 0 => by
    have : rowJ b (d - b) K 0 = 0 := by unfold rowJ; rw [if_pos (by omega)]
    rw [this]
    simp [sumE]
  | n + 1 => by
    have ih := up_sum (c := c) K hbd ha hb hc n
    rw [List.range_succ, sumE_snoc]
    generalize sumE (fun y => sumE (fun x => bi (upB a b c d ((x : Int) - K) ((y : Int) - K))) (List.range (2 * K))) (List.range n) = S at *
    by_cases g : b ≤ (n : Int) - K ∧ (n : Int) - K < d
    · have j0 : rowJ b (d - b) K n = (n : Int) - b - K := by
        unfold rowJ
        by_cases q : (n : Int) ≤ b + K
        · rw [if_pos q]; omega
        · rw [if_neg q, if_neg (by omega)]
      have j1 : rowJ b (d - b) K (n + 1) = (n : Int) - b - K + 1 := by
        unfold rowJ
        rw [if_neg (by omega)]
        by_cases q : b + K + (d - b) ≤ ((n + 1 : Nat) : Int)
        · rw [if_pos q]; omega
        · rw [if_neg q]; omega
      rw [j0] at ih
      rw [j1]
      obtain ⟨j, hj⟩ : ∃ j, (n : Int) - b - K = j := ⟨_, rfl⟩
      rw [hj] at ih ⊢
      have row : sumE (fun x => bi (upB a b c d ((x : Int) - K) ((n : Int) - K))) (List.range (2 * K)) = cntX (d - b) (a * (d - b) + j * (c - a)) K (2 * K) := by
        unfold cntX
        exact sumE_congr fun x _ => by
          unfold upB
          rw [ori_pos, decide_eq_true g.1, decide_eq_true g.2, Bool.true_and, Bool.true_and]
          congr 1
          rw [decide_eq_decide]
          have : det a b c d ((x : Int) - K) ((n : Int) - K) = a * (d - b) + j * (c - a) - (d - b) * ((x : Int) - K) := by
            unfold det
            rw [← hj]
            grind
          omega
      rw [row]
      have l1 : a * (d - b) + j * (c - a) = a * (d - b - j) + c * j := by grind
      have b1 : -(K : Int) * (d - b - j) ≤ a * (d - b - j) := Int.mul_le_mul_of_nonneg_right (by omega) (by omega)
      have b2 : a * (d - b - j) ≤ (K : Int) * (d - b - j) := Int.mul_le_mul_of_nonneg_right (by omega) (by omega)
      have b3 : -(K : Int) * j ≤ c * j := Int.mul_le_mul_of_nonneg_right (by omega) (by omega)
      have b4 : c * j ≤ (K : Int) * j := Int.mul_le_mul_of_nonneg_right (by omega) (by omega)
      have b5 : -(K : Int) * (d - b - j) = -((d - b) * K) + K * j := by grind
      have b6 : (K : Int) * (d - b - j) = (d - b) * K - K * j := by grind
      have b7 : -(K : Int) * j = -(K * j) := by grind
      have cn := cntX_all (h := d - b) (num := a * (d - b) + j * (c - a)) K (by omega) (by omega) (by omega)
      generalize cntX (d - b) (a * (d - b) + j * (c - a)) K (2 * K) = F at *
      have f1 : 2 * (d - b) * (S + F) = 2 * (d - b) * S + 2 * ((d - b) * (F - K)) + 2 * (d - b) * K := by grind
      have f2 : 2 * a * (d - b) * (j + 1) + (c - a) * (j + 1) * (j + 1 - 1) + 2 * (d - b) * K * (j + 1) = (2 * a * (d - b) * j + (c - a) * j * (j - 1) + 2 * (d - b) * K * j) + 2 * (a * (d - b) + j * (c - a)) + 2 * (d - b) * K := by grind
      have f3 : 2 * (d - b) * (j + 1) = 2 * (d - b) * j + 2 * (d - b) := by grind
      rw [f1, f2, f3]
      omega
    · have row : sumE (fun x => bi (upB a b c d ((x : Int) - K) ((n : Int) - K))) (List.range (2 * K)) = 0 := sumE_zero _ _ fun x _ => by
        unfold upB
        by_cases q : b ≤ (n : Int) - K
        · rw [decide_eq_false (show ¬ (n : Int) - K < d by omega)]; simp [bi]
        · rw [decide_eq_false q]; simp [bi]
      have j1 : rowJ b (d - b) K (n + 1) = rowJ b (d - b) K n := by
        unfold rowJ
        by_cases q : (n : Int) ≤ b + K
        · rw [if_pos q, if_pos (by omega)]
        · rw [if_neg q, if_neg (by omega)]
          rw [if_pos (by omega), if_pos (by omega)]
      rw [row, j1, Int.add_zero]
      exact ih
theorem up_total {a b c d : Int} (K : Nat) (hbd : b ≤ d) (ha : -(K : Int) ≤ a ∧ a ≤ K) (hb : -(K : Int) ≤ b ∧ b ≤ K) (hc : -(K : Int) ≤ c ∧ c ≤ K) (hd : -(K : Int) ≤ d ∧ d ≤ K) :
    (a + c) * (d - b) + 2 * K * (d - b) - (c - a).natAbs ≤ 2 * sumE (fun y => sumE (fun x => bi (upB a b c d ((x : Int) - K) ((y : Int) - K))) (List.range (2 * K))) (List.range (2 * K))
    ∧ 2 * sumE (fun y => sumE (fun x => bi (upB a b c d ((x : Int) - K) ((y : Int) - K))) (List.range (2 * K))) (List.range (2 * K)) ≤ (a + c) * (d - b) + 2 * K * (d - b) + (c - a).natAbs + 2 * (d - b) := by
  rcases Int.lt_or_eq_of_le hbd with g | g
  · have k := up_sum (c := c) K g ha hb.1 hc (2 * K)
    have j : rowJ b (d - b) K (2 * K) = d - b := by
      unfold rowJ
      rw [if_neg (by omega), if_pos (by omega)]
    rw [j] at k
    generalize sumE (fun y => sumE (fun x => bi (upB a b c d ((x : Int) - K) ((y : Int) - K))) (List.range (2 * K))) (List.range (2 * K)) = S at *
    obtain ⟨h, hh⟩ : ∃ h, d - b = h := ⟨_, rfl⟩
    rw [hh] at k ⊢
    have h0 : 0 < h := by omega
    have e1 : 2 * a * h * h + (c - a) * h * (h - 1) + 2 * h * K * h = h * ((a + c) * h + 2 * K * h - (c - a)) := by grind
    have e2 : 2 * h * S = h * (2 * S) := by grind
    have e3 : h * ((a + c) * h + 2 * K * h - (c - a)) + 2 * h * h = h * ((a + c) * h + 2 * K * h - (c - a) + 2 * h) := by grind
    rw [e1, e2, e3] at k
    have k1 := Int.le_of_mul_le_mul_left k.1 h0
    have k2 := Int.le_of_mul_le_mul_left k.2 h0
    omega
  · subst g
    have z : sumE (fun y => sumE (fun x => bi (upB a b c b ((x : Int) - K) ((y : Int) - K))) (List.range (2 * K))) (List.range (2 * K)) = 0 := sumE_zero _ _ fun y _ => sumE_zero _ _ fun x _ => by
      unfold upB
      by_cases q : b ≤ (y : Int) - K
      · rw [decide_eq_false (show ¬ (y : Int) - K < b by omega)]; simp [bi]
      · rw [decide_eq_false q]; simp [bi]
    rw [z, Int.sub_self, Int.mul_zero, Int.mul_zero]
    omega
/-- The edge's part of the sum over a square of lattice points. -/
theorem edge_total {a b c d : Int} (K : Nat) (ha : -(K : Int) ≤ a ∧ a ≤ K) (hb : -(K : Int) ≤ b ∧ b ≤ K) (hc : -(K : Int) ≤ c ∧ c ≤ K) (hd : -(K : Int) ≤ d ∧ d ≤ K) :
    (a + c) * (d - b) + 2 * K * (d - b) - ((c - a).natAbs + 2 * (d - b).natAbs : Int) ≤ 2 * sumE (fun y => sumE (fun x => wE a b c d ((x : Int) - K) ((y : Int) - K)) (List.range (2 * K))) (List.range (2 * K)) := by
  by_cases g : d < b
  · have k := (up_total (a := c) (b := d) (c := a) (d := b) K (by omega) hc hd ha hb).2
    have e : sumE (fun y => sumE (fun x => wE a b c d ((x : Int) - K) ((y : Int) - K)) (List.range (2 * K))) (List.range (2 * K)) = -sumE (fun y => sumE (fun x => bi (upB c d a b ((x : Int) - K) ((y : Int) - K))) (List.range (2 * K))) (List.range (2 * K)) := by
      rw [← sumE_neg]
      exact sumE_congr fun y _ => by
        show _ = -sumE (fun x => bi (upB c d a b ((x : Int) - K) ((y : Int) - K))) (List.range (2 * K))
        rw [← sumE_neg]
        exact sumE_congr fun x _ => by unfold wE; rw [if_pos g]
    rw [e]
    have f1 : (c + a) * (b - d) = -((a + c) * (d - b)) := by grind
    have f2 : 2 * (K : Int) * (b - d) = -(2 * K * (d - b)) := by grind
    rw [f1, f2] at k
    omega
  · have k := (up_total (a := a) (b := b) (c := c) (d := d) K (by omega) ha hb hc hd).1
    have e : sumE (fun y => sumE (fun x => wE a b c d ((x : Int) - K) ((y : Int) - K)) (List.range (2 * K))) (List.range (2 * K)) = sumE (fun y => sumE (fun x => bi (upB a b c d ((x : Int) - K) ((y : Int) - K))) (List.range (2 * K))) (List.range (2 * K)) :=
      sumE_congr fun y _ => sumE_congr fun x _ => by unfold wE; rw [if_neg g]
    rw [e]
    omega
theorem area_other (ps : List (Int × Int)) (h0 : 0 < ps.length) : area2 ps = sumE (fun i => (cx ps i + cx ps (nx ps.length i)) * (cy ps (nx ps.length i) - cy ps i)) (List.range ps.length) := by
  have k := sum_round (fun i => cx ps i * cy ps i) ps.length h0
  have e : sumE (fun i => (cx ps i + cx ps (nx ps.length i)) * (cy ps (nx ps.length i) - cy ps i)) (List.range ps.length) = sumE (fun i => crossE ps i + (fun i => cx ps (nx ps.length i) * cy ps (nx ps.length i) - cx ps i * cy ps i) i) (List.range ps.length) := sumE_congr fun i _ => by
    show _ = crossE ps i + (cx ps (nx ps.length i) * cy ps (nx ps.length i) - cx ps i * cy ps i)
    unfold crossE
    grind
  rw [e, sumE_add]
  unfold area2
  have k' : sumE (fun i => cx ps (nx ps.length i) * cy ps (nx ps.length i) - cx ps i * cy ps i) (List.range ps.length) = 0 := k
  omega
theorem area_sc (N : Int) (ps : List (Int × Int)) : area2 (scL N ps) = N * (N * area2 ps) := by
  unfold area2
  rw [scL_len, ← sumE_mul, ← sumE_mul]
  exact sumE_congr fun i _ => by
    unfold crossE
    rw [scL_len, (scL_at N ps i).1, (scL_at N ps i).2, (scL_at N ps _).1, (scL_at N ps _).2]
    grind
/-- The sum over a square is bounded by the area. -/
theorem square_sum (ps : List (Int × Int)) (h0 : 0 < ps.length) (K : Nat) (hK : ∀ i, i < ps.length → (-(K : Int) ≤ cx ps i ∧ cx ps i ≤ K) ∧ -(K : Int) ≤ cy ps i ∧ cy ps i ≤ K) :
    area2 ps - sumE (fun i => ((cx ps (nx ps.length i) - cx ps i).natAbs + 2 * (cy ps (nx ps.length i) - cy ps i).natAbs : Int)) (List.range ps.length) ≤ 2 * sumE (fun y => sumE (fun x => wnd ps ((x : Int) - K) ((y : Int) - K)) (List.range (2 * K))) (List.range (2 * K)) := by
  have sw : sumE (fun y => sumE (fun x => wnd ps ((x : Int) - K) ((y : Int) - K)) (List.range (2 * K))) (List.range (2 * K)) = sumE (fun i => sumE (fun y => sumE (fun x => wEi ps ((x : Int) - K) ((y : Int) - K) i) (List.range (2 * K))) (List.range (2 * K))) (List.range ps.length) := by
    have a : sumE (fun y => sumE (fun x => wnd ps (((x : Nat) : Int) - K) (((y : Nat) : Int) - K)) (List.range (2 * K))) (List.range (2 * K)) = sumE (fun y => sumE (fun i => sumE (fun x => wEi ps ((x : Int) - K) ((y : Int) - K) i) (List.range (2 * K))) (List.range ps.length)) (List.range (2 * K)) := sumE_congr fun y _ => sumE_comm (fun x i => wEi ps ((x : Int) - K) ((y : Int) - K) i) (List.range (2 * K)) (List.range ps.length)
    rw [a]
    exact sumE_comm (fun y i => sumE (fun x => wEi ps ((x : Int) - K) ((y : Int) - K) i) (List.range (2 * K))) (List.range (2 * K)) (List.range ps.length)
  rw [sw, ← sumE_mul, area_other ps h0, ← sumE_sub]
  have r := sum_round (fun i => 2 * (K : Int) * cy ps i) ps.length h0
  have r' : sumE (fun i => 2 * (K : Int) * cy ps (nx ps.length i) - 2 * (K : Int) * cy ps i) (List.range ps.length) = 0 := r
  have le : sumE (fun i => (fun i => (cx ps i + cx ps (nx ps.length i)) * (cy ps (nx ps.length i) - cy ps i) - ((cx ps (nx ps.length i) - cx ps i).natAbs + 2 * (cy ps (nx ps.length i) - cy ps i).natAbs : Int)) i + (fun i => 2 * (K : Int) * cy ps (nx ps.length i) - 2 * (K : Int) * cy ps i) i) (List.range ps.length) ≤ sumE (fun i => 2 * sumE (fun y => sumE (fun x => wEi ps ((x : Int) - K) ((y : Int) - K) i) (List.range (2 * K))) (List.range (2 * K))) (List.range ps.length) := sumE_le _ fun i hi => by
    have hi := List.mem_range.1 hi
    have hj := nx_lt' hi
    have t := edge_total K (hK i hi).1 (hK i hi).2 (hK _ hj).1 (hK _ hj).2
    show (cx ps i + cx ps (nx ps.length i)) * (cy ps (nx ps.length i) - cy ps i) - ((cx ps (nx ps.length i) - cx ps i).natAbs + 2 * (cy ps (nx ps.length i) - cy ps i).natAbs : Int) + (2 * (K : Int) * cy ps (nx ps.length i) - 2 * (K : Int) * cy ps i) ≤ _
    have e : 2 * (K : Int) * (cy ps (nx ps.length i) - cy ps i) = 2 * (K : Int) * cy ps (nx ps.length i) - 2 * (K : Int) * cy ps i := by grind
    rw [e] at t
    unfold wEi
    omega
  rw [sumE_add, r', Int.add_zero] at le
  exact le
theorem ex_K (ps : List (Int × Int)) : ∃ K : Nat, ∀ i, i < ps.length → (-(K : Int) ≤ cx ps i ∧ cx ps i ≤ K) ∧ -(K : Int) ≤ cy ps i ∧ cy ps i ≤ K := by
  obtain ⟨m, h0, hm⟩ := ex_bd (cx ps) (cy ps) ps.length
  exact ⟨m.toNat, fun i hi => by have := hm i hi; omega⟩
/-- Where the winding number is nowhere positive, at no scale, the area is not either. -/
theorem area_neg {ps : List (Int × Int)} (h0 : 0 < ps.length) (h : ∀ N p q : Int, 0 < N → wnd (scL N ps) p q ≤ 0) : area2 ps ≤ 0 := by
  obtain ⟨C, hC⟩ : ∃ C, sumE (fun i => ((cx ps (nx ps.length i) - cx ps i).natAbs + 2 * (cy ps (nx ps.length i) - cy ps i).natAbs : Int)) (List.range ps.length) = C := ⟨_, rfl⟩
  have c0 : 0 ≤ C := by
    rw [← hC]
    have := sumE_le (f := fun _ => 0) (List.range ps.length) (fun i _ => show (0 : Int) ≤ ((cx ps (nx ps.length i) - cx ps i).natAbs + 2 * (cy ps (nx ps.length i) - cy ps i).natAbs : Int) by omega)
    rwa [sumE_zero _ _ (fun _ _ => rfl)] at this
  rcases Int.lt_or_le 0 (area2 ps) with g | g
  · exfalso
    obtain ⟨K, hK⟩ := ex_K (scL (C + 1) ps)
    have k := square_sum (scL (C + 1) ps) (by rw [scL_len]; exact h0) K hK
    have z : sumE (fun y => sumE (fun x => wnd (scL (C + 1) ps) ((x : Int) - K) ((y : Int) - K)) (List.range (2 * K))) (List.range (2 * K)) ≤ 0 := by
      have := sumE_le (g := fun _ => 0) (List.range (2 * K)) (fun y _ => by
        have := sumE_le (f := fun x => wnd (scL (C + 1) ps) (((x : Nat) : Int) - K) ((y : Int) - K)) (g := fun _ => 0) (List.range (2 * K)) (fun x _ => h (C + 1) _ _ (by omega))
        rw [sumE_zero (fun _ => (0 : Int)) _ (fun _ _ => rfl)] at this
        exact this)
      rwa [sumE_zero (fun _ => (0 : Int)) _ (fun _ _ => rfl)] at this
    have e : sumE (fun i => ((cx (scL (C + 1) ps) (nx (scL (C + 1) ps).length i) - cx (scL (C + 1) ps) i).natAbs + 2 * (cy (scL (C + 1) ps) (nx (scL (C + 1) ps).length i) - cy (scL (C + 1) ps) i).natAbs : Int)) (List.range (scL (C + 1) ps).length) = (C + 1) * C := by
      rw [← hC, ← sumE_mul, scL_len, hC]
      exact sumE_congr fun i _ => by
        rw [(scL_at (C + 1) ps i).1, (scL_at (C + 1) ps i).2, (scL_at (C + 1) ps _).1, (scL_at (C + 1) ps _).2, ← Int.mul_sub, ← Int.mul_sub, Int.natAbs_mul, Int.natAbs_mul]
        have : (((C + 1).natAbs : Nat) : Int) = C + 1 := by omega
        rw [Int.natCast_mul, Int.natCast_mul, this]
        grind
    rw [e, area_sc] at k
    have l : (C + 1) * ((C + 1) * 1) ≤ (C + 1) * ((C + 1) * area2 ps) := Int.mul_le_mul_of_nonneg_left (Int.mul_le_mul_of_nonneg_left (by omega) (by omega)) (by omega)
    have l2 : (C + 1) * ((C + 1) * 1) = (C + 1) * C + (C + 1) := by grind
    omega
  · exact g
/-- A simple polygon with a positive area winds nought or one time round every point. -/
theorem simp_wnd {ps : List (Int × Int)} (hs : Simp ps) (ha : 0 < area2 ps) (p q : Int) : wnd ps p q = 0 ∨ wnd ps p q = 1 := by
  obtain ⟨R, hR⟩ := edges_val hs
  rcases edges_R hs hR with rfl | rfl
  · have := wnd_all hs hR p q; omega
  · exfalso
    have := area_neg (ps := ps) (by have := hs.1; omega) (fun N p q hN => by
      have := wnd_all (hs.sc hN) (val_sc hR hN) p q
      omega)
    omega
end Go.Proofs.YtalhkcmlacppjaaGreatDoor



