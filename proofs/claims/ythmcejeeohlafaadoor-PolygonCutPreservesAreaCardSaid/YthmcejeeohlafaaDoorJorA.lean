/- Winding numbers of polygons, part A: the winding number as a sum over the edges; what a segment that meets no edge but some does to it; scaling. -/
import Derived.Test.YthmcejeeohlafaaDoorPolU
import Derived.Test.YthmcejeeohlafaaDoorGeoN
namespace Go.Proofs.YthmcejeeohlafaaDoor
open Go.ChangeShapes Go.WideShapes Go.ChangeAt Go.RowKit
set_option linter.unusedVariables false
set_option linter.unusedSimpArgs false

def bi (b : Bool) : Int := if b then 1 else 0
theorem bi_bd (b : Bool) : 0 ≤ bi b ∧ bi b ≤ 1 := by cases b <;> simp [bi]
/-- The signed crossing of the edge (a, b) - (c, d) by the ray from (p, q) to the right: an edge that goes up counts 1, one that goes down -1. -/
def wE (a b c d p q : Int) : Int := if d < b then -bi (upB c d a b p q) else bi (upB a b c d p q)
def wEi (ps : List (Int × Int)) (p q : Int) (i : Nat) : Int := wE (cx ps i) (cy ps i) (cx ps (nx ps.length i)) (cy ps (nx ps.length i)) p q
/-- The winding number; on an edge it is that of a point a little to the right and upwards. -/
def wnd (ps : List (Int × Int)) (p q : Int) : Int := sumE (wEi ps p q) (List.range ps.length)

theorem xor_signed {u v s t : Bool} (h : Bool.xor u v = Bool.xor s t) (h1 : u = true → s = false) (h2 : v = true → t = false) : bi u - bi v = bi t - bi s := by
  cases u <;> cases v <;> cases s <;> cases t <;> simp_all [bi]
theorem up_signed {a b c d x1 x2 y1 y2 : Int} (hbd : b ≤ d) (hxy : x2 < y2) (h : segB a b c d x1 x2 y1 y2 = false) :
    bi (upB a b c d x1 x2) - bi (upB a b c d y1 y2) = bi (inQ x1 x2 y1 y2 c d) - bi (inQ x1 x2 y1 y2 a b) := by
  refine xor_signed (edge_key hbd hxy h) (fun k => ?_) (fun k => ?_)
  · unfold upB at k
    rw [Bool.and_eq_true, Bool.and_eq_true, decide_eq_true_eq] at k
    unfold inQ
    rw [decide_eq_false (by omega)]; rfl
  · unfold upB at k
    rw [Bool.and_eq_true, Bool.and_eq_true, decide_eq_true_eq, decide_eq_true_eq] at k
    unfold inQ
    rw [decide_eq_false (p := d ≤ y2) (by omega)]; simp
/-- Along a segment upwards that does not meet an edge its crossing changes by what the edge's ends say. -/
theorem wE_key {a b c d x1 x2 y1 y2 : Int} (hxy : x2 < y2) (h : segB a b c d x1 x2 y1 y2 = false) :
    wE a b c d x1 x2 - wE a b c d y1 y2 = bi (inQ x1 x2 y1 y2 c d) - bi (inQ x1 x2 y1 y2 a b) := by
  unfold wE
  by_cases g : d < b
  · rw [if_pos g, if_pos g]
    have := up_signed (a := c) (b := d) (c := a) (d := b) (by omega) hxy (by rw [segB_rev1]; exact h)
    omega
  · rw [if_neg g, if_neg g]
    exact up_signed (by omega) hxy h
theorem wE_flat {a b c d x1 y1 z : Int} (h : segB a b c d x1 z y1 z = false) : wE a b c d x1 z = wE a b c d y1 z := by
  unfold wE
  split
  · rw [edge_flat (by omega) (by rw [segB_rev1]; exact h)]
  · rw [edge_flat (by omega) h]
theorem sumE_zero (f : Nat → Int) : ∀ l : List Nat, (∀ i ∈ l, f i = 0) → sumE f l = 0
  | [], _ => rfl
  | i :: l, h => by
    simp only [sumE]
    rw [h i List.mem_cons_self, sumE_zero f l (fun j hj => h j (List.mem_cons_of_mem _ hj))]
    omega
theorem sumE_one (f : Nat → Int) (e : Nat) : ∀ n, e < n → (∀ i, i < n → i ≠ e → f i = 0) → sumE f (List.range n) = f e
  | 0, h, _ => by omega
  | n + 1, h, hz => by
    rw [List.range_succ, sumE_snoc]
    by_cases g : e = n
    · subst g
      rw [sumE_zero f _ (fun i hi => hz i (by have := List.mem_range.1 hi; omega) (by have := List.mem_range.1 hi; omega))]
      omega
    · rw [sumE_one f e n (by omega) (fun i hi => hz i (by omega)), hz n (by omega) (fun k => g k.symm)]
      omega
theorem sumE_two (f : Nat → Int) (e g : Nat) (heg : e ≠ g) : ∀ n, e < n → g < n → (∀ i, i < n → i ≠ e → i ≠ g → f i = 0) → sumE f (List.range n) = f e + f g
  | 0, h, _, _ => by omega
  | n + 1, h, h', hz => by
    rw [List.range_succ, sumE_snoc]
    by_cases k : e = n
    · subst k
      rw [sumE_one f g e (by omega) (fun i hi hne => hz i (by omega) (by omega) hne)]
      omega
    · by_cases k' : g = n
      · subst k'
        rw [sumE_one f e g (by omega) (fun i hi hne => hz i (by omega) hne (by omega))]
      · rw [sumE_two f e g heg n (by omega) (by omega) (fun i hi => hz i (by omega)), hz n (by omega) (fun q => k q.symm) (fun q => k' q.symm)]
        omega
theorem sumE_sub (f g : Nat → Int) (l : List Nat) : sumE (fun i => f i - g i) l = sumE f l - sumE g l := by
  rw [show (fun i => f i - g i) = (fun i => f i + (fun i => -g i) i) from funext fun i => by show f i - g i = f i + -g i; omega, sumE_add, sumE_neg]
  omega
/-- Round a closed polygon the differences of a function on the corners add up to nothing. -/
theorem sum_round (Q : Nat → Int) (n : Nat) (hn : 0 < n) : sumE (fun i => Q (nx n i) - Q i) (List.range n) = 0 := by
  rw [sumE_sub]
  have := sumE_turn Q n 1 hn
  show sumE (fun i => Q ((i + 1) % n)) (List.range n) - sumE Q (List.range n) = 0
  omega
/-- The change of the winding number along a segment that meets only edge e, or e and g. -/
theorem wnd_one (ps : List (Int × Int)) {x1 x2 y1 y2 : Int} (e : Nat) (he : e < ps.length) (hxy : x2 < y2)
    (h : ∀ i, i < ps.length → i ≠ e → segB (cx ps i) (cy ps i) (cx ps (nx ps.length i)) (cy ps (nx ps.length i)) x1 x2 y1 y2 = false) :
    wnd ps x1 x2 - wnd ps y1 y2 = wEi ps x1 x2 e - wEi ps y1 y2 e - (bi (inQ x1 x2 y1 y2 (cx ps (nx ps.length e)) (cy ps (nx ps.length e))) - bi (inQ x1 x2 y1 y2 (cx ps e) (cy ps e))) := by
  have k := sum_round (fun i => bi (inQ x1 x2 y1 y2 (cx ps i) (cy ps i))) ps.length (by omega)
  have r := sumE_one (fun i => (wEi ps x1 x2 i - wEi ps y1 y2 i) - (bi (inQ x1 x2 y1 y2 (cx ps (nx ps.length i)) (cy ps (nx ps.length i))) - bi (inQ x1 x2 y1 y2 (cx ps i) (cy ps i)))) e ps.length he (fun i hi hne => by
    have := wE_key hxy (h i hi hne)
    show (wEi ps x1 x2 i - wEi ps y1 y2 i) - _ = 0
    unfold wEi
    omega)
  rw [sumE_sub, sumE_sub] at r
  unfold wnd
  rw [← r]
  have k' : sumE (fun i => bi (inQ x1 x2 y1 y2 (cx ps (nx ps.length i)) (cy ps (nx ps.length i))) - bi (inQ x1 x2 y1 y2 (cx ps i) (cy ps i))) (List.range ps.length) = 0 := k
  rw [k']
  omega
theorem wnd_two (ps : List (Int × Int)) {x1 x2 y1 y2 : Int} (e g : Nat) (heg : e ≠ g) (he : e < ps.length) (hg : g < ps.length) (hxy : x2 < y2)
    (h : ∀ i, i < ps.length → i ≠ e → i ≠ g → segB (cx ps i) (cy ps i) (cx ps (nx ps.length i)) (cy ps (nx ps.length i)) x1 x2 y1 y2 = false) :
    wnd ps x1 x2 - wnd ps y1 y2 = (wEi ps x1 x2 e - wEi ps y1 y2 e - (bi (inQ x1 x2 y1 y2 (cx ps (nx ps.length e)) (cy ps (nx ps.length e))) - bi (inQ x1 x2 y1 y2 (cx ps e) (cy ps e)))) + (wEi ps x1 x2 g - wEi ps y1 y2 g - (bi (inQ x1 x2 y1 y2 (cx ps (nx ps.length g)) (cy ps (nx ps.length g))) - bi (inQ x1 x2 y1 y2 (cx ps g) (cy ps g)))) := by
  have k := sum_round (fun i => bi (inQ x1 x2 y1 y2 (cx ps i) (cy ps i))) ps.length (by omega)
  have r := sumE_two (fun i => (wEi ps x1 x2 i - wEi ps y1 y2 i) - (bi (inQ x1 x2 y1 y2 (cx ps (nx ps.length i)) (cy ps (nx ps.length i))) - bi (inQ x1 x2 y1 y2 (cx ps i) (cy ps i)))) e g heg ps.length he hg (fun i hi hne hne' => by
    have := wE_key hxy (h i hi hne hne')
    show (wEi ps x1 x2 i - wEi ps y1 y2 i) - _ = 0
    unfold wEi
    omega)
  rw [sumE_sub, sumE_sub] at r
  unfold wnd
  rw [← r]
  have k' : sumE (fun i => bi (inQ x1 x2 y1 y2 (cx ps (nx ps.length i)) (cy ps (nx ps.length i))) - bi (inQ x1 x2 y1 y2 (cx ps i) (cy ps i))) (List.range ps.length) = 0 := k
  rw [k']
  omega
theorem wnd_flat1 (ps : List (Int × Int)) {x1 y1 z : Int} (e : Nat) (he : e < ps.length)
    (h : ∀ i, i < ps.length → i ≠ e → segB (cx ps i) (cy ps i) (cx ps (nx ps.length i)) (cy ps (nx ps.length i)) x1 z y1 z = false) :
    wnd ps x1 z - wnd ps y1 z = wEi ps x1 z e - wEi ps y1 z e := by
  have r := sumE_one (fun i => wEi ps x1 z i - wEi ps y1 z i) e ps.length he (fun i hi hne => by
    have := wE_flat (h i hi hne)
    show wEi ps x1 z i - wEi ps y1 z i = 0
    unfold wEi
    omega)
  rw [sumE_sub] at r
  exact r
theorem wnd_flat2 (ps : List (Int × Int)) {x1 y1 z : Int} (e g : Nat) (heg : e ≠ g) (he : e < ps.length) (hg : g < ps.length)
    (h : ∀ i, i < ps.length → i ≠ e → i ≠ g → segB (cx ps i) (cy ps i) (cx ps (nx ps.length i)) (cy ps (nx ps.length i)) x1 z y1 z = false) :
    wnd ps x1 z - wnd ps y1 z = (wEi ps x1 z e - wEi ps y1 z e) + (wEi ps x1 z g - wEi ps y1 z g) := by
  have r := sumE_two (fun i => wEi ps x1 z i - wEi ps y1 z i) e g heg ps.length he hg (fun i hi hne hne' => by
    have := wE_flat (h i hi hne hne')
    show wEi ps x1 z i - wEi ps y1 z i = 0
    unfold wEi
    omega)
  rw [sumE_sub] at r
  exact r

/-! ### Scaling -/
def scL (N : Int) (ps : List (Int × Int)) : List (Int × Int) := ps.map fun p => (N * p.1, N * p.2)
theorem scL_len (N : Int) (ps : List (Int × Int)) : (scL N ps).length = ps.length := by simp [scL]
theorem scL_at (N : Int) (ps : List (Int × Int)) (i : Nat) : cx (scL N ps) i = N * cx ps i ∧ cy (scL N ps) i = N * cy ps i := by
  unfold cx cy scL
  rw [List.getD_eq_getElem?_getD, List.getD_eq_getElem?_getD, List.getElem?_map]
  cases ps[i]? with
  | none => simp
  | some p => exact ⟨rfl, rfl⟩
theorem scL_scL (M N : Int) (ps : List (Int × Int)) : scL M (scL N ps) = scL (M * N) ps := by
  unfold scL
  rw [List.map_map]
  congr 1
  funext p
  show (M * (N * p.1), M * (N * p.2)) = (M * N * p.1, M * N * p.2)
  rw [Int.mul_assoc, Int.mul_assoc]
theorem scL_one (ps : List (Int × Int)) : scL 1 ps = ps := by
  unfold scL
  have : (fun p : Int × Int => (1 * p.1, 1 * p.2)) = id := by funext p; simp
  rw [this, List.map_id]
section
variable {N : Int} (hN : 0 < N)
include hN
theorem lt_sc (a b : Int) : N * a < N * b ↔ a < b := by
  constructor
  · intro h; exact Int.lt_of_mul_lt_mul_left h (by omega)
  · intro h; exact Int.mul_lt_mul_of_pos_left h hN
theorem le_sc (a b : Int) : N * a ≤ N * b ↔ a ≤ b := by
  constructor
  · intro h; exact Int.le_of_mul_le_mul_left h hN
  · intro h; exact Int.mul_le_mul_of_nonneg_left h (by omega)
theorem det_sc (a b c d p q : Int) : (det (N * a) (N * b) (N * c) (N * d) (N * p) (N * q) < 0 ↔ det a b c d p q < 0) ∧ (0 < det (N * a) (N * b) (N * c) (N * d) (N * p) (N * q) ↔ 0 < det a b c d p q) := by
  have e : det (N * a) (N * b) (N * c) (N * d) (N * p) (N * q) = N * (N * det a b c d p q) := by unfold det; grind
  rw [e]
  constructor
  · have := lt_sc hN (N * det a b c d p q) 0
    have k := lt_sc hN (det a b c d p q) 0
    rw [Int.mul_zero] at this k
    rw [this, k]
  · have := lt_sc hN 0 (N * det a b c d p q)
    have k := lt_sc hN 0 (det a b c d p q)
    rw [Int.mul_zero] at this k
    rw [this, k]
theorem upB_sc (a b c d p q : Int) : upB (N * a) (N * b) (N * c) (N * d) (N * p) (N * q) = upB a b c d p q := by
  unfold upB
  rw [ori_pos, ori_pos]
  have h1 := le_sc hN b q
  have h2 := lt_sc hN q d
  have h3 := (det_sc hN a b c d p q).2
  rw [decide_eq_decide.2 h1, decide_eq_decide.2 h2, decide_eq_decide.2 h3]
theorem wE_sc (a b c d p q : Int) : wE (N * a) (N * b) (N * c) (N * d) (N * p) (N * q) = wE a b c d p q := by
  unfold wE
  rw [upB_sc hN, upB_sc hN]
  have := lt_sc hN d b
  by_cases h : d < b
  · rw [if_pos h, if_pos (this.2 h)]
  · rw [if_neg h, if_neg (fun k => h (this.1 k))]
theorem wnd_sc (ps : List (Int × Int)) (p q : Int) : wnd (scL N ps) (N * p) (N * q) = wnd ps p q := by
  unfold wnd
  rw [scL_len]
  exact sumE_congr fun i _ => by
    unfold wEi
    rw [scL_len, (scL_at N ps i).1, (scL_at N ps i).2, (scL_at N ps (nx ps.length i)).1, (scL_at N ps (nx ps.length i)).2, wE_sc hN]
end
theorem cmpI_sign {x y z t : Int} (h1 : x < y ↔ z < t) (h2 : y < x ↔ t < z) : cmpI x y = cmpI z t := by
  unfold cmpI
  by_cases a : x < y
  · rw [if_pos a, if_pos (h1.1 a)]
  · rw [if_neg a, if_neg (fun k => a (h1.2 k))]
    by_cases b : y < x
    · rw [if_pos b, if_pos (h2.1 b)]
    · rw [if_neg b, if_neg (fun k => b (h2.2 k))]
section
variable {N : Int} (hN : 0 < N)
include hN
theorem ori_sc (a b c d p q : Int) : ori (N * a) (N * b) (N * c) (N * d) (N * p) (N * q) = ori a b c d p q := by
  have h := det_sc hN a b c d p q
  unfold det at h
  unfold ori
  exact cmpI_sign (by omega) (by omega)
theorem mnI_sc (a b : Int) : mnI (N * a) (N * b) = N * mnI a b := by
  have := lt_sc hN b a
  unfold mnI
  by_cases h : b < a
  · rw [if_pos h, if_pos (this.2 h)]
  · rw [if_neg h, if_neg (fun k => h (this.1 k))]
theorem mxI_sc (a b : Int) : mxI (N * a) (N * b) = N * mxI a b := by
  have := lt_sc hN a b
  unfold mxI
  by_cases h : a < b
  · rw [if_pos h, if_pos (this.2 h)]
  · rw [if_neg h, if_neg (fun k => h (this.1 k))]
theorem onB_sc (a b c d p q : Int) : onB (N * a) (N * b) (N * c) (N * d) (N * p) (N * q) = onB a b c d p q := by
  unfold onB
  rw [mnI_sc hN, mxI_sc hN, mnI_sc hN, mxI_sc hN, ori_sc hN, decide_eq_decide.2 (le_sc hN (mnI a c) p), decide_eq_decide.2 (le_sc hN p (mxI a c)), decide_eq_decide.2 (le_sc hN (mnI b d) q), decide_eq_decide.2 (le_sc hN q (mxI b d))]
theorem segB_sc (a b c d p q r s : Int) : segB (N * a) (N * b) (N * c) (N * d) (N * p) (N * q) (N * r) (N * s) = segB a b c d p q r s := by
  unfold segB
  rw [onB_sc hN, onB_sc hN, onB_sc hN, onB_sc hN, ori_sc hN, ori_sc hN, ori_sc hN, ori_sc hN]
end
end Go.Proofs.YthmcejeeohlafaaDoor
