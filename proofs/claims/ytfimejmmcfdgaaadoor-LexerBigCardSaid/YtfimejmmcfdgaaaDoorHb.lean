/- Helpers, merged: GeoA GeoB GeoC GeoD GeoE GeoF GeoBlk GeoReg GeoRgt PolReg PolRegM PolX -/
import Derived.Test.YtfimejmmcfdgaaaDoorRows
import Derived.WalkKit
import Derived.ProofKit
import Derived.OpenShut
import Derived.Handy
import Derived.BigQuiet
import Derived.Deep.QuietTactic
import Derived.Lib.Hide
import Derived.Deep.RegionHeld3
import Derived.Deep.DeepCutAuto
import Derived.LoopN
import Derived.Orders
import Derived.RangeFuncNested
import Derived.RangeFuncBound
import Derived.RangeFuncCalls
import Derived.RangeFuncLeaves
import Derived.Shelf.Abstract
import Derived.OwnWalkIn
import Derived.TacticsInMore
import Derived.LoopNIn
import Derived.LoopIn
/- Contracts of the leaves of layer 2: at, Add, Sub, lower, upper, larger, half, quarter, Fit, Near, Compare, between, Cross. No condition on memory. -/
namespace Go.Proofs.YtfimejmmcfdgaaaDoor
open Go.ChangeShapes Go.WideShapes Go.ChangeAt Go.RowKit

theorem ret_int {k : IntKind} {a b : Int} (h : a = b) : Ending.returned (.int k a) = .returned (.int k b) := by rw [h]
theorem ret_bool {a b : Bool} (h : a = b) : Ending.returned (.bool a) = .returned (.bool b) := by rw [h]
theorem ret_two {a b c d : Bool} (h : a = b) (g : c = d) : Ending.returned (.tuple #[.bool a, .bool c]) = .returned (.tuple #[.bool b, .bool d]) := by rw [h, g]
theorem ret_agg2 {a b c d : Int} (h : a = b) (g : c = d) : Ending.returned (.agg #[.int .i64 a, .int .i64 c]) = .returned (.agg #[.int .i64 b, .int .i64 d]) := by rw [h, g]
theorem bcell {W w1 : World} (hb : Below W.heap.size W w1) : (∀ b o, b < W.heap.size → w1.cell? ⟨b, o, none⟩ = W.cell? ⟨b, o, none⟩) ∧ (∀ b o, b < W.heap.size → w1.frozen? ⟨b, o, none⟩ = W.frozen? ⟨b, o, none⟩) :=
  ⟨fun b o h => hb.cell (p := ⟨b, o, none⟩) h, fun b o h => hb.frozen (p := ⟨b, o, none⟩) h⟩
theorem cell_call {w w1 : World} {p : Addr} {v : Value} (h : w.cell? p = some v) (hb : Below w.heap.size w w1) : w1.cell? p = some v :=
  (hb.cell (World.block_lt_of_cell? w p h)).trans h
theorem cell_alloc {w : World} {p : Addr} {v : Value} (h : w.cell? p = some v) (o : Obj) : (w.alloc o).cell? p = some v :=
  (World.cell?_alloc_lt w o p (World.block_lt_of_cell? w p h)).trans h

/-! ### Numbers -/
def cmpI (a b : Int) : Int := if a < b then -1 else if b < a then 1 else 0
theorem cmpI_lt {a b : Int} (h : a < b) : cmpI a b = -1 := by unfold cmpI; rw [if_pos h]
theorem cmpI_gt {a b : Int} (h : b < a) : cmpI a b = 1 := by unfold cmpI; rw [if_neg (by omega), if_pos h]
theorem cmpI_eq {a b : Int} (h : a = b) : cmpI a b = 0 := by unfold cmpI; rw [if_neg (by omega), if_neg (by omega)]
theorem cmpI_bd (a b : Int) : -1 ≤ cmpI a b ∧ cmpI a b ≤ 1 := by unfold cmpI; split <;> (try split) <;> omega
def mnI (a b : Int) : Int := if b < a then b else a
def mxI (a b : Int) : Int := if a < b then b else a
theorem mnI_bd (a b : Int) : (mnI a b ≤ a ∧ mnI a b ≤ b) ∧ (mnI a b = a ∨ mnI a b = b) := by unfold mnI; split <;> omega
theorem mxI_bd (a b : Int) : (a ≤ mxI a b ∧ b ≤ mxI a b) ∧ (mxI a b = a ∨ mxI a b = b) := by unfold mxI; split <;> omega
theorem run_min2 (a b : Int) (w : World) : (Builtin.min_ #[3, 3] 3 #[.int .i64 a, .int .i64 b]).run Tryd.prog w = .ok (.int .i64 (mnI a b)) w := by
  simp [Builtin.min_, Builtin.min2, mnI]
theorem run_max2 (a b : Int) (w : World) : (Builtin.max_ #[3, 3] 3 #[.int .i64 a, .int .i64 b]).run Tryd.prog w = .ok (.int .i64 (mxI a b)) w := by
  simp [Builtin.max_, Builtin.max2, mxI]

end Go.Proofs.YtfimejmmcfdgaaaDoor


/- Contracts of package geom: Orientation, OnSegment, SegmentsIntersect. No condition on memory; the coordinates are bounded. -/
namespace Go.Proofs.YtfimejmmcfdgaaaDoor
open Go.ChangeShapes Go.WideShapes Go.ChangeAt Go.RowKit

def ori (a b c d p q : Int) : Int := cmpI ((c - a) * (q - b)) ((d - b) * (p - a))
theorem mul_bd {x c B C : Int} (hx : -B ≤ x ∧ x ≤ B) (hc : -C ≤ c ∧ c ≤ C) : -(C * B) ≤ x * c ∧ x * c ≤ C * B := by
  obtain ⟨x1, x2⟩ := hx
  obtain ⟨c1, c2⟩ := hc
  have a1 : 0 ≤ (B - x) * (C - c) := Int.mul_nonneg (by omega) (by omega)
  have a2 : 0 ≤ (B - x) * (C + c) := Int.mul_nonneg (by omega) (by omega)
  have a3 : 0 ≤ (B + x) * (C - c) := Int.mul_nonneg (by omega) (by omega)
  have a4 : 0 ≤ (B + x) * (C + c) := Int.mul_nonneg (by omega) (by omega)
  simp only [Int.add_mul, Int.sub_mul, Int.mul_add, Int.mul_sub] at a1 a2 a3 a4
  have e1 := Int.mul_comm B C
  have e2 := Int.mul_comm x C
  omega
/-- The bound of a coordinate. -/
def InR (x : Int) : Prop := -1500000000 ≤ x ∧ x ≤ 1500000000
theorem dif_bd {x y : Int} (hx : InR x) (hy : InR y) : -3000000000 ≤ x - y ∧ x - y ≤ 3000000000 := by unfold InR at *; omega

theorem belT {w0 w w' : World} (h : Below w0.heap.size w0 w) (hb : Below w.heap.size w w') : Below w0.heap.size w0 w' := h.trans (hb.mono h.size)
theorem belS {w0 w : World} {p : Addr} (h : Below w0.heap.size w0 w) (hp : w0.heap.size ≤ p.block) (v : Value) : Below w0.heap.size w0 (w.setCell p v) := h.setCell hp v
theorem setc {w : World} {p : Addr} {x : Value} (h : w.cell? p = some x) (v : Value) : (w.setCell p v).cell? p = some v := World.cell?_setCell_same w p v h
theorem belA {w0 w : World} (h : Below w0.heap.size w0 w) (o : Obj) : Below w0.heap.size w0 (w.alloc o) := h.alloc h.size o

end Go.Proofs.YtfimejmmcfdgaaaDoor


/- Contract of package geom: OnSegment. No condition on memory; the coordinates are bounded. -/
namespace Go.Proofs.YtfimejmmcfdgaaaDoor
open Go.ChangeShapes Go.WideShapes Go.ChangeAt Go.RowKit

def onB (a b c d p q : Int) : Bool := decide (mnI a c ≤ p) && decide (p ≤ mxI a c) && decide (mnI b d ≤ q) && decide (q ≤ mxI b d) && (ori a b c d p q == 0)

end Go.Proofs.YtfimejmmcfdgaaaDoor


/- Contract of package geom: SegmentsIntersect. No condition on memory; the coordinates are bounded. -/
namespace Go.Proofs.YtfimejmmcfdgaaaDoor
open Go.ChangeShapes Go.WideShapes Go.ChangeAt Go.RowKit

theorem cbx (w : World) (vs : Array Value) (T : TypeId) (n j : Nat) (v : Value) (h : w.heap.size = n) (hj : vs[j]? = some v) : (w.alloc (.cells vs T)).cell? ⟨n, j, none⟩ = some v := by
  subst h
  simp [hj]
/-- Do the points lie on opposite sides? -/
def oppB (x y : Int) : Bool := decide (x * y < 0)

def segB (a b c d p q r s : Int) : Bool := (onB a b c d p q || onB a b c d r s) || (onB p q r s a b || onB p q r s c d) || (oppB (ori a b c d p q) (ori a b c d r s) && oppB (ori p q r s a b) (ori p q r s c d))

end Go.Proofs.YtfimejmmcfdgaaaDoor


/- Contracts of package geom: the two folds, BoundingBox, BoxDistance. Condition: the cells of the slice read as the list says. -/
namespace Go.Proofs.YtfimejmmcfdgaaaDoor
open Go.ChangeShapes Go.WideShapes Go.ChangeAt Go.RowKit

/-- The slice reads as the list l. -/
def PRow (w : World) (ao : Option Addr) (l : List (Int × Int)) : Prop := ∀ i, i < l.length → ∃ b o, ao = some ⟨b, o, none⟩ ∧ w.cell? ⟨b, o + i * 2, none⟩ = some (.int .i64 (l.getD i (0, 0)).1) ∧ w.cell? ⟨b, o + i * 2 + 1, none⟩ = some (.int .i64 (l.getD i (0, 0)).2)
def foldP (f : Int × Int → Int × Int → Int × Int) : List (Int × Int) → Int × Int
  | [] => (0, 0)
  | x :: r => r.foldl f x
def lowP (x y : Int × Int) : Int × Int := (mnI x.1 y.1, mnI x.2 y.2)
def uppP (x y : Int × Int) : Int × Int := (mxI x.1 y.1, mxI x.2 y.2)
theorem foldP_one (f : Int × Int → Int × Int → Int × Int) (l : List (Int × Int)) (h : 0 < l.length) : foldP f (l.take 1) = l.getD 0 (0, 0) := by
  cases l with
  | nil => simp at h
  | cons x r => simp [foldP]
theorem foldP_succ (f : Int × Int → Int × Int → Int × Int) (l : List (Int × Int)) (k : Nat) (h0 : 0 < k) (h : k < l.length) : foldP f (l.take (k + 1)) = f (foldP f (l.take k)) (l.getD k (0, 0)) := by
  cases l with
  | nil => simp at h
  | cons x r =>
    obtain ⟨k, rfl⟩ : ∃ j, k = j + 1 := ⟨k - 1, by omega⟩
    simp only [List.length_cons, Nat.add_lt_add_iff_right] at h
    simp only [List.take_succ_cons, foldP, List.getD_cons_succ]
    rw [List.take_succ_eq_append_getElem h, List.foldl_append]
    simp [List.getD_eq_getElem?_getD, h]
theorem cbe (w : World) (vs : Array Value) (T : TypeId) (n j : Nat) (v : Value) (h : w.heap.size = n) (hj : vs[j]? = some v) : (w.alloc (.cells vs T)).cell? ⟨n, j, none⟩ = some v := by
  subst h
  simp [hj]
theorem fz_call {w w1 : World} {p : Addr} (h : w.frozen? p = false) (z : p.block < w.heap.size) (hb : Below w.heap.size w w1) : w1.frozen? p = false := (hb.frozen z).trans h

/-- The slice of integers reads as the list l. -/
def IRow (w : World) (ao : Option Addr) (l : List Int) : Prop := ∀ i, i < l.length → ∃ b o, ao = some ⟨b, o, none⟩ ∧ w.cell? ⟨b, o + i, none⟩ = some (.int .i64 (l.getD i 0))
def foldI : List Int → Int
  | [] => 0
  | x :: r => r.foldl mxI x
theorem foldI_one (l : List Int) (h : 0 < l.length) : foldI (l.take 1) = l.getD 0 0 := by
  cases l with
  | nil => simp at h
  | cons x r => simp [foldI]
theorem foldI_succ (l : List Int) (k : Nat) (h0 : 0 < k) (h : k < l.length) : foldI (l.take (k + 1)) = mxI (foldI (l.take k)) (l.getD k 0) := by
  cases l with
  | nil => simp at h
  | cons x r =>
    obtain ⟨k, rfl⟩ : ∃ j, k = j + 1 := ⟨k - 1, by omega⟩
    simp only [List.length_cons, Nat.add_lt_add_iff_right] at h
    simp only [List.take_succ_cons, foldI, List.getD_cons_succ]
    rw [List.take_succ_eq_append_getElem h, List.foldl_append]
    simp [List.getD_eq_getElem?_getD, h]

theorem prow_below {w w' : World} {ao : Option Addr} {l : List (Int × Int)} (h : PRow w ao l) (hb : Below w.heap.size w w') : PRow w' ao l := fun i hi => by
  obtain ⟨b, o, rfl, c1, c2⟩ := h i hi
  exact ⟨b, o, rfl, (hb.cell (World.block_lt_of_cell? w _ c1)).trans c1, (hb.cell (World.block_lt_of_cell? w _ c2)).trans c2⟩
theorem prow_alloc {w : World} {ao : Option Addr} {l : List (Int × Int)} (h : PRow w ao l) (x : Obj) : PRow (w.alloc x) ao l := prow_below h (belA (Below.refl _ _) x)

end Go.Proofs.YtfimejmmcfdgaaaDoor


/- Contract of package geom: BoxDistance. Condition: the cells of both slices read as the lists say; the coordinates are bounded. -/
namespace Go.Proofs.YtfimejmmcfdgaaaDoor
open Go.ChangeShapes Go.WideShapes Go.ChangeAt Go.RowKit

/-- All coordinates are bounded. -/
def AllR (l : List (Int × Int)) : Prop := ∀ i, i < l.length → InR (l.getD i (0, 0)).1 ∧ InR (l.getD i (0, 0)).2
theorem inr_mn {a b : Int} (h : InR a) (g : InR b) : InR (mnI a b) := by rcases (mnI_bd a b).2 with e | e <;> rw [e] <;> assumption
theorem inr_mx {a b : Int} (h : InR a) (g : InR b) : InR (mxI a b) := by rcases (mxI_bd a b).2 with e | e <;> rw [e] <;> assumption
theorem fold_inr (f : Int × Int → Int × Int → Int × Int) (hf : ∀ x y : Int × Int, (InR x.1 ∧ InR x.2) → (InR y.1 ∧ InR y.2) → InR (f x y).1 ∧ InR (f x y).2) (l : List (Int × Int)) (h : AllR l) :
    ∀ k, k ≤ l.length → InR (foldP f (l.take k)).1 ∧ InR (foldP f (l.take k)).2 := by
  intro k
  induction k with
  | zero => intro _; simp [foldP, InR]
  | succ k ih =>
    intro hk
    by_cases h0 : k = 0
    · subst h0
      rw [foldP_one f l (by omega)]
      exact h 0 (by omega)
    · rw [foldP_succ f l k (by omega) (by omega)]
      exact hf _ _ (ih (by omega)) (h k (by omega))
theorem low_inr (l : List (Int × Int)) (h : AllR l) : InR (foldP lowP l).1 ∧ InR (foldP lowP l).2 := by
  have := fold_inr lowP (fun x y hx hy => ⟨inr_mn hx.1 hy.1, inr_mn hx.2 hy.2⟩) l h l.length (Nat.le_refl _)
  rwa [List.take_length] at this
theorem upp_inr (l : List (Int × Int)) (h : AllR l) : InR (foldP uppP l).1 ∧ InR (foldP uppP l).2 := by
  have := fold_inr uppP (fun x y hx hy => ⟨inr_mx hx.1 hy.1, inr_mx hx.2 hy.2⟩) l h l.length (Nat.le_refl _)
  rwa [List.take_length] at this

/-- The distance of two boxes. -/
def gapI (a b c d p q r s : Int) : Int := foldI [0, p - c, q - d, a - r, b - s]
def boxD (la lb : List (Int × Int)) : Int := if la.length = 0 ∨ lb.length = 0 then 0 else
  gapI (foldP lowP la).1 (foldP lowP la).2 (foldP uppP la).1 (foldP uppP la).2 (foldP lowP lb).1 (foldP lowP lb).2 (foldP uppP lb).1 (foldP uppP lb).2

theorem irow5 (w : World) (T : TypeId) (x0 x1 x2 x3 x4 : Int) : IRow (w.alloc (.cells #[.int .i64 x0, .int .i64 x1, .int .i64 x2, .int .i64 x3, .int .i64 x4] T)) (some ⟨w.heap.size, 0, none⟩) [x0, x1, x2, x3, x4] := fun i hi => by
  refine ⟨w.heap.size, 0, rfl, cbx _ _ _ _ _ _ rfl ?_⟩
  have : i = 0 ∨ i = 1 ∨ i = 2 ∨ i = 3 ∨ i = 4 := by simp at hi; omega
  rcases this with rfl | rfl | rfl | rfl | rfl <;> rfl

end Go.Proofs.YtfimejmmcfdgaaaDoor


/- Contract of pick: four points reduced to points in range or to points near the origin. No condition. -/
namespace Go.Proofs.YtfimejmmcfdgaaaDoor
open Go.ChangeShapes Go.WideShapes Go.ChangeAt Go.RowKit

/-! ### A block known whole -/
theorem blk_lt {w : World} {b : Nat} {o : Obj} (h : w.heap[b]? = some o) : b < w.heap.size := by
  rcases Nat.lt_or_ge b w.heap.size with h' | h'
  · exact h'
  · rw [Array.getElem?_eq_none h'] at h; cases h
theorem blk_cell {w : World} {b : Nat} {vs : Array Value} {T : TypeId} (h : w.heap[b]? = some (.cells vs T (0, 0))) (j : Nat) (v : Value) (hj : vs[j]? = some v) : w.cell? ⟨b, j, none⟩ = some v := by simp [World.cell?, h, hj]
theorem blk_fz {w : World} {b : Nat} {vs : Array Value} {T : TypeId} (h : w.heap[b]? = some (.cells vs T (0, 0))) (j : Nat) : w.frozen? ⟨b, j, none⟩ = false := by simp [World.frozen?, h]
theorem blk_new (w : World) (o : Obj) (n : Nat) (h : w.heap.size = n) : (w.alloc o).heap[n]? = some o := by subst h; show (w.heap.push o)[w.heap.size]? = _; simp
theorem blk_alloc {w : World} {b : Nat} {o : Obj} (h : w.heap[b]? = some o) (o' : Obj) : (w.alloc o').heap[b]? = some o := by
  show (w.heap.push o')[b]? = _
  rw [Array.getElem?_push_lt (blk_lt h)]
  rwa [Array.getElem?_eq_getElem (blk_lt h)] at h
theorem blk_call {w w' : World} {b : Nat} {o : Obj} (h : w.heap[b]? = some o) (hb : Below w.heap.size w w') : w'.heap[b]? = some o := (hb.block b (blk_lt h)).trans h
theorem blk_other {w : World} {b c j : Nat} {o : Obj} (h : w.heap[b]? = some o) (hne : c ≠ b) (u : Value) : (w.setCell ⟨c, j, none⟩ u).heap[b]? = some o := by
  simp [World.setCell, Array.getElem?_modify, hne, h]
theorem blk_set {w : World} {b j : Nat} {vs : Array Value} {T : TypeId} (h : w.heap[b]? = some (.cells vs T (0, 0))) (u : Value) : (w.setCell ⟨b, j, none⟩ u).heap[b]? = some (.cells (vs.setIfInBounds j u) T (0, 0)) := by
  simp [World.setCell, Array.getElem?_modify, h]
end Go.Proofs.YtfimejmmcfdgaaaDoor


/- A region that draws its order, operation by operation: if each operation, wherever it comes up, leaves in its slot a value as told and touches no old memory, then the whole region does, in whatever order. -/
namespace Go.Proofs.YtfimejmmcfdgaaaDoor
open Go.ChangeShapes Go.WideShapes Go.ChangeAt Go.RowKit

/-- What is told of the slots: nothing; a value; a slice of points that reads as a list. -/
abbrev Told := List (Option (Value ⊕ List (Int × Int)))
def Rt (sp : Told) (t : Nat) (v : Value) (w : World) : Prop :=
  match sp.getD t none with
  | none => True
  | some (.inl x) => v = x
  | some (.inr l) => ∃ b c, v = .slice (some ⟨b, 0, none⟩) l.length c ∧ PRow w (some ⟨b, 0, none⟩) l
theorem Rt.keep {sp : Told} {t : Nat} {v : Value} {w w' : World} (h : Rt sp t v w) (hb : Below w.heap.size w w') : Rt sp t v w' := by
  unfold Rt at *
  split
  · trivial
  · rename_i e; rw [e] at h; exact h
  · rename_i e; rw [e] at h; obtain ⟨b, c, e1, e2⟩ := h; exact ⟨b, c, e1, prow_below e2 hb⟩
def dstOf (ops : Array Oper) (j : Nat) : Option Nat := (ops[j]?).bind (·.dst)
/-- A slot that no operation of the region writes. -/
def Free (ops : Array Oper) (t : Nat) : Prop := ∀ j, dstOf ops j ≠ some t

section
variable {P : Program} {ops : Array Oper} {Q : Exit → Act → World → Prop} {sp : Told} {T0 : Array Value} {D0 : List Deferred} {w0 : World}

/-- What is asked of operation o. -/
def Ob (P : Program) (ops : Array Oper) (Q : Exit → Act → World → Prop) (sp : Told) (T0 : Array Value) (D0 : List Deferred) (w0 : World) (o : Oper) : Prop :=
  ∀ (T : Array Value) (w : World) (K : Act → World → Prop), Below w0.heap.size w0 w → (∀ t, Free ops t → T[t]? = T0[t]?) →
    (∀ j d, (∃ e ∈ o.after, e.on = j ∧ Region.binds .any e = true) → dstOf ops j = some d → ∃ v, T[d]? = some v ∧ Rt sp d v w) →
    (∀ v w', Below w.heap.size w w' → (∀ d, o.dst = some d → Rt sp d v w') → K (Act.put ⟨T, D0⟩ o.dst v) w') →
    if Region.wanted o (yielded ops T) = true then Oper.wp P o ⟨T, D0⟩ w K Q else K (Act.put ⟨T, D0⟩ o.dst undef) w
def Obs (P : Program) (ops : Array Oper) (Q : Exit → Act → World → Prop) (sp : Told) (T0 : Array Value) (D0 : List Deferred) (w0 : World) : List Oper → Prop
  | [] => True
  | o :: r => Ob P ops Q sp T0 D0 w0 o ∧ Obs P ops Q sp T0 D0 w0 r
theorem Obs.get : ∀ {l : List Oper} {i : Nat} {o : Oper}, Obs P ops Q sp T0 D0 w0 l → l[i]? = some o → Ob P ops Q sp T0 D0 w0 o
  | [], _, _, _, h => by simp at h
  | x :: r, 0, o, h, e => by simp at e; subst e; exact h.1
  | x :: r, i + 1, o, h, e => Obs.get (l := r) (i := i) h.2 (by simpa using e)

/-- Well-formed: an operation waits for earlier ones alone; the slots differ and lie in the frame. -/
def wfB (ops : Array Oper) (n : Nat) : Bool := (List.range ops.size).all fun i =>
  match ops[i]? with
  | none => true
  | some o => (o.after.all fun e => !Region.binds .any e || decide (e.on < i)) &&
    (match o.dst with
     | none => true
     | some d => decide (d < n) && (List.range i).all fun j => decide (dstOf ops j ≠ some d))
theorem wf_after {n : Nat} (h : wfB ops n = true) {i : Nat} {o : Oper} (ho : ops[i]? = some o) : ∀ e ∈ o.after, Region.binds .any e = true → e.on < i := by
  have hi : i < ops.size := (Array.getElem?_eq_some_iff.1 ho).1
  have := List.all_eq_true.1 h i (List.mem_range.2 hi)
  rw [ho] at this
  simp only [Bool.and_eq_true] at this
  intro e he hb
  have := Array.all_eq_true'.1 this.1 e he
  rw [hb] at this
  simpa using this
theorem wf_dst {n : Nat} (h : wfB ops n = true) {i d : Nat} (hd : dstOf ops i = some d) : d < n ∧ ∀ j, j < i → dstOf ops j ≠ some d := by
  unfold dstOf at hd
  obtain ⟨o, ho, hod⟩ := Option.bind_eq_some_iff.1 hd
  have hi : i < ops.size := (Array.getElem?_eq_some_iff.1 ho).1
  have := List.all_eq_true.1 h i (List.mem_range.2 hi)
  rw [ho] at this
  simp only [Bool.and_eq_true] at this
  have h2 := this.2
  rw [hod] at h2
  simp only [Bool.and_eq_true, decide_eq_true_eq] at h2
  refine ⟨h2.1, fun j hj => ?_⟩
  have := List.all_eq_true.1 h2.2 j (List.mem_range.2 hj)
  simpa using this
theorem wf_inj {n : Nat} (h : wfB ops n = true) {i j d : Nat} (hi : dstOf ops i = some d) (hj : dstOf ops j = some d) : i = j := by
  rcases Nat.lt_trichotomy i j with g | g | g
  · exact absurd hi ((wf_dst h hj).2 i g)
  · exact g
  · exact absurd hj ((wf_dst h hi).2 j g)

def left (n : Nat) (listed : Array Bool) : Nat := (List.range n).countP fun j => !listed.getD j true
theorem countP_lt {α : Type} {p q : α → Bool} : ∀ {l : List α}, (∀ x ∈ l, q x = true → p x = true) → (∃ x ∈ l, p x = true ∧ q x = false) → l.countP q < l.countP p
  | [], _, h => by simp at h
  | y :: r, h1, ⟨x, hx, hp, hq⟩ => by
    have hr : r.countP q ≤ r.countP p := List.countP_mono_left (fun z hz => h1 z (List.mem_cons_of_mem _ hz))
    rcases List.mem_cons.1 hx with rfl | hx
    · rw [List.countP_cons_of_pos hp, List.countP_cons_of_neg (by simp [hq])]; omega
    · have := countP_lt (l := r) (fun z hz => h1 z (List.mem_cons_of_mem _ hz)) ⟨x, hx, hp, hq⟩
      by_cases hy : q y = true
      · rw [List.countP_cons_of_pos hy, List.countP_cons_of_pos (h1 y (List.mem_cons_self ..) hy)]; omega
      · rw [List.countP_cons_of_neg hy, List.countP_cons]; omega
theorem all_listed {n : Nat} (h : wfB ops n = true) {listed : Array Bool} (hs : listed.size = ops.size) (hr : Region.ready .any ops listed = []) : ∀ j, j < ops.size → listed.getD j true = true := by
  intro j
  induction j using Nat.strongRecOn with
  | _ j ih =>
    intro hj
    cases hl : listed.getD j true with
    | true => rfl
    | false =>
      have ho : ops[j]? = some ops[j] := Array.getElem?_eq_getElem hj
      have : j ∈ Region.ready .any ops listed := mem_ready.2 ⟨hl, ops[j], ho, fun e he hb => by
        have hlt := wf_after h ho e he hb
        have := ih e.on hlt (by omega)
        have hb : e.on < listed.size := by omega
        simpa [Array.getD, hb] using this⟩
      rw [hr] at this
      cases this

/-- What holds while the region runs. -/
def Inv (ops : Array Oper) (sp : Told) (T0 : Array Value) (D0 : List Deferred) (w0 : World) (listed : Array Bool) (a : Act) (w : World) : Prop :=
  Below w0.heap.size w0 w ∧ a.defers = D0 ∧ (∀ t, Free ops t → a.tmps[t]? = T0[t]?) ∧ a.tmps.size = T0.size ∧ listed.size = ops.size ∧
    ∀ j d, listed.getD j false = true → dstOf ops j = some d → ∃ v, a.tmps[d]? = some v ∧ Rt sp d v w
theorem Inv.next {listed : Array Bool} {T : Array Value} {w w' : World} {i : Nat} {o : Oper} {v : Value} (hwf : wfB ops T0.size = true) (ho : ops[i]? = some o)
    (h : Inv ops sp T0 D0 w0 listed ⟨T, D0⟩ w) (hb : Below w.heap.size w w') (hv : ∀ d, o.dst = some d → Rt sp d v w') :
    Inv ops sp T0 D0 w0 (listed.setIfInBounds i true) (Act.put ⟨T, D0⟩ o.dst v) w' := by
  obtain ⟨h1, _, h3, h4, h5, h6⟩ := h
  have hB : Below w0.heap.size w0 w' := h1.trans (hb.mono h1.size)
  have hdi : dstOf ops i = o.dst := by unfold dstOf; rw [ho]; rfl
  cases hd : o.dst with
  | none =>
    refine ⟨hB, rfl, h3, h4, by simpa using h5, fun j d hj hjd => ?_⟩
    have hne : i ≠ j := fun e => by subst e; rw [hdi, hd] at hjd; cases hjd
    rw [getD_set_ne false hne] at hj
    obtain ⟨u, hu, hr⟩ := h6 j d hj hjd
    exact ⟨u, hu, hr.keep hb⟩
  | some d0 =>
    rw [hd] at hdi
    have hlt := (wf_dst hwf hdi).1
    refine ⟨hB, rfl, fun t ht => ?_, ?_, by simpa using h5, fun j d hj hjd => ?_⟩
    · have hne : d0 ≠ t := fun e => ht i (by rw [hdi, e])
      show (T.setIfInBounds d0 v)[t]? = _
      rw [Array.getElem?_setIfInBounds_ne hne]
      exact h3 t ht
    · show (T.setIfInBounds d0 v).size = _
      simpa using h4
    · show ∃ u, (T.setIfInBounds d0 v)[d]? = some u ∧ Rt sp d u w'
      by_cases hij : i = j
      · subst hij
        obtain rfl : d0 = d := Option.some.inj (hdi.symm.trans hjd)
        exact ⟨v, by rw [Array.getElem?_setIfInBounds_self_of_lt (by simp at h4; omega)], hv d0 hd⟩
      · rw [getD_set_ne false hij] at hj
        obtain ⟨u, hu, hr⟩ := h6 j d hj hjd
        have hne : d0 ≠ d := fun e => hij (wf_inj hwf (hdi.trans (by rw [e])) hjd)
        exact ⟨u, by rw [Array.getElem?_setIfInBounds_ne hne]; exact hu, hr.keep hb⟩

theorem any_of_obs (hwf : wfB ops T0.size = true) (hob : Obs P ops Q sp T0 D0 w0 ops.toList)
    (hfin : ∀ T w, Below w0.heap.size w0 w → (∀ t, Free ops t → T[t]? = T0[t]?) → T.size = T0.size → (∀ j d, dstOf ops j = some d → ∃ v, T[d]? = some v ∧ Rt sp d v w) → Q .normal ⟨T, D0⟩ w) :
    ∀ (fuel : Nat) (listed : Array Bool) (a : Act) (w : World), left ops.size listed ≤ fuel → Inv ops sp T0 D0 w0 listed a w → wpAny P .any ops Q fuel listed a w := by
  have fin : ∀ (listed : Array Bool) (a : Act) (w : World), Inv ops sp T0 D0 w0 listed a w → (∀ j, j < ops.size → listed.getD j true = true) → Q .normal a w := by
    rintro listed ⟨T, D⟩ w ⟨h1, rfl, h3, h4, h5, h6⟩ hall
    refine hfin T w h1 h3 h4 (fun j d hjd => h6 j d ?_ hjd)
    have hj : j < ops.size := by
      unfold dstOf at hjd
      obtain ⟨o, ho, _⟩ := Option.bind_eq_some_iff.1 hjd
      exact (Array.getElem?_eq_some_iff.1 ho).1
    have hb : j < listed.size := by omega
    simpa [Array.getD, hb] using hall j hj
  intro fuel
  induction fuel with
  | zero =>
    intro listed a w hl hI
    have hall : ∀ j, j < ops.size → listed.getD j true = true := fun j hj => by
      have h0 : left ops.size listed = 0 := by omega
      have := List.countP_eq_zero.1 h0 j (List.mem_range.2 hj)
      simpa using this
    refine ⟨?_, fin listed a w hI hall⟩
    cases hr : Region.ready .any ops listed with
    | nil => rfl
    | cons j r =>
      have hm : j ∈ Region.ready .any ops listed := by rw [hr]; exact List.mem_cons_self ..
      obtain ⟨hj, o, ho, _⟩ := mem_ready.1 hm
      have := hall j (Array.getElem?_eq_some_iff.1 ho).1
      rw [hj] at this; cases this
  | succ fuel ih =>
    intro listed a w hl hI
    refine ⟨fun hr => fin listed a w hI (all_listed hwf hI.2.2.2.2.1 hr), fun i hi => ?_⟩
    obtain ⟨hun, o, ho, hall⟩ := mem_ready.1 hi
    obtain ⟨T, D⟩ := a
    obtain rfl : D = D0 := hI.2.1
    have hob' := hob.get (i := i) (by simpa using ho)
    have hlt : i < ops.size := (Array.getElem?_eq_some_iff.1 ho).1
    have hdec : left ops.size (listed.setIfInBounds i true) ≤ fuel := by
      have : left ops.size (listed.setIfInBounds i true) < left ops.size listed := countP_lt (fun x _ hx => by
          by_cases hix : i = x
          · subst hix
            have hb : i < listed.size := by have := hI.2.2.2.2.1; omega
            simp [Array.getD, hb] at hx
          · rwa [getD_set_ne true hix] at hx) ⟨i, List.mem_range.2 hlt, by rw [hun]; rfl, by
            have hb : i < listed.size := by have := hI.2.2.2.2.1; omega
            simp [Array.getD, hb]⟩
      omega
    have hst := hob' T w (fun a' w' => wpAny P .any ops Q fuel (listed.setIfInBounds i true) a' w') hI.1 hI.2.2.1
      (fun j d ⟨e, he, hej, hb⟩ hjd => by subst hej; exact hI.2.2.2.2.2 e.on d (hall e he hb) hjd)
      (fun v w' hb hv => ih _ _ _ hdec (hI.next hwf ho hb hv))
    unfold wpOp
    simp only [ho]
    split
    · rename_i hw; rw [if_pos hw] at hst; exact .inl hst
    · rename_i hw; rw [if_neg hw] at hst; exact hst

/-- The region. -/
theorem region_obs {id : Nat} (sp : Told) (hm : P.follows .mixedOrders = true) (hwf : wfB ops T0.size = true) (hob : Obs P ops Q sp T0 D0 w0 ops.toList)
    (hfin : ∀ T w, Below w0.heap.size w0 w → (∀ t, Free ops t → T[t]? = T0[t]?) → T.size = T0.size → (∀ j d, dstOf ops j = some d → ∃ v, T[d]? = some v ∧ Rt sp d v w) → Q .normal ⟨T, D0⟩ w) :
    (Code.region id ops true).wp P Q ⟨T0, D0⟩ w0 := by
  refine wp_region_any hm (any_of_obs hwf hob hfin _ _ _ _ ?_ ?_)
  · have := List.countP_le_length (p := fun j => !(Array.replicate ops.size false).getD j true) (l := List.range ops.size)
    unfold left
    simpa using this
  · exact ⟨(Below.refl w0.heap.size w0).drew, rfl, fun t _ => rfl, rfl, by simp, fun j d hj _ => by
      exfalso
      by_cases hb : j < ops.size
      · simp [Array.getD, hb] at hj
      · simp [Array.getD, hb] at hj⟩
end

/-! ### For the obligations -/
theorem obs_nil {P : Program} {ops : Array Oper} {Q : Exit → Act → World → Prop} {sp : Told} {T0 : Array Value} {D0 : List Deferred} {w0 : World} : Obs P ops Q sp T0 D0 w0 [] := trivial
theorem obs_cons {P : Program} {ops : Array Oper} {Q : Exit → Act → World → Prop} {sp : Told} {T0 : Array Value} {D0 : List Deferred} {w0 : World} {o : Oper} {r : List Oper} (h : Ob P ops Q sp T0 D0 w0 o) (g : Obs P ops Q sp T0 D0 w0 r) : Obs P ops Q sp T0 D0 w0 (o :: r) := ⟨h, g⟩
theorem get_eq {T : Array Value} {sp : Told} {d : Nat} {w : World} {x : Value} (h : ∃ v, T[d]? = some v ∧ Rt sp d v w) (hs : sp.getD d none = some (.inl x)) : T[d]? = some x := by
  obtain ⟨v, hv, hr⟩ := h
  unfold Rt at hr
  rw [hs] at hr
  rw [hv, hr]
theorem get_row {T : Array Value} {sp : Told} {d : Nat} {w : World} {l : List (Int × Int)} (h : ∃ v, T[d]? = some v ∧ Rt sp d v w) (hs : sp.getD d none = some (.inr l)) : ∃ b c, T[d]? = some (.slice (some ⟨b, 0, none⟩) l.length c) ∧ PRow w (some ⟨b, 0, none⟩) l := by
  obtain ⟨v, hv, hr⟩ := h
  unfold Rt at hr
  rw [hs] at hr
  obtain ⟨b, c, rfl, hp⟩ := hr
  exact ⟨b, c, hv, hp⟩
theorem rt_eq {sp : Told} {d : Nat} {w : World} {x : Value} (hs : sp.getD d none = some (.inl x)) : ∀ d', some d = some d' → Rt sp d' x w := fun d' h => by
  cases h; unfold Rt; rw [hs]
theorem rt_row {sp : Told} {d : Nat} {w : World} {l : List (Int × Int)} {b c n : Nat} (hs : sp.getD d none = some (.inr l)) (hn : n = l.length) (hp : PRow w (some ⟨b, 0, none⟩) l) : ∀ d', some d = some d' → Rt sp d' (.slice (some ⟨b, 0, none⟩) n c) w := fun d' h => by
  cases h; unfold Rt; rw [hs]; subst hn; exact ⟨b, c, rfl, hp⟩
theorem rt_any {sp : Told} {d : Nat} {w : World} {x : Value} (hs : sp.getD d none = none) : ∀ d', some d = some d' → Rt sp d' x w := fun d' h => by
  cases h; unfold Rt; rw [hs]; trivial
def freeB (ops : Array Oper) (t : Nat) : Bool := ops.all fun o => decide (o.dst ≠ some t)
theorem free_of {ops : Array Oper} {t : Nat} (h : freeB ops t = true) : Free ops t := fun j hj => by
  unfold dstOf at hj
  obtain ⟨o, ho, hd⟩ := Option.bind_eq_some_iff.1 hj
  have := Array.all_eq_true'.1 h o (Array.mem_of_getElem? ho)
  simp [hd] at this
theorem ob_yes {c : Prop} [Decidable c] {A B : Prop} (h : c) (a : A) : if c then A else B := by rw [if_pos h]; exact a
theorem ob_no {c : Prop} [Decidable c] {A B : Prop} (h : ¬ c) (b : B) : if c then A else B := by rw [if_neg h]; exact b
theorem wanted_none {o : Oper} {y : Nat → Option Bool} (hg : o.guard = none) : Region.wanted o y = true := by unfold Region.wanted; rw [hg]
theorem wanted_yes {ops : Array Oper} {T : Array Value} {o : Oper} {g d : Nat} {b : Bool} (hg : o.guard = some (g, b)) (hd : dstOf ops g = some d) (ht : T[d]? = some (.bool b)) : Region.wanted o (yielded ops T) = true := by
  unfold Region.wanted yielded
  rw [hg]
  unfold dstOf at hd
  simp [hd, ht]
theorem wanted_no {ops : Array Oper} {T : Array Value} {o : Oper} {g d : Nat} {b c : Bool} (hg : o.guard = some (g, b)) (hd : dstOf ops g = some d) (ht : T[d]? = some (.bool c)) (hbc : (c == b) = false) : ¬ Region.wanted o (yielded ops T) = true := by
  unfold Region.wanted yielded
  rw [hg]
  unfold dstOf at hd
  simp [hd, ht]
  simpa using hbc
end Go.Proofs.YtfimejmmcfdgaaaDoor


/- The same for a region in the order of the text. -/
namespace Go.Proofs.YtfimejmmcfdgaaaDoor
open Go.ChangeShapes Go.WideShapes Go.ChangeAt Go.RowKit
section
variable {P : Program} {ops : Array Oper} {Q : Exit → Act → World → Prop} {sp : Told} {T0 : Array Value} {D0 : List Deferred} {w0 : World}
theorem ops_of_obs (hwf : wfB ops T0.size = true) (hob : Obs P ops Q sp T0 D0 w0 ops.toList)
    (hfin : ∀ T w, Below w0.heap.size w0 w → (∀ t, Free ops t → T[t]? = T0[t]?) → T.size = T0.size → (∀ j d, dstOf ops j = some d → ∃ v, T[d]? = some v ∧ Rt sp d v w) → Q .normal ⟨T, D0⟩ w) :
    ∀ (n i : Nat) (listed : Array Bool) (a : Act) (w : World), i + n = ops.size → (∀ j, j < ops.size → (listed.getD j false = true ↔ j < i)) → Inv ops sp T0 D0 w0 listed a w → wpOps P ops Q (List.range' i n) a w := by
  intro n
  induction n with
  | zero =>
    rintro i listed ⟨T, D⟩ w hn hl ⟨h1, rfl, h3, h4, h5, h6⟩
    refine hfin T w h1 h3 h4 (fun j d hjd => h6 j d ?_ hjd)
    have hj : j < ops.size := by
      unfold dstOf at hjd
      obtain ⟨o, ho, _⟩ := Option.bind_eq_some_iff.1 hjd
      exact (Array.getElem?_eq_some_iff.1 ho).1
    exact (hl j hj).2 (by omega)
  | succ n ih =>
    rintro i listed ⟨T, D⟩ w hn hl hI
    obtain rfl : D = D0 := hI.2.1
    have hlt : i < ops.size := by omega
    have ho : ops[i]? = some ops[i] := Array.getElem?_eq_getElem hlt
    have hob' := hob.get (i := i) (o := ops[i]) (by simp)
    have hst := hob' T w (fun a' w' => wpOps P ops Q (List.range' (i + 1) n) a' w') hI.1 hI.2.2.1
      (fun j d ⟨e, he, hej, hb⟩ hjd => by
        subst hej
        have hon := wf_after hwf ho e he hb
        exact hI.2.2.2.2.2 e.on d ((hl e.on (by omega)).2 hon) hjd)
      (fun v w' hb hv => ih (i + 1) (listed.setIfInBounds i true) _ _ (by omega) (fun j hj => by
        by_cases hij : i = j
        · subst hij
          have hbd : i < listed.size := by have := hI.2.2.2.2.1; omega
          simp [Array.getD, hbd]
        · rw [getD_set_ne false hij, hl j hj]; omega) (hI.next hwf ho hb hv))
    rw [List.range'_succ, wpOps_cons]
    unfold wpOp
    simp only [ho]
    split
    · rename_i hw; rw [if_pos hw] at hst; exact .inl hst
    · rename_i hw; rw [if_neg hw] at hst; exact hst
theorem region_text {id : Nat} (sp : Told) (hwf : wfB ops T0.size = true) (hob : Obs P ops Q sp T0 D0 w0 ops.toList)
    (hfin : ∀ T w, Below w0.heap.size w0 w → (∀ t, Free ops t → T[t]? = T0[t]?) → T.size = T0.size → (∀ j d, dstOf ops j = some d → ∃ v, T[d]? = some v ∧ Rt sp d v w) → Q .normal ⟨T, D0⟩ w) :
    (Code.region id ops false).wp P Q ⟨T0, D0⟩ w0 := by
  refine wp_region ?_
  rw [List.range_eq_range']
  refine ops_of_obs hwf hob hfin ops.size 0 (Array.replicate ops.size false) _ _ (by omega) (fun j hj => ?_) ⟨Below.refl _ _, rfl, fun t _ => rfl, rfl, by simp, fun j d hj _ => ?_⟩
  · simp [Array.getD, hj]
  · exfalso
    by_cases hb : j < ops.size
    · simp [Array.getD, hb] at hj
    · simp [Array.getD, hb] at hj
end
end Go.Proofs.YtfimejmmcfdgaaaDoor


/- A region that draws its order, in a round of a loop over an iterator, and the iterator's own: what is shown of it outside a fence serves there. -/
namespace Go.Proofs.YtfimejmmcfdgaaaDoor
open Go.ChangeShapes Go.WideShapes Go.ChangeAt Go.RowKit

theorem rows_in {F : Fence} (hF : F.fn = fun _ => True) (hd : F.depth = none) (ha : F.alive = false) {n : Nat} {P : Program} {row : String} {args : Array Value} {w : World} {R : Value → World → Prop} (h : Rows P row args w R) : RowsIn F n P row args w R := by
  intro c cs _
  obtain ⟨v, w', hr, hs⟩ := h c cs
  refine ⟨v, w', hr, ?_⟩
  have := (stepsIn_wide (P := P)).2 hs
  obtain ⟨fn, d, al, ro⟩ := F
  subst hF hd ha
  exact this
theorem calls_in {F : Fence} (hF : F.fn = fun _ => True) (hd : F.depth = none) (ha : F.alive = false) {n : Nat} {P : Program} {f : FuncId} {args : Array Value} {w : World} {R : Ending → World → Prop} (h : Calls P f args w R) : CallsIn F n P f args w R := by
  have := (callsIn_wide (n := n)).2 h
  obtain ⟨fn, d, al, ro⟩ := F
  subst hF hd ha
  exact this
/-- No operation is a defer statement, and none asks to be let out. -/
theorem op_in {F : Fence} (hF : F.fn = fun _ => True) (hd : F.depth = none) (ha : F.alive = false) {n : Nat} {P : Program} {o : Oper} (hnd : ∀ c, o.op ≠ .defer c) {a : Act} {w : World} {K : Act → World → Prop} {Q : Exit → Act → World → Prop} (h : Oper.wp P o a w K Q) : o.wpIn F n P a w K Q := by
  unfold Oper.wpIn
  refine ⟨fun f _ => by rw [hF]; trivial, ?_⟩
  have hs : o.semAt F.round a.eval = execOp a.eval o := by
    cases F.round with
    | none => rfl
    | some l => exact Oper.semAt_some l _ _ hnd
  rw [hs]
  unfold Oper.wp at h
  generalize (execOp a.eval o).run P w = r at *
  cases r with
  | ok x w' =>
    cases x <;> simp only [Oper.upon, Oper.uponIn] at h ⊢ <;>
      first
        | exact h
        | exact ⟨fun e => (by rw [hd] at e; cases e), calls_in hF hd ha h⟩
        | exact ⟨fun e => (by rw [hd] at e; cases e), rows_in hF hd ha h⟩
  | halt x w' => cases x <;> simp only [Oper.upon, Oper.uponIn] at h ⊢ <;> exact h
theorem Oper.wpIn_exits {F : Fence} {n : Nat} {P : Program} {o : Oper} {a : Act} {w : World} {K : Act → World → Prop} {Q Q' : Exit → Act → World → Prop} (h : ∀ e a w, Q e a w → Q' e a w) (hh : o.wpIn F n P a w K Q) : o.wpIn F n P a w K Q' := by
  unfold Oper.wpIn at *
  refine ⟨hh.1, ?_⟩
  have hh := hh.2
  generalize (o.semAt F.round a.eval).run P w = r at *
  have hl : LetsOut Q → LetsOut Q' := fun ⟨a, w, q⟩ => ⟨a, w, h _ _ _ q⟩
  cases r with
  | ok x w' =>
    cases x <;> simp only [Oper.uponIn] at hh ⊢ <;>
      first
        | exact hh
        | exact ⟨hh.1, CallsIn.mono hh.2 (fun e w'' he => by cases e <;> first | exact he | exact h _ _ _ he | exact hl he)⟩
        | exact ⟨hh.1, RoundIn.mono hh.2 (fun e w'' he => by cases e <;> first | exact he | exact h _ _ _ he | exact hl he)⟩
  | halt x w' => cases x <;> simp only [Oper.uponIn] at hh ⊢ <;> first | exact hh | exact h _ _ _ hh
def noDefer (ops : Array Oper) : Bool := ops.all fun o => match o.op with | .defer _ => false | _ => true
theorem noDefer_at {ops : Array Oper} (h : noDefer ops = true) {i : Nat} {o : Oper} (ho : ops[i]? = some o) : ∀ c, o.op ≠ .defer c := by
  intro c e
  have := Array.all_eq_true'.1 h o (Array.mem_of_getElem? ho)
  rw [e] at this
  cases this
section
variable {F : Fence} {n : Nat} {P : Program} {ops : Array Oper} {Q : Exit → Act → World → Prop} {sp : Told} {T0 : Array Value} {D0 : List Deferred} {w0 : World}
theorem opAt_in (hF : F.fn = fun _ => True) (hd : F.depth = none) (ha : F.alive = false) (hnd : noDefer ops = true) (hQ : ¬ LetsOut Q) {i : Nat} {K K' : Act → World → Prop} (hK : ∀ a w, K a w → K' a w) {a : Act} {w : World} (h : wpOp P ops Q i K a w) : wpOpIn F n P ops Q i K' a w := by
  refine wpOpIn_mono hK ?_
  unfold wpOp at h
  unfold wpOpIn
  cases ho : ops[i]? with
  | none => simpa [ho] using h
  | some o =>
    simp only [ho] at h ⊢
    split
    · rename_i hw
      rw [if_pos hw] at h
      rcases h with h | h
      · exact op_in hF hd ha (noDefer_at hnd ho) h
      · exact absurd h.2 hQ
    · rename_i hw
      rw [if_neg hw] at h
      exact ⟨fun f _ => by rw [hF]; trivial, h⟩
theorem any_in (hF : F.fn = fun _ => True) (hd : F.depth = none) (ha : F.alive = false) (hnd : noDefer ops = true) (hQ : ¬ LetsOut Q) : ∀ (fuel : Nat) (listed : Array Bool) (a : Act) (w : World), wpAny P .any ops Q fuel listed a w → wpAnyIn F n P .any ops Q fuel listed a w
  | 0, _, _, _, h => h
  | fuel + 1, _, _, _, h => ⟨h.1, fun i hi => opAt_in hF hd ha hnd hQ (fun a w => any_in hF hd ha hnd hQ fuel _ a w) (h.2 i hi)⟩
theorem region_obs_in {id : Nat} (sp : Told) (hF : F.fn = fun _ => True) (hd : F.depth = none) (ha : F.alive = false) (hnd : noDefer ops = true) (hQ : ¬ LetsOut Q) (hm : P.follows .mixedOrders = true) (hwf : wfB ops T0.size = true) (hob : Obs P ops Q sp T0 D0 w0 ops.toList)
    (hfin : ∀ T w, Below w0.heap.size w0 w → (∀ t, Free ops t → T[t]? = T0[t]?) → T.size = T0.size → (∀ j d, dstOf ops j = some d → ∃ v, T[d]? = some v ∧ Rt sp d v w) → Q .normal ⟨T, D0⟩ w) :
    (Code.region id ops true).wpIn F n P Q ⟨T0, D0⟩ w0 := by
  refine wpIn_region_any hm (any_in hF hd ha hnd hQ _ _ _ _ (any_of_obs hwf hob hfin _ _ _ _ ?_ ?_))
  · have := List.countP_le_length (p := fun j => !(Array.replicate ops.size false).getD j true) (l := List.range ops.size)
    unfold left
    simpa using this
  · exact ⟨(Below.refl w0.heap.size w0).drew, rfl, fun t _ => rfl, rfl, by simp, fun j d hj _ => by
      exfalso
      by_cases hb : j < ops.size
      · simp [Array.getD, hb] at hj
      · simp [Array.getD, hb] at hj⟩
end
/-! ### A region whose last operations wait, each, for all ahead of them -/
def preds (ops : Array Oper) (i : Nat) : List Nat := match ops[i]? with
  | none => []
  | some o => o.after.toList.filterMap fun e => if Region.binds .any e then some e.on else none
def anc (ops : Array Oper) : Nat → Nat → List Nat
  | 0, _ => []
  | f + 1, i => preds ops i ++ (preds ops i).flatMap (anc ops f)
def forced (ops : Array Oper) (m : Nat) : Bool := (List.range ops.size).all fun i => decide (i < m) || (List.range i).all fun j => decide (j ∈ anc ops ops.size i)
def Shut (ops : Array Oper) (listed : Array Bool) : Prop := ∀ i, listed.getD i false = true → ∀ j ∈ preds ops i, listed.getD j false = true
theorem anc_in {ops : Array Oper} {listed : Array Bool} (hs : Shut ops listed) : ∀ (f i : Nat), (∀ j ∈ preds ops i, listed.getD j false = true) → ∀ j ∈ anc ops f i, listed.getD j false = true
  | 0, _, _, _, h => by simp [anc] at h
  | f + 1, i, hp, j, h => by
    simp only [anc, List.mem_append, List.mem_flatMap] at h
    rcases h with h | ⟨k, hk, hj⟩
    · exact hp j h
    · exact anc_in hs f k (hs k (hp k hk)) j hj
theorem forced_at {ops : Array Oper} {m : Nat} (h : forced ops m = true) {i : Nat} (hm : m ≤ i) (hi : i < ops.size) : ∀ j, j < i → j ∈ anc ops ops.size i := by
  have := List.all_eq_true.1 h i (List.mem_range.2 hi)
  simp only [Bool.or_eq_true, decide_eq_true_eq] at this
  rcases this with h | h
  · omega
  · intro j hj
    simpa using List.all_eq_true.1 h j (List.mem_range.2 hj)
theorem ready_preds {ops : Array Oper} {listed : Array Bool} (hsz : listed.size = ops.size) {i : Nat} (hwf : ∀ {i : Nat} {o : Oper}, ops[i]? = some o → ∀ e ∈ o.after, Region.binds .any e = true → e.on < i) (h : i ∈ Region.ready .any ops listed) : ∀ j ∈ preds ops i, listed.getD j false = true := by
  obtain ⟨_, o, ho, hall⟩ := mem_ready.1 h
  have hi := (Array.getElem?_eq_some_iff.1 ho).1
  intro j hj
  unfold preds at hj
  rw [ho] at hj
  simp only [List.mem_filterMap] at hj
  obtain ⟨e, he, hb⟩ := hj
  split at hb
  · rename_i hbb
    simp at hb
    subst hb
    have hlt := hwf ho e (by simpa using he) hbb
    have := hall e (by simpa using he) hbb
    have hb : e.on < listed.size := by omega
    simpa [Array.getD, hb] using this
  · cases hb
theorem getD_tf {listed : Array Bool} {j : Nat} (h : j < listed.size) : listed.getD j true = listed.getD j false := by simp [Array.getD, h]

section
variable {F : Fence} {n : Nat} {P : Program} {ops : Array Oper} {Q : Exit → Act → World → Prop} {sp : Told} {T0 : Array Value} {D0 : List Deferred} {w0 : World}
theorem tail_in {N m : Nat} (hwf : wfB ops N = true) (hfo : forced ops m = true) : ∀ (k i : Nat) (listed : Array Bool) (a : Act) (w : World) (fuel : Nat), m ≤ i → i + k = ops.size → listed.size = ops.size → (∀ j, j < ops.size → (listed.getD j false = true ↔ j < i)) → left ops.size listed ≤ fuel → wpOpsIn F n P ops Q (List.range' i k) a w → wpAnyIn F n P .any ops Q fuel listed a w := by
  intro k
  induction k with
  | zero =>
    intro i listed a w fuel _ hik hsz hl _ h
    have hr : Region.ready .any ops listed = [] := by
      cases hr : Region.ready .any ops listed with
      | nil => rfl
      | cons j r =>
        have hm : j ∈ Region.ready .any ops listed := by rw [hr]; exact List.mem_cons_self ..
        obtain ⟨hj, o, ho, _⟩ := mem_ready.1 hm
        have hlt := (Array.getElem?_eq_some_iff.1 ho).1
        rw [getD_tf (by omega), (hl j hlt).2 (by omega)] at hj
        cases hj
    cases fuel with
    | zero => exact ⟨hr, h⟩
    | succ f => exact ⟨fun _ => h, fun i hi => by rw [hr] at hi; cases hi⟩
  | succ k ih =>
    intro i listed a w fuel hmi hik hsz hl hf h
    have hi : i < ops.size := by omega
    have hun : listed.getD i false = false := by
      cases e : listed.getD i false with
      | false => rfl
      | true => have := (hl i hi).1 e; omega
    have hdec : left ops.size (listed.setIfInBounds i true) < left ops.size listed := countP_lt (fun x _ hx => by
        by_cases hix : i = x
        · subst hix
          have hb : i < listed.size := by omega
          simp [Array.getD, hb] at hx
        · rwa [getD_set_ne true hix] at hx) ⟨i, List.mem_range.2 hi, by rw [getD_tf (by omega), hun]; rfl, by
          have hb : i < listed.size := by omega
          simp [Array.getD, hb]⟩
    obtain ⟨f, rfl⟩ : ∃ f, fuel = f + 1 := ⟨fuel - 1, by omega⟩
    refine ⟨fun hr => ?_, fun i' hi' => ?_⟩
    · have := all_listed hwf hsz hr i hi
      rw [getD_tf (by omega), hun] at this
      cases this
    · have hp := ready_preds hsz (fun ho => wf_after hwf ho) hi'
      obtain ⟨hj, o, ho, _⟩ := mem_ready.1 hi'
      have hlt := (Array.getElem?_eq_some_iff.1 ho).1
      have hge : i ≤ i' := by
        rcases Nat.lt_or_ge i' i with g | g
        · rw [getD_tf (by omega), (hl i' hlt).2 g] at hj; cases hj
        · exact g
      have hsh : Shut ops listed := fun x hx j hjx => by
        have hxs : x < ops.size := by
          rcases Nat.lt_or_ge x ops.size with g | g
          · exact g
          · simp [Array.getD, show ¬ x < listed.size by omega] at hx
        have hxi := (hl x hxs).1 hx
        have : j < x := by
          unfold preds at hjx
          cases hox : ops[x]? with
          | none => rw [hox] at hjx; cases hjx
          | some ox =>
            rw [hox] at hjx
            simp only [List.mem_filterMap] at hjx
            obtain ⟨e, he, hb⟩ := hjx
            split at hb
            · rename_i hbb; simp at hb; subst hb; exact wf_after hwf hox e (by simpa using he) hbb
            · cases hb
        exact (hl j (by omega)).2 (by omega)
      obtain rfl : i' = i := by
        rcases Nat.lt_or_ge i i' with g | g
        · have := anc_in hsh ops.size i' hp i (forced_at hfo (by omega) hlt i g)
          rw [hun] at this; cases this
        · omega
      rw [List.range'_succ, wpOpsIn_cons] at h
      refine wpOpIn_mono (fun a w h => ih (i' + 1) _ a w f (by omega) (by omega) (by simpa using hsz) (fun j hjs => ?_) (by omega) h) h
      by_cases hij : i' = j
      · subst hij
        have hb : i' < listed.size := by omega
        simp [Array.getD, hb]
      · rw [getD_set_ne false hij, hl j hjs]; omega
theorem head_in (hF : F.fn = fun _ => True) (hd : F.depth = none) (ha : F.alive = false) (hnd : noDefer ops = true) {m : Nat} (hm : m < ops.size) (hfo : forced ops m = true) (hwf : wfB ops T0.size = true) (hob : ∀ Q' : Exit → Act → World → Prop, Obs P ops Q' sp T0 D0 w0 (ops.toList.take m))
    (hfin : ∀ T w, Below w0.heap.size w0 w → (∀ t, Free ops t → T[t]? = T0[t]?) → T.size = T0.size → (∀ j d, j < m → dstOf ops j = some d → ∃ v, T[d]? = some v ∧ Rt sp d v w) → wpOpsIn F n P ops Q (List.range' m (ops.size - m)) ⟨T, D0⟩ w) :
    ∀ (fuel : Nat) (listed : Array Bool) (a : Act) (w : World), left ops.size listed ≤ fuel → Inv ops sp T0 D0 w0 listed a w → Shut ops listed → (∀ i, m ≤ i → listed.getD i false = false) → wpAnyIn F n P .any ops Q fuel listed a w := by
  intro fuel
  induction fuel with
  | zero =>
    intro listed a w hl hI _ hno
    exfalso
    have h0 : left ops.size listed = 0 := by omega
    have := List.countP_eq_zero.1 h0 m (List.mem_range.2 hm)
    have hsz := hI.2.2.2.2.1
    rw [getD_tf (by omega), hno m (Nat.le_refl _)] at this
    simp at this
  | succ fuel ih =>
    intro listed a w hl hI hsh hno
    have hsz := hI.2.2.2.2.1
    refine ⟨fun hr => ?_, fun i hi => ?_⟩
    · have := all_listed hwf hsz hr m hm
      rw [getD_tf (by omega), hno m (Nat.le_refl _)] at this
      cases this
    obtain ⟨hun, o, ho, hall⟩ := mem_ready.1 hi
    have hp := ready_preds hsz (fun ho => wf_after hwf ho) hi
    have hlt : i < ops.size := (Array.getElem?_eq_some_iff.1 ho).1
    have hdec : left ops.size (listed.setIfInBounds i true) ≤ fuel := by
      have : left ops.size (listed.setIfInBounds i true) < left ops.size listed := countP_lt (fun x _ hx => by
          by_cases hix : i = x
          · subst hix
            have hb : i < listed.size := by omega
            simp [Array.getD, hb] at hx
          · rwa [getD_set_ne true hix] at hx) ⟨i, List.mem_range.2 hlt, by rw [hun]; rfl, by
            have hb : i < listed.size := by omega
            simp [Array.getD, hb]⟩
      omega
    obtain ⟨T, D⟩ := a
    obtain rfl : D = D0 := hI.2.1
    rcases Nat.lt_or_ge i m with him | him
    · have hob' := (hob fun _ _ _ => False).get (i := i) (o := o) (by rw [List.getElem?_take_of_lt him]; simpa using ho)
      have hst := hob' T w (fun a' w' => wpAnyIn F n P .any ops Q fuel (listed.setIfInBounds i true) a' w') hI.1 hI.2.2.1
        (fun j d ⟨e, he, hej, hb⟩ hjd => by subst hej; exact hI.2.2.2.2.2 e.on d (hall e he hb) hjd)
        (fun v w' hb hv => ih _ _ _ hdec (hI.next hwf ho hb hv) (fun x hx j hj => by
          by_cases hij : i = j
          · subst hij
            have hb : i < listed.size := by omega
            simp [Array.getD, hb]
          · rw [getD_set_ne false hij]
            by_cases hix : i = x
            · subst hix; exact hp j hj
            · rw [getD_set_ne false hix] at hx; exact hsh x hx j hj) (fun j hj => by rw [getD_set_ne false (by omega)]; exact hno j hj))
      unfold wpOpIn
      simp only [ho]
      split
      · rename_i hw
        rw [if_pos hw] at hst
        have := op_in (n := n) hF hd ha (noDefer_at hnd ho) hst
        refine _root_.Go.Proofs.YtfimejmmcfdgaaaDoor.Oper.wpIn_exits ?_ this
        intro e a w h
        exact h.elim
      · rename_i hw; rw [if_neg hw] at hst; exact ⟨fun f _ => by rw [hF]; trivial, hst⟩
    · have hanc := anc_in hsh ops.size i hp
      obtain rfl : i = m := by
        rcases Nat.lt_or_ge m i with g | g
        · have := hanc m (forced_at hfo him hlt m g)
          rw [hno m (Nat.le_refl _)] at this; cases this
        · omega
      have hfull : ∀ j, j < i → listed.getD j false = true := fun j hj => hanc j (forced_at hfo (Nat.le_refl _) hlt j hj)
      have h := hfin T w hI.1 hI.2.2.1 hI.2.2.2.1 (fun j d hj hjd => hI.2.2.2.2.2 j d (hfull j hj) hjd)
      obtain ⟨k, hk⟩ : ∃ k, ops.size - i = k + 1 := ⟨ops.size - i - 1, by omega⟩
      rw [hk, List.range'_succ, wpOpsIn_cons] at h
      refine wpOpIn_mono (fun a w h => tail_in hwf hfo k (i + 1) _ a w fuel (by omega) (by omega) (by simpa using hsz) (fun j hjs => ?_) hdec h) h
      by_cases hij : i = j
      · subst hij
        have hb : i < listed.size := by omega
        simp [Array.getD, hb]
      · rw [getD_set_ne false hij]
        constructor
        · intro e
          rcases Nat.lt_or_ge j i with g | g
          · omega
          · rw [hno j g] at e; cases e
        · intro g; exact hfull j (by omega)
theorem region_head_in {id : Nat} (sp : Told) (m : Nat) (hF : F.fn = fun _ => True) (hd : F.depth = none) (ha : F.alive = false) (hnd : noDefer ops = true) (hm : m < ops.size) (hfo : forced ops m = true) (hmx : P.follows .mixedOrders = true) (hwf : wfB ops T0.size = true) (hob : ∀ Q' : Exit → Act → World → Prop, Obs P ops Q' sp T0 D0 w0 (ops.toList.take m))
    (hfin : ∀ T w, Below w0.heap.size w0 w → (∀ t, Free ops t → T[t]? = T0[t]?) → T.size = T0.size → (∀ j d, j < m → dstOf ops j = some d → ∃ v, T[d]? = some v ∧ Rt sp d v w) → wpOpsIn F n P ops Q (List.range' m (ops.size - m)) ⟨T, D0⟩ w) :
    (Code.region id ops true).wpIn F n P Q ⟨T0, D0⟩ w0 := by
  have hz : ∀ i, (Array.replicate ops.size false).getD i false = false := fun i => by
    by_cases hb : i < ops.size
    · simp [Array.getD, hb]
    · simp [Array.getD, hb]
  refine wpIn_region_any hmx (head_in hF hd ha hnd hm hfo hwf hob hfin _ _ _ _ ?_ ?_ (fun i hi => by rw [hz] at hi; cases hi) (fun i _ => hz i))
  · have := List.countP_le_length (p := fun j => !(Array.replicate ops.size false).getD j true) (l := List.range ops.size)
    unfold left
    simpa using this
  · exact ⟨(Below.refl w0.heap.size w0).drew, rfl, fun t _ => rfl, rfl, by simp, fun j d hj _ => by rw [hz] at hj; cases hj⟩
end
end Go.Proofs.YtfimejmmcfdgaaaDoor


/- A region whose last operations wait, each, for all ahead of them, and write slots that the operations ahead of them read. -/
namespace Go.Proofs.YtfimejmmcfdgaaaDoor
open Go.ChangeShapes Go.WideShapes Go.ChangeAt Go.RowKit
/-- A slot that none of the first m operations writes. -/
def FreeM (ops : Array Oper) (m t : Nat) : Prop := ∀ j, j < m → dstOf ops j ≠ some t
def freeMB (ops : Array Oper) (m t : Nat) : Bool := (List.range m).all fun j => decide (dstOf ops j ≠ some t)
theorem freeM_of {ops : Array Oper} {m t : Nat} (h : freeMB ops m t = true) : FreeM ops m t := fun j hj => by
  have := List.all_eq_true.1 h j (List.mem_range.2 hj)
  simpa using this
section
variable {F : Fence} {n : Nat} {P : Program} {ops : Array Oper} {Q : Exit → Act → World → Prop} {sp : Told} {T0 : Array Value} {D0 : List Deferred} {w0 : World}

/-- What is asked of operation o. -/
def ObM (m : Nat) (P : Program) (ops : Array Oper) (Q : Exit → Act → World → Prop) (sp : Told) (T0 : Array Value) (D0 : List Deferred) (w0 : World) (o : Oper) : Prop :=
  ∀ (T : Array Value) (w : World) (K : Act → World → Prop), Below w0.heap.size w0 w → (∀ t, FreeM ops m t → T[t]? = T0[t]?) →
    (∀ j d, (∃ e ∈ o.after, e.on = j ∧ Region.binds .any e = true) → dstOf ops j = some d → ∃ v, T[d]? = some v ∧ Rt sp d v w) →
    (∀ v w', Below w.heap.size w w' → (∀ d, o.dst = some d → Rt sp d v w') → K (Act.put ⟨T, D0⟩ o.dst v) w') →
    if Region.wanted o (yielded ops T) = true then Oper.wp P o ⟨T, D0⟩ w K Q else K (Act.put ⟨T, D0⟩ o.dst undef) w
def ObsM (m : Nat) (P : Program) (ops : Array Oper) (Q : Exit → Act → World → Prop) (sp : Told) (T0 : Array Value) (D0 : List Deferred) (w0 : World) : List Oper → Prop
  | [] => True
  | o :: r => ObM m P ops Q sp T0 D0 w0 o ∧ ObsM m P ops Q sp T0 D0 w0 r
theorem ObsM.get {m : Nat} : ∀ {l : List Oper} {i : Nat} {o : Oper}, ObsM m P ops Q sp T0 D0 w0 l → l[i]? = some o → ObM m P ops Q sp T0 D0 w0 o
  | [], _, _, _, h => by simp at h
  | x :: r, 0, o, h, e => by simp at e; subst e; exact h.1
  | x :: r, i + 1, o, h, e => ObsM.get (l := r) (i := i) h.2 (by simpa using e)

/-- What holds while the region runs. -/
def InvM (m : Nat) (ops : Array Oper) (sp : Told) (T0 : Array Value) (D0 : List Deferred) (w0 : World) (listed : Array Bool) (a : Act) (w : World) : Prop :=
  Below w0.heap.size w0 w ∧ a.defers = D0 ∧ (∀ t, FreeM ops m t → a.tmps[t]? = T0[t]?) ∧ a.tmps.size = T0.size ∧ listed.size = ops.size ∧
    ∀ j d, listed.getD j false = true → dstOf ops j = some d → ∃ v, a.tmps[d]? = some v ∧ Rt sp d v w
theorem InvM.next {m : Nat} {listed : Array Bool} {T : Array Value} {w w' : World} {i : Nat} {o : Oper} {v : Value} (hwf : wfB ops T0.size = true) (him : i < m) (ho : ops[i]? = some o)
    (h : InvM m ops sp T0 D0 w0 listed ⟨T, D0⟩ w) (hb : Below w.heap.size w w') (hv : ∀ d, o.dst = some d → Rt sp d v w') :
    InvM m ops sp T0 D0 w0 (listed.setIfInBounds i true) (Act.put ⟨T, D0⟩ o.dst v) w' := by
  obtain ⟨h1, _, h3, h4, h5, h6⟩ := h
  have hB : Below w0.heap.size w0 w' := h1.trans (hb.mono h1.size)
  have hdi : dstOf ops i = o.dst := by unfold dstOf; rw [ho]; rfl
  cases hd : o.dst with
  | none =>
    refine ⟨hB, rfl, h3, h4, by simpa using h5, fun j d hj hjd => ?_⟩
    have hne : i ≠ j := fun e => by subst e; rw [hdi, hd] at hjd; cases hjd
    rw [getD_set_ne false hne] at hj
    obtain ⟨u, hu, hr⟩ := h6 j d hj hjd
    exact ⟨u, hu, hr.keep hb⟩
  | some d0 =>
    rw [hd] at hdi
    have hlt := (wf_dst hwf hdi).1
    refine ⟨hB, rfl, fun t ht => ?_, ?_, by simpa using h5, fun j d hj hjd => ?_⟩
    · have hne : d0 ≠ t := fun e => ht i him (by rw [hdi, e])
      show (T.setIfInBounds d0 v)[t]? = _
      rw [Array.getElem?_setIfInBounds_ne hne]
      exact h3 t ht
    · show (T.setIfInBounds d0 v).size = _
      simpa using h4
    · show ∃ u, (T.setIfInBounds d0 v)[d]? = some u ∧ Rt sp d u w'
      by_cases hij : i = j
      · subst hij
        obtain rfl : d0 = d := Option.some.inj (hdi.symm.trans hjd)
        exact ⟨v, by rw [Array.getElem?_setIfInBounds_self_of_lt (by simp at h4; omega)], hv d0 hd⟩
      · rw [getD_set_ne false hij] at hj
        obtain ⟨u, hu, hr⟩ := h6 j d hj hjd
        have hne : d0 ≠ d := fun e => hij (wf_inj hwf (hdi.trans (by rw [e])) hjd)
        exact ⟨u, by rw [Array.getElem?_setIfInBounds_ne hne]; exact hu, hr.keep hb⟩

theorem headM_in (hF : F.fn = fun _ => True) (hd : F.depth = none) (ha : F.alive = false) (hnd : noDefer ops = true) {m : Nat} (hm : m < ops.size) (hfo : forced ops m = true) (hwf : wfB ops T0.size = true) (hob : ∀ Q' : Exit → Act → World → Prop, ObsM m P ops Q' sp T0 D0 w0 (ops.toList.take m))
    (hfin : ∀ T w, Below w0.heap.size w0 w → (∀ t, FreeM ops m t → T[t]? = T0[t]?) → T.size = T0.size → (∀ j d, j < m → dstOf ops j = some d → ∃ v, T[d]? = some v ∧ Rt sp d v w) → wpOpsIn F n P ops Q (List.range' m (ops.size - m)) ⟨T, D0⟩ w) :
    ∀ (fuel : Nat) (listed : Array Bool) (a : Act) (w : World), left ops.size listed ≤ fuel → InvM m ops sp T0 D0 w0 listed a w → Shut ops listed → (∀ i, m ≤ i → listed.getD i false = false) → wpAnyIn F n P .any ops Q fuel listed a w := by
  intro fuel
  induction fuel with
  | zero =>
    intro listed a w hl hI _ hno
    exfalso
    have h0 : left ops.size listed = 0 := by omega
    have := List.countP_eq_zero.1 h0 m (List.mem_range.2 hm)
    have hsz := hI.2.2.2.2.1
    rw [getD_tf (by omega), hno m (Nat.le_refl _)] at this
    simp at this
  | succ fuel ih =>
    intro listed a w hl hI hsh hno
    have hsz := hI.2.2.2.2.1
    refine ⟨fun hr => ?_, fun i hi => ?_⟩
    · have := all_listed hwf hsz hr m hm
      rw [getD_tf (by omega), hno m (Nat.le_refl _)] at this
      cases this
    obtain ⟨hun, o, ho, hall⟩ := mem_ready.1 hi
    have hp := ready_preds hsz (fun ho => wf_after hwf ho) hi
    have hlt : i < ops.size := (Array.getElem?_eq_some_iff.1 ho).1
    have hdec : left ops.size (listed.setIfInBounds i true) ≤ fuel := by
      have : left ops.size (listed.setIfInBounds i true) < left ops.size listed := countP_lt (fun x _ hx => by
          by_cases hix : i = x
          · subst hix
            have hb : i < listed.size := by omega
            simp [Array.getD, hb] at hx
          · rwa [getD_set_ne true hix] at hx) ⟨i, List.mem_range.2 hlt, by rw [hun]; rfl, by
            have hb : i < listed.size := by omega
            simp [Array.getD, hb]⟩
      omega
    obtain ⟨T, D⟩ := a
    obtain rfl : D = D0 := hI.2.1
    rcases Nat.lt_or_ge i m with him | him
    · have hob' := (hob fun _ _ _ => False).get (i := i) (o := o) (by rw [List.getElem?_take_of_lt him]; simpa using ho)
      have hst := hob' T w (fun a' w' => wpAnyIn F n P .any ops Q fuel (listed.setIfInBounds i true) a' w') hI.1 hI.2.2.1
        (fun j d ⟨e, he, hej, hb⟩ hjd => by subst hej; exact hI.2.2.2.2.2 e.on d (hall e he hb) hjd)
        (fun v w' hb hv => ih _ _ _ hdec (hI.next hwf him ho hb hv) (fun x hx j hj => by
          by_cases hij : i = j
          · subst hij
            have hb : i < listed.size := by omega
            simp [Array.getD, hb]
          · rw [getD_set_ne false hij]
            by_cases hix : i = x
            · subst hix; exact hp j hj
            · rw [getD_set_ne false hix] at hx; exact hsh x hx j hj) (fun j hj => by rw [getD_set_ne false (by omega)]; exact hno j hj))
      unfold wpOpIn
      simp only [ho]
      split
      · rename_i hw
        rw [if_pos hw] at hst
        have := op_in (n := n) hF hd ha (noDefer_at hnd ho) hst
        refine _root_.Go.Proofs.YtfimejmmcfdgaaaDoor.Oper.wpIn_exits ?_ this
        intro e a w h
        exact h.elim
      · rename_i hw; rw [if_neg hw] at hst; exact ⟨fun f _ => by rw [hF]; trivial, hst⟩
    · have hanc := anc_in hsh ops.size i hp
      obtain rfl : i = m := by
        rcases Nat.lt_or_ge m i with g | g
        · have := hanc m (forced_at hfo him hlt m g)
          rw [hno m (Nat.le_refl _)] at this; cases this
        · omega
      have hfull : ∀ j, j < i → listed.getD j false = true := fun j hj => hanc j (forced_at hfo (Nat.le_refl _) hlt j hj)
      have h := hfin T w hI.1 hI.2.2.1 hI.2.2.2.1 (fun j d hj hjd => hI.2.2.2.2.2 j d (hfull j hj) hjd)
      obtain ⟨k, hk⟩ : ∃ k, ops.size - i = k + 1 := ⟨ops.size - i - 1, by omega⟩
      rw [hk, List.range'_succ, wpOpsIn_cons] at h
      refine wpOpIn_mono (fun a w h => tail_in hwf hfo k (i + 1) _ a w fuel (by omega) (by omega) (by simpa using hsz) (fun j hjs => ?_) hdec h) h
      by_cases hij : i = j
      · subst hij
        have hb : i < listed.size := by omega
        simp [Array.getD, hb]
      · rw [getD_set_ne false hij]
        constructor
        · intro e
          rcases Nat.lt_or_ge j i with g | g
          · omega
          · rw [hno j g] at e; cases e
        · intro g; exact hfull j (by omega)
theorem region_headM {id : Nat} (sp : Told) (m : Nat) (hF : F.fn = fun _ => True) (hd : F.depth = none) (ha : F.alive = false) (hnd : noDefer ops = true) (hm : m < ops.size) (hfo : forced ops m = true) (hmx : P.follows .mixedOrders = true) (hwf : wfB ops T0.size = true) (hob : ∀ Q' : Exit → Act → World → Prop, ObsM m P ops Q' sp T0 D0 w0 (ops.toList.take m))
    (hfin : ∀ T w, Below w0.heap.size w0 w → (∀ t, FreeM ops m t → T[t]? = T0[t]?) → T.size = T0.size → (∀ j d, j < m → dstOf ops j = some d → ∃ v, T[d]? = some v ∧ Rt sp d v w) → wpOpsIn F n P ops Q (List.range' m (ops.size - m)) ⟨T, D0⟩ w) :
    (Code.region id ops true).wpIn F n P Q ⟨T0, D0⟩ w0 := by
  have hz : ∀ i, (Array.replicate ops.size false).getD i false = false := fun i => by
    by_cases hb : i < ops.size
    · simp [Array.getD, hb]
    · simp [Array.getD, hb]
  refine wpIn_region_any hmx (headM_in hF hd ha hnd hm hfo hwf hob hfin _ _ _ _ ?_ ?_ (fun i hi => by rw [hz] at hi; cases hi) (fun i _ => hz i))
  · have := List.countP_le_length (p := fun j => !(Array.replicate ops.size false).getD j true) (l := List.range ops.size)
    unfold left
    simpa using this
  · exact ⟨(Below.refl w0.heap.size w0).drew, rfl, fun t _ => rfl, rfl, by simp, fun j d hj _ => by rw [hz] at hj; cases hj⟩
end
theorem obsM_nil {m : Nat} {P : Program} {ops : Array Oper} {Q : Exit → Act → World → Prop} {sp : Told} {T0 : Array Value} {D0 : List Deferred} {w0 : World} : ObsM m P ops Q sp T0 D0 w0 [] := trivial
theorem obsM_cons {m : Nat} {P : Program} {ops : Array Oper} {Q : Exit → Act → World → Prop} {sp : Told} {T0 : Array Value} {D0 : List Deferred} {w0 : World} {o : Oper} {r : List Oper} (h : ObM m P ops Q sp T0 D0 w0 o) (g : ObsM m P ops Q sp T0 D0 w0 r) : ObsM m P ops Q sp T0 D0 w0 (o :: r) := ⟨h, g⟩
end Go.Proofs.YtfimejmmcfdgaaaDoor


/- A region that draws its order, in the middle of a function: behind it the frame is concrete again. -/
namespace Go.Proofs.YtfimejmmcfdgaaaDoor
open Go.ChangeShapes Go.WideShapes Go.ChangeAt Go.RowKit
set_option linter.unusedVariables false

theorem conc_aux {T : Array Value} : ∀ (l : List (Nat × Value)) (A : Array Value), A.size = T.size → (∀ p ∈ l, T[p.1]? = some p.2) → (∀ t, A[t]? = T[t]? ∨ ∃ p ∈ l, p.1 = t) → l.foldl (fun A p => A.setIfInBounds p.1 p.2) A = T
  | [], A, hs, hl, hA => by
    show A = T
    refine Array.ext hs fun i h1 h2 => ?_
    have := hA i
    rcases this with h | ⟨p, hp, _⟩
    · rw [Array.getElem?_eq_getElem h1, Array.getElem?_eq_getElem h2] at h
      exact Option.some.inj h
    · simp at hp
  | p :: l, A, hs, hl, hA => by
    refine conc_aux l _ (by simpa using hs) (fun q hq => hl q (List.mem_cons_of_mem _ hq)) fun t => ?_
    by_cases e : t = p.1
    · subst e
      left
      have h := hl p List.mem_cons_self
      have hlt : p.1 < T.size := by
        rcases Nat.lt_or_ge p.1 T.size with g | g
        · exact g
        · rw [Array.getElem?_eq_none g] at h; cases h
      rw [h, Array.getElem?_setIfInBounds_self_of_lt (by omega)]
    · rcases hA t with h | ⟨q, hq, e2⟩
      · left
        rw [Array.getElem?_setIfInBounds_ne (by omega)]
        exact h
      · rcases List.mem_cons.1 hq with rfl | hq
        · exact absurd e2.symm e
        · exact .inr ⟨q, hq, e2⟩
theorem conc {T T0 : Array Value} {ops : Array Oper} {m : Nat} (l : List (Nat × Value)) (hs : T.size = T0.size) (hF : ∀ t, FreeM ops m t → T[t]? = T0[t]?) (hl : ∀ p ∈ l, T[p.1]? = some p.2) (hc : ((List.range m).all fun j => (dstOf ops j).all fun t => l.any fun p => p.1 == t) = true) : T = l.foldl (fun A p => A.setIfInBounds p.1 p.2) T0 := by
  refine (conc_aux l T0 hs.symm hl fun t => ?_).symm
  by_cases h : FreeM ops m t
  · exact .inl (hF t h).symm
  · right
    obtain ⟨j, hj⟩ := Classical.not_forall.1 h
    obtain ⟨hjm, hd⟩ := Classical.not_imp.1 hj
    have hd : dstOf ops j = some t := Classical.not_not.1 hd
    have := List.all_eq_true.1 hc j (List.mem_range.2 hjm)
    rw [hd] at this
    obtain ⟨p, hp, e⟩ := List.any_eq_true.1 (show (l.any fun p => p.1 == t) = true from this)
    exact ⟨p, hp, by simpa using e⟩
/-- The same for a region whose operations are all told. -/
theorem concF {T T0 : Array Value} {ops : Array Oper} (l : List (Nat × Value)) (hs : T.size = T0.size) (hF : ∀ t, Free ops t → T[t]? = T0[t]?) (hl : ∀ p ∈ l, T[p.1]? = some p.2) (hc : ((List.range ops.size).all fun j => (dstOf ops j).all fun t => l.any fun p => p.1 == t) = true) : T = l.foldl (fun A p => A.setIfInBounds p.1 p.2) T0 :=
  conc l hs (fun t ht => hF t (fun j hj => by
    by_cases h : j < ops.size
    · exact ht j h hj
    · unfold dstOf at hj
      rw [Array.getElem?_eq_none (by omega)] at hj
      cases hj)) hl hc
end Go.Proofs.YtfimejmmcfdgaaaDoor


