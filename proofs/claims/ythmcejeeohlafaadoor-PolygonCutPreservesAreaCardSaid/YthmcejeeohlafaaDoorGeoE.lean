/- Contracts of package geom: the two folds, BoundingBox, BoxDistance. Condition: the cells of the slice read as the list says. -/
import Derived.Test.YthmcejeeohlafaaDoorGeoB
namespace Go.Proofs.YthmcejeeohlafaaDoor
open Go.ChangeShapes Go.WideShapes Go.ChangeAt Go.RowKit

/-- The slice reads as the list l. -/
def PRow (w : World) (ao : Option Addr) (l : List (Int × Int)) : Prop := ∀ i, i < l.length → ∃ b o, ao = some ⟨b, o, none⟩ ∧ w.cell? ⟨b, o + i * 2, none⟩ = some (.int .i64 (l.getD i (0, 0)).1) ∧ w.cell? ⟨b, o + i * 2 + 1, none⟩ = some (.int .i64 (l.getD i (0, 0)).2)
def foldP (f : Int × Int → Int × Int → Int × Int) : List (Int × Int) → Int × Int
  | [] => (0, 0)
  | x :: r => r.foldl f x
def lowP (x y : Int × Int) : Int × Int := (mnI x.1 y.1, mnI x.2 y.2)
def uppP (x y : Int × Int) : Int × Int := (mxI x.1 y.1, mxI x.2 y.2)
theorem foldP_one (f : Int × Int → Int × Int → Int × Int) (l : List (Int × Int)) (h : 0 < l.length) : foldP f (l.take 1) = l.getD 0 (0, 0) := by
  cases l with
  | nil => simp at h
  | cons x r => simp [foldP]
theorem foldP_succ (f : Int × Int → Int × Int → Int × Int) (l : List (Int × Int)) (k : Nat) (h0 : 0 < k) (h : k < l.length) : foldP f (l.take (k + 1)) = f (foldP f (l.take k)) (l.getD k (0, 0)) := by
  cases l with
  | nil => simp at h
  | cons x r =>
    obtain ⟨k, rfl⟩ : ∃ j, k = j + 1 := ⟨k - 1, by omega⟩
    simp only [List.length_cons, Nat.add_lt_add_iff_right] at h
    simp only [List.take_succ_cons, foldP, List.getD_cons_succ]
    rw [List.take_succ_eq_append_getElem h, List.foldl_append]
    simp [List.getD_eq_getElem?_getD, h]
theorem cbe (w : World) (vs : Array Value) (T : TypeId) (n j : Nat) (v : Value) (h : w.heap.size = n) (hj : vs[j]? = some v) : (w.alloc (.cells vs T)).cell? ⟨n, j, none⟩ = some v := by
  subst h
  simp [hj]
theorem fz_call {w w1 : World} {p : Addr} (h : w.frozen? p = false) (z : p.block < w.heap.size) (hb : Below w.heap.size w w1) : w1.frozen? p = false := (hb.frozen z).trans h

/-- The slice of integers reads as the list l. -/
def IRow (w : World) (ao : Option Addr) (l : List Int) : Prop := ∀ i, i < l.length → ∃ b o, ao = some ⟨b, o, none⟩ ∧ w.cell? ⟨b, o + i, none⟩ = some (.int .i64 (l.getD i 0))
def foldI : List Int → Int
  | [] => 0
  | x :: r => r.foldl mxI x
theorem foldI_one (l : List Int) (h : 0 < l.length) : foldI (l.take 1) = l.getD 0 0 := by
  cases l with
  | nil => simp at h
  | cons x r => simp [foldI]
theorem foldI_succ (l : List Int) (k : Nat) (h0 : 0 < k) (h : k < l.length) : foldI (l.take (k + 1)) = mxI (foldI (l.take k)) (l.getD k 0) := by
  cases l with
  | nil => simp at h
  | cons x r =>
    obtain ⟨k, rfl⟩ : ∃ j, k = j + 1 := ⟨k - 1, by omega⟩
    simp only [List.length_cons, Nat.add_lt_add_iff_right] at h
    simp only [List.take_succ_cons, foldI, List.getD_cons_succ]
    rw [List.take_succ_eq_append_getElem h, List.foldl_append]
    simp [List.getD_eq_getElem?_getD, h]

theorem prow_below {w w' : World} {ao : Option Addr} {l : List (Int × Int)} (h : PRow w ao l) (hb : Below w.heap.size w w') : PRow w' ao l := fun i hi => by
  obtain ⟨b, o, rfl, c1, c2⟩ := h i hi
  exact ⟨b, o, rfl, (hb.cell (World.block_lt_of_cell? w _ c1)).trans c1, (hb.cell (World.block_lt_of_cell? w _ c2)).trans c2⟩
theorem prow_alloc {w : World} {ao : Option Addr} {l : List (Int × Int)} (h : PRow w ao l) (x : Obj) : PRow (w.alloc x) ao l := prow_below h (belA (Below.refl _ _) x)

end Go.Proofs.YthmcejeeohlafaaDoor
