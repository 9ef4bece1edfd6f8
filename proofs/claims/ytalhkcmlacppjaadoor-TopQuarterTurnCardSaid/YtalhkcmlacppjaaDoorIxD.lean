/- Contract of package intersect: SeparatingEdge. Conditions: the slices read as the lists say; the coordinates are in range. -/
import Derived.Test.YtalhkcmlacppjaaDoorIxC
namespace Go.Proofs.YtalhkcmlacppjaaDoor
open Go.ChangeShapes Go.WideShapes Go.ChangeAt Go.RowKit
attribute [local go_sem] Oper.semAt_some
set_option linter.unusedVariables false
set_option linter.unusedSimpArgs false

/-- What SeparatingEdge returns: the polygon, the edge, whether there is one. -/
def sepT (a b : List (Int × Int)) : Int × Int × Bool := if 0 ≤ firstI (rightB a b) a.length then (0, firstI (rightB a b) a.length, true) else if 0 ≤ firstI (rightB b a) b.length then (1, firstI (rightB b a) b.length, true) else (0, 0, false)
theorem upE_last {n k : Nat} {h : 0 < n} {p : List {i : Nat // i < n}} {x : {i : Nat // i < n}} (hk : k ≤ n) (e : p ++ [x] = upE n h k) : vals p = List.range x.1 := by
  have e2 : vals p ++ [x.1] = List.range k := by rw [← vals_snoc, e]; exact upE_vals n h k hk
  match k with
  | 0 => simp at e2
  | k + 1 =>
    rw [List.range_succ] at e2
    obtain ⟨q1, q2⟩ := List.append_inj' e2 rfl
    have : x.1 = k := by simpa using q2
    rw [this]
    exact q1
theorem def_own {β : Type} {D B : Nat} (h : D < B) (o : Obj) : OwnFrom B (fun (_ : β) W => W.heap[D]? = some o) := fun s X Y row hs hg hr => (hg.block D (blk_lt hs) (fun e => by have := (hr D e.symm).1; omega)).trans hs

theorem blk_keep {B b : Nat} {vs : Array Value} {T : TypeId} {X Y : World} {row : Option Nat} (h : X.heap[b]? = some (.cells vs T (0, 0))) (hg : X.grownBy Y row) (hr : ∀ r, row = some r → B ≤ r ∧ ∃ o : Obj, X.heap[r]? = some o ∧ o.isCells = false) : Y.heap[b]? = some (.cells vs T (0, 0)) :=
  (hg.block b (blk_lt h) (fun e => by obtain ⟨_, o, ho, hc⟩ := hr b e.symm; rw [h] at ho; cases ho; cases hc)).trans h

theorem three_set {w2 : World} {S T n B : Nat} {u0 u1 b0 x0 x1 y : Value} {TS TT : TypeId} (hS : w2.heap[S]? = some (.cells #[u0, u1] TS (0, 0))) (hT : w2.heap[T]? = some (.cells #[b0] TT (0, 0))) (hne : T ≠ S) (h1 : n ≤ S) (h2 : n ≤ T) :
    (((w2.setCell ⟨S, 0, none⟩ x0).setCell ⟨S, 1, none⟩ x1).setCell ⟨T, 0, none⟩ y).heap[S]? = some (.cells #[x0, x1] TS (0, 0)) ∧ (((w2.setCell ⟨S, 0, none⟩ x0).setCell ⟨S, 1, none⟩ x1).setCell ⟨T, 0, none⟩ y).heap[T]? = some (.cells #[y] TT (0, 0)) ∧
    Below n w2 (((w2.setCell ⟨S, 0, none⟩ x0).setCell ⟨S, 1, none⟩ x1).setCell ⟨T, 0, none⟩ y) ∧ KeepsFrom B w2 (((w2.setCell ⟨S, 0, none⟩ x0).setCell ⟨S, 1, none⟩ x1).setCell ⟨T, 0, none⟩ y) :=
  ⟨blk_other (blk_set (blk_set hS x0) x1) hne y, blk_set (blk_other (blk_other hT (Ne.symm hne) _) (Ne.symm hne) _) y, (((Below.refl _ _).setCell h1 _).setCell h1 _).setCell h2 _, ((KeepsOthers.setCell _ _ _).from _).trans (((KeepsOthers.setCell _ _ _).from _).trans ((KeepsOthers.setCell _ _ _).from _))⟩
theorem blk_putO {W : World} {b D : Nat} {x : Obj} (h : W.heap[b]? = some x) (hne : D ≠ b) (o : Obj) : (W.putObj D o).heap[b]? = some x := (World.putObj_heap_other (fun e => hne (by omega))).trans h
theorem two_marks {fn : Func} {tmps : Array Value} {R : Ending → World → Prop} {P : Program} {F : Fence} {n : Nat} {W : World} {D1 D2 : Nat} (h2 : W.heap[D2]? = some (.deferred (some []))) (h1 : W.heap[D1]? = some (.deferred (some []))) (hne : D2 ≠ D1) (hR : LeavesIn F n P fn tmps R [] .returning ((W.putObj D2 (.deferred none)).putObj D1 (.deferred none))) :
    LeavesInM F n P fn tmps R [{ target := .collected D2, args := #[] }, { target := .collected D1, args := #[] }] .returning W :=
  ⟨by simp, .inl ⟨D2, _, rfl, run_takeDeferred h2, by simp, .inl ⟨D1, _, rfl, run_takeDeferred (blk_putO h1 hne _), hR⟩⟩⟩

end Go.Proofs.YtalhkcmlacppjaaDoor
