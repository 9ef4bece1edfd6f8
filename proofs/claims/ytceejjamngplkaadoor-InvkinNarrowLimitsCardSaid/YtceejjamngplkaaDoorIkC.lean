/- Rows of joint values in memory; blocks held as they are. -/
import Derived.Test.YtceejjamngplkaaDoorIkB
import Derived.Test.YtceejjamngplkaaDoorRgh
import Derived.Shelf.RegionOpen
import Derived.Maps.AppendAt
namespace Go.Proofs.YtceejjamngplkaaDoor
open Go.ChangeShapes Go.WideShapes Go.ChangeAt Go.RowKit
set_option linter.unusedVariables false
set_option linter.unusedSimpArgs false
set_option maxRecDepth 100000
def jv (q : J3) : Value := .agg #[.int .i64 q.1, .int .i64 q.2.1, .int .i64 q.2.2]
def flat3 : List J3 → List Value
  | [] => []
  | q :: l => .int .i64 q.1 :: .int .i64 q.2.1 :: .int .i64 q.2.2 :: flat3 l
theorem flat3_length (l : List J3) : (flat3 l).length = l.length * 3 := by
  induction l with
  | nil => rfl
  | cons q l ih => simp [flat3, ih]; omega
theorem flat3_append (l m : List J3) : flat3 (l ++ m) = flat3 l ++ flat3 m := by
  induction l with
  | nil => rfl
  | cons q l ih => simp [flat3, ih]
abbrev j0 : J3 := (0, 0, 0)
theorem flat3_get (l : List J3) (i : Nat) (hi : i < l.length) : (flat3 l)[i * 3]? = some (.int .i64 (l.getD i j0).1) ∧ (flat3 l)[i * 3 + 1]? = some (.int .i64 (l.getD i j0).2.1) ∧ (flat3 l)[i * 3 + 2]? = some (.int .i64 (l.getD i j0).2.2) := by
  induction l generalizing i with
  | nil => simp at hi
  | cons q l ih =>
    cases i with
    | zero => exact ⟨rfl, rfl, rfl⟩
    | succ i =>
      have := ih i (by simpa using hi)
      rw [show (i + 1) * 3 = i * 3 + 3 by omega, show i * 3 + 3 + 1 = i * 3 + 1 + 3 by omega, show i * 3 + 3 + 2 = i * 3 + 2 + 3 by omega]
      exact this
/-- The cells at ao are the elements of l, three each. -/
def PRow3 (w : World) (ao : Option Addr) (l : List J3) : Prop := ∀ i, i < l.length → ∃ b o, ao = some ⟨b, o, none⟩ ∧ w.cell? ⟨b, o + i * 3, none⟩ = some (.int .i64 (l.getD i j0).1) ∧ w.cell? ⟨b, o + i * 3 + 1, none⟩ = some (.int .i64 (l.getD i j0).2.1) ∧ w.cell? ⟨b, o + i * 3 + 2, none⟩ = some (.int .i64 (l.getD i j0).2.2)
theorem prow3_below {w w' : World} {ao : Option Addr} {l : List J3} (h : PRow3 w ao l) (hb : Below w.heap.size w w') : PRow3 w' ao l := fun i hi => by
  obtain ⟨b, o, rfl, c1, c2, c3⟩ := h i hi
  exact ⟨b, o, rfl, (hb.cell (World.block_lt_of_cell? w _ c1)).trans c1, (hb.cell (World.block_lt_of_cell? w _ c2)).trans c2, (hb.cell (World.block_lt_of_cell? w _ c3)).trans c3⟩
theorem prow3_alloc {w : World} {ao : Option Addr} {l : List J3} (h : PRow3 w ao l) (x : Obj) : PRow3 (w.alloc x) ao l := prow3_below h (belA (Below.refl _ _) x)
theorem prow3_nil (w : World) (ao : Option Addr) : PRow3 w ao [] := fun i hi => absurd hi (by simp)
theorem prow3_own {w : World} {base : Nat} {e : TypeId} {v : Value} {l : List J3} (h : w.ownsRow base e 3 v l.length (flat3 l)) : ∃ ao cap, v = .slice ao l.length cap ∧ l.length ≤ maxLen ∧ PRow3 w ao l := by
  have h0 := h
  obtain ⟨_, ⟨rfl, hn⟩ | ⟨g, cap, cur, rfl, _, _, hc1, hc2, _⟩⟩ := h
  · have : l = [] := List.length_eq_zero_iff.1 hn
    subst this
    exact ⟨none, 0, rfl, by simp, prow3_nil _ _⟩
  · refine ⟨_, cap, rfl, by omega, fun i hi => ⟨g, 0, rfl, ?_, ?_, ?_⟩⟩
    · rw [Nat.zero_add, h0.cellAt (i * 3) (by omega)]; exact (flat3_get l i hi).1
    · rw [Nat.zero_add, h0.cellAt (i * 3 + 1) (by omega)]; exact (flat3_get l i hi).2.1
    · rw [Nat.zero_add, h0.cellAt (i * 3 + 2) (by omega)]; exact (flat3_get l i hi).2.2
theorem rt_eqS' {sp : ToldS} {d : Nat} {w : World} {v x : Value} (hs : sp.getD d none = some (eqS x)) (h : v = x) : ∀ d', some d = some d' → RtS sp d' v w := by subst h; exact rt_eqS hs
theorem tail_one {F : Fence} {n0 : Nat} {P : Program} {ops : Array Oper} {Q : Exit → Act → World → Prop} {a : Act} {w : World} (hF : F.fn = fun _ => True) (hd : F.depth = none) (ha : F.alive = false) {i0 : Nat} {rest : List Nat} {o : Oper} (hio : ops[i0]? = some o) (hgd : o.guard = none) (hnd : ∀ c, o.op ≠ .defer c)
    (h : Oper.wp P o a w (fun a w => wpOpsIn F n0 P ops Q rest a w) Q) : wpOpsIn F n0 P ops Q (i0 :: rest) a w := by
  rw [wpOpsIn_cons]
  unfold wpOpIn
  simp only [hio]
  rw [if_pos (by simp [Region.wanted, hgd])]
  exact op_in hF hd ha hnd h
/-- Blocks that hold what the list says. -/
abbrev HL := List (Nat × Array Value × TypeId)
def Held (L : HL) (W : World) : Prop := ∀ x ∈ L, W.heap[x.1]? = some (.cells x.2.1 x.2.2 (0, 0))
theorem Held.call {L : HL} {W W' : World} (h : Held L W) (hb : Below W.heap.size W W') : Held L W' := fun x hx => blk_call (h x hx) hb
theorem Held.alloc {L : HL} {W : World} (h : Held L W) (o : Obj) : Held L (W.alloc o) := fun x hx => blk_alloc (h x hx) o
theorem Held.set {L : HL} {W : World} (h : Held L W) {g j : Nat} (hg : ∀ x ∈ L, g ≠ x.1) (v : Value) : Held L (W.setCell ⟨g, j, none⟩ v) := fun x hx => blk_other (h x hx) (hg x hx) v
theorem Held.putO {L : HL} {W : World} (h : Held L W) {D : Nat} {o0 : Obj} (hD : W.heap[D]? = some o0) (hc : o0.isCells = false) (o : Obj) : Held L (W.putObj D o) := fun x hx => by
  refine (World.putObj_heap_other (fun e => ?_)).trans (h x hx)
  have := h x hx
  rw [e] at this
  rw [hD] at this
  cases this
  cases hc
theorem Held.kept {L : HL} {W W' : World} {row : Option Nat} (h : Held L W) (hg : W.grownBy W' row) (hr : ∀ x ∈ L, row ≠ some x.1) : Held L W' := fun x hx => (hg.block x.1 (blk_lt (h x hx)) (fun e => hr x hx e.symm)).trans (h x hx)
theorem held_own {β : Type} (B : Nat) (L : HL) : OwnFrom B (fun (_ : β) W => Held L W) := fun s X Y row hs hg hr => hs.kept hg (fun x hx e => by
  obtain ⟨_, o, ho, hc⟩ := hr x.1 e
  rw [hs x hx] at ho
  cases ho
  cases hc)
theorem Held.row {L : HL} {W : World} {base : Nat} {e : TypeId} {n k : Nat} {v : Value} {xs : List Value} (h : Held L W) (hrow : W.ownsRow base e n v k xs) (hL : ∀ x ∈ L, x.2.2 ≠ e) : ∀ x ∈ L, v.ownBlock ≠ some x.1 := fun x hx e' => by
  rcases hrow.2 with ⟨rfl, _⟩ | ⟨g, cap, cur, rfl, _, hgb, _⟩
  · simp [Value.ownBlock] at e'
  · obtain rfl : g = x.1 := by simpa [Value.ownBlock] using e'
    have := h x hx
    rw [hgb] at this
    simp only [Option.some.injEq, Obj.cells.injEq] at this
    exact hL x hx this.2.1.symm
theorem Held.get {L : HL} {W : World} (h : Held L W) (i : Nat) (x : Nat × Array Value × TypeId) (hi : L[i]? = some x) : W.heap[x.1]? = some (.cells x.2.1 x.2.2 (0, 0)) := h x (List.mem_of_getElem? hi)
theorem Held.lt {L : HL} {W : World} (h : Held L W) : ∀ x ∈ L, x.1 < W.heap.size := fun x hx => blk_lt (h x hx)
theorem Held.kpV {L : HL} {W W' : World} (h : Held L W) (h' : Held L W') {b1 b2 : Nat} {x y : Nat × Array Value × TypeId} (i j : Nat) (hi : L[i]? = some x) (hj : L[j]? = some y) (e1 : x.1 = b1) (e2 : y.1 = b2) : KpV b1 b2 W W' := by
  subst e1
  subst e2
  exact ⟨(h'.get i x hi).trans (h.get i x hi).symm, (h'.get j y hj).trans (h.get j y hj).symm⟩
theorem Held.snoc {L : HL} {W : World} {x : Nat × Array Value × TypeId} (h : Held L W) (hx : W.heap[x.1]? = some (.cells x.2.1 x.2.2 (0, 0))) : Held (L ++ [x]) W := fun y hy => by
  rw [List.mem_append, List.mem_singleton] at hy
  rcases hy with hy | rfl
  · exact h y hy
  · exact hx
theorem Held.sub {L M : HL} {W : World} (h : Held L W) (hs : ∀ x ∈ M, x ∈ L) : Held M W := fun x hx => h x (hs x hx)
theorem Held.ne {L : HL} {W : World} (h : Held L W) {g : Nat} {vs : Array Value} {T : TypeId} (hg : W.heap[g]? = some (.cells vs T (0, 0))) (hL : ∀ x ∈ L, x.2.2 ≠ T) : ∀ x ∈ L, g ≠ x.1 := fun x hx e => by
  have := h x hx
  rw [← e, hg] at this
  simp only [Option.some.injEq, Obj.cells.injEq] at this
  exact hL x hx this.2.1.symm
/-- The variable in block bs holds a row of its own that reads as l. -/
def RowAt (base bs : Nat) (l : List J3) (W : World) : Prop := ∃ v, Boxed W bs 31 v ∧ W.ownsRow base 25 3 v l.length (flat3 l)
theorem rowAt_own {β : Type} (B base bs : Nat) (f : β → List J3) : OwnFrom B (fun s W => RowAt base bs (f s) W) := fun s X Y row hs hg hr => by
  obtain ⟨v, h1, h2⟩ := hs
  obtain ⟨v', g1, g2, _⟩ := (Own.from (holdsRow_own base bs 31 25 3 (fun s => (f s).length) (fun s => flat3 (f s)) (fun _ _ => True)) B) s X Y row ⟨v, h1, h2, trivial⟩ hg hr
  exact ⟨v', g1, g2⟩
theorem grownB {W W' : World} (h : Below W.heap.size W W') : W.grownBy W' none := ⟨h.os, h.tape, h.output, h.size, fun k hk _ => h.block k hk⟩
theorem RowAt.call {base bs : Nat} {l : List J3} {W W' : World} (h : RowAt base bs l W) (hb : Below W.heap.size W W') : RowAt base bs l W' := by
  obtain ⟨v, h1, h2⟩ := h
  exact ⟨v, blk_call h1 hb, h2.kept (grownB hb) (by cases v.ownBlock <;> simp)⟩
theorem RowAt.alloc {base bs : Nat} {l : List J3} {W : World} (h : RowAt base bs l W) (o : Obj) : RowAt base bs l (W.alloc o) := h.call (belA (Below.refl _ _) o)
theorem RowAt.new {base bs : Nat} {W : World} (h : W.heap[bs]? = some (.cells #[.slice none 0 0] 31 (0, 0))) : RowAt base bs [] W := ⟨_, h, World.ownsRow_nil _ _ _ _⟩
theorem keepsFrom_mono {B C : Nat} {W W' : World} (h : KeepsFrom B W W') (hc : B ≤ C) : KeepsFrom C W W' := ⟨h.size, fun j o hj ho hn => h.same j o (by omega) ho hn⟩
section
variable {X Y n0 n1 n2 q0 q1 q2 x1 x2 x3 y1 y2 y3 u1 u2 u3 v1 v2 v3 a1 a2 a3 b1 b2 b3 : Int}
theorem pose_pw (P : Pose X Y n0 n1 n2 q0 q1 q2 x1 x2 x3 y1 y2 y3 u1 u2 u3 v1 v2 v3 a1 a2 a3 b1 b2 b3) : pw X Y n0 n1 q0 q1 = (a2, b2) := by
  unfold pw
  rw [P.e1, P.e2, ← P.g2.1, ← P.g2.2, ← P.g1.1, ← P.g1.2, ← P.f1.1, ← P.f1.2, ← P.f2.1, ← P.f2.2]
theorem pose_pd (P : Pose X Y n0 n1 n2 q0 q1 q2 x1 x2 x3 y1 y2 y3 u1 u2 u3 v1 v2 v3 a1 a2 a3 b1 b2 b3) : pd q0 q1 q2 = (x3, y3) := by
  unfold pd
  rw [P.e1, P.e2, P.e3]
end
end Go.Proofs.YtceejjamngplkaaDoor
