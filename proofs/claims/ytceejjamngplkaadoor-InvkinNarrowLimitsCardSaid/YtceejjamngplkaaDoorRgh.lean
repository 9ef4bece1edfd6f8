/- Tails of drawn regions: stores of whole structs, builds; what a slot holds. -/
import Derived.Test.YtceejjamngplkaaDoorAmJ
import Derived.Test.YtceejjamngplkaaDoorRgf
import Derived.Laws.Tables
import Derived.Laws.Rows
namespace Go.Proofs.YtceejjamngplkaaDoor
open Go.ChangeShapes Go.WideShapes Go.ChangeAt Go.RowKit
set_option linter.unusedVariables false
set_option linter.unusedSimpArgs false
set_option maxRecDepth 100000
theorem eval_tmp {T : Array Value} {D : List Deferred} {t : Nat} {v : Value} (h : T[t]? = some v) : Act.eval ⟨T, D⟩ (.tmp t) = v := by simp [Act.eval, h]
theorem wp_build_to {P : Program} {o : Oper} {a : Act} {w : World} {K : Act → World → Prop} {Q : Exit → Act → World → Prop} (t : TypeId) (parts : Array (Nat × Operand)) (ho : o.op = .build t parts) (cells : Array Value)
    (hc : P.built t (parts.map fun (i, x) => (i, a.eval x)).toList = some cells) (h : K (a.put o.dst (.agg cells)) w) : o.wp P a w K Q :=
  wp_build t parts ho (by rw [hc]; rfl) (by rw [hc]; exact h)
section
variable {F : Fence} {n0 : Nat} {P : Program} {ops : Array Oper} {Q : Exit → Act → World → Prop} {a : Act} {w : World}
theorem below_setRow7 {B g : Nat} {w w' : World} (h : Below B w w') (hg : B ≤ g) (cs : Array Value) : Below B w (w'.setRow g cs) :=
  ⟨h.os, h.tape, h.output, by rw [setRow_size]; exact h.size, fun k hk => (setRow_other w' g k cs (by omega)).trans (h.block k hk)⟩
theorem tail_store (hF : F.fn = fun _ => True) (hd : F.depth = none) (ha : F.alive = false) {i0 : Nat} {rest : List Nat} {o : Oper} (hio : ops[i0]? = some o) (hgd : o.guard = none) (ty : TypeId) (x y : Operand) (ho : o.op = .store ty x y) (hdst : o.dst = none)
    (g : Nat) (cells : Array Value) (hx : a.eval x = .pointer (some ⟨g, 0, none⟩)) (hy : a.eval y = .agg cells) (t : TypeId) (old : Array Value) (hg : w.heap[g]? = some (.cells old t (0, 0))) (hi : (P.info? ty).map (·.size) = some cells.size)
    (hold : old.size = cells.size) (h1 : cells.all (·.oneCell') = true) (h : wpOpsIn F n0 P ops Q rest a (w.setRow g cells)) : wpOpsIn F n0 P ops Q (i0 :: rest) a w := by
  rw [wpOpsIn_cons]
  unfold wpOpIn
  simp only [hio]
  rw [if_pos (by simp [Region.wanted, hgd])]
  exact op_in hF hd ha (by rw [ho]; intro c e; cases e) (wp_store_row ty x y ho g cells hx hy t old hg hi hold h1 (by rw [hdst]; exact h))
end
end Go.Proofs.YtceejjamngplkaaDoor
