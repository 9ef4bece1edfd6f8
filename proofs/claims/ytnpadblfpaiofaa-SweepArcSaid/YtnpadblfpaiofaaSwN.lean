/- Contracts of quarter, turned and way of the statements of layer 6. -/
import Derived.Test.YtnpadblfpaiofaaSwJ
import Derived.Laws.Tables
import Derived.Laws.Rows
import Derived.Laws.CopyOwn
namespace Go.Proofs.Ytnpadblfpaiofaa
open Go.ChangeShapes Go.WideShapes Go.ChangeAt Go.RowKit
set_option linter.unusedVariables false
set_option linter.unusedSimpArgs false

def tabQ : List (Int × Int) := [(65, 0), (63, 16), (60, 25), (56, 33), (52, 39), (39, 52), (33, 56), (25, 60), (16, 63), (0, 65)]
def tabV : Array Value := #[.int .i64 65, .int .i64 0, .int .i64 63, .int .i64 16, .int .i64 60, .int .i64 25, .int .i64 56, .int .i64 33, .int .i64 52, .int .i64 39, .int .i64 39, .int .i64 52, .int .i64 33, .int .i64 56, .int .i64 25, .int .i64 60, .int .i64 16, .int .i64 63, .int .i64 0, .int .i64 65]

theorem build_to {P : Program} {ops : Array Oper} {rest : List Oper} {o : Oper} {a : Act} {w : World} {Q : Exit → Act → World → Prop} (hg : o.guard = none) (t : TypeId) (parts : Array (Nat × Operand)) (ho : o.op = .build t parts) (cells : Array Value)
    (hc : P.built t (parts.map fun (i, x) => (i, a.eval x)).toList = some cells) (h : wpList P ops Q rest (a.put o.dst (.agg cells)) w) : wpList P ops Q (o :: rest) a w :=
  wpList_build hg t parts ho (by rw [hc]; rfl) (by rw [hc]; exact h)
set_option maxRecDepth 100000 in
set_option maxHeartbeats 4000000 in
theorem quarter_is (w : World) : Calls Try.prog 33 #[] w fun e w' => e = .returned (.agg tabV) ∧ Below w.heap.size w w' := by
  go_enter Try.func33, Try.ntmps33
  go_upto_region 1 with fail
  obtain ⟨zs, hzs⟩ : ∃ zs : Array Value, zs = Array.replicate 20 (.int .i64 0) := ⟨_, rfl⟩
  have hb := belA (Below.refl _ w) (.cells #[.int .i64 0, .int .i64 0, .int .i64 0, .int .i64 0, .int .i64 0, .int .i64 0, .int .i64 0, .int .i64 0, .int .i64 0, .int .i64 0, .int .i64 0, .int .i64 0, .int .i64 0, .int .i64 0, .int .i64 0, .int .i64 0, .int .i64 0, .int .i64 0, .int .i64 0, .int .i64 0] 48)
  have y := blk_new w (.cells #[.int .i64 0, .int .i64 0, .int .i64 0, .int .i64 0, .int .i64 0, .int .i64 0, .int .i64 0, .int .i64 0, .int .i64 0, .int .i64 0, .int .i64 0, .int .i64 0, .int .i64 0, .int .i64 0, .int .i64 0, .int .i64 0, .int .i64 0, .int .i64 0, .int .i64 0, .int .i64 0] 48) _ rfl
  generalize w.alloc (.cells #[.int .i64 0, .int .i64 0, .int .i64 0, .int .i64 0, .int .i64 0, .int .i64 0, .int .i64 0, .int .i64 0, .int .i64 0, .int .i64 0, .int .i64 0, .int .i64 0, .int .i64 0, .int .i64 0, .int .i64 0, .int .i64 0, .int .i64 0, .int .i64 0, .int .i64 0, .int .i64 0] 48) = w1 at *
  have Y := Lib.hid y
  have HB := Lib.hid hb
  clear y hb
  refine wp_region_lit ?_
  refine build_to rfl _ _ rfl #[.int .i64 65, .int .i64 0] (by kernel_rfl) ?_
  simp only [Act.put, List.setIfInBounds_toArray, List.set_cons_succ, List.set_cons_zero]
  refine build_to rfl _ _ rfl #[.int .i64 63, .int .i64 16] (by kernel_rfl) ?_
  simp only [Act.put, List.setIfInBounds_toArray, List.set_cons_succ, List.set_cons_zero]
  refine build_to rfl _ _ rfl #[.int .i64 60, .int .i64 25] (by kernel_rfl) ?_
  simp only [Act.put, List.setIfInBounds_toArray, List.set_cons_succ, List.set_cons_zero]
  refine build_to rfl _ _ rfl #[.int .i64 56, .int .i64 33] (by kernel_rfl) ?_
  simp only [Act.put, List.setIfInBounds_toArray, List.set_cons_succ, List.set_cons_zero]
  refine build_to rfl _ _ rfl #[.int .i64 52, .int .i64 39] (by kernel_rfl) ?_
  simp only [Act.put, List.setIfInBounds_toArray, List.set_cons_succ, List.set_cons_zero]
  refine build_to rfl _ _ rfl #[.int .i64 39, .int .i64 52] (by kernel_rfl) ?_
  simp only [Act.put, List.setIfInBounds_toArray, List.set_cons_succ, List.set_cons_zero]
  refine build_to rfl _ _ rfl #[.int .i64 33, .int .i64 56] (by kernel_rfl) ?_
  simp only [Act.put, List.setIfInBounds_toArray, List.set_cons_succ, List.set_cons_zero]
  refine build_to rfl _ _ rfl #[.int .i64 25, .int .i64 60] (by kernel_rfl) ?_
  simp only [Act.put, List.setIfInBounds_toArray, List.set_cons_succ, List.set_cons_zero]
  refine build_to rfl _ _ rfl #[.int .i64 16, .int .i64 63] (by kernel_rfl) ?_
  simp only [Act.put, List.setIfInBounds_toArray, List.set_cons_succ, List.set_cons_zero]
  refine build_to rfl _ _ rfl #[.int .i64 0, .int .i64 65] (by kernel_rfl) ?_
  simp only [Act.put, List.setIfInBounds_toArray, List.set_cons_succ, List.set_cons_zero]
  refine build_to rfl _ _ rfl tabV (by kernel_rfl) ?_
  simp only [Act.put, List.setIfInBounds_toArray, List.set_cons_succ, List.set_cons_zero]
  refine wpList_store_row rfl _ _ _ rfl w.heap.size tabV rfl rfl 48 _ Y.out (by kernel_rfl) rfl (by kernel_rfl) ?_
  have YR := Lib.hid (setRow_heap w1 w.heap.size _ tabV _ _ Y.out)
  have BR := Lib.hid (below_setRow HB.out (Nat.le_refl _) tabV)
  generalize hW : w1.setRow w.heap.size tabV = W2 at *
  go_wp2
  refine bodyPost_ret (results_cell_row (p := 0) (ty := 48) rfl _ _ w.heap.size _ tabV _ _ rfl YR.out Try.underlying48 rfl (by kernel_rfl)) rfl ⟨rfl, BR.out⟩
theorem index_tab (q : Nat) (x y : Int) (hq : q < 10) (h : tabQ.getD q (0, 0) = (x, y)) (w : World) :
    (Instr.index 48 (.agg tabV) (.int .i64 (q : Int))).run Try.prog w = .ok (.agg #[.int .i64 x, .int .i64 y]) w := by
  have hc : q = 0 ∨ q = 1 ∨ q = 2 ∨ q = 3 ∨ q = 4 ∨ q = 5 ∨ q = 6 ∨ q = 7 ∨ q = 8 ∨ q = 9 := by omega
  rcases hc with rfl | rfl | rfl | rfl | rfl | rfl | rfl | rfl | rfl | rfl <;> (cases h; simp [Instr.index, run_underlying Try.underlying48, asInt, asIntOf, tabV, part, Try.sizeOf47, Try.isAgg47])
end Go.Proofs.Ytnpadblfpaiofaa
