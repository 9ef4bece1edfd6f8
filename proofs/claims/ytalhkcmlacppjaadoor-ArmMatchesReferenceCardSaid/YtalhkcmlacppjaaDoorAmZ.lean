/- Arrays of letters compared with themselves. -/
import Derived.Test.YtalhkcmlacppjaaDoorAmL
namespace Go.Proofs.YtalhkcmlacppjaaDoor
open Go.ChangeShapes Go.WideShapes Go.ChangeAt Go.RowKit
set_option linter.unusedVariables false
set_option linter.unusedSimpArgs false
set_option maxRecDepth 100000
theorem prow_setRowZ {w : World} {g r : Nat} {l : List (Int × Int)} (h : PRow w (some ⟨g, 0, none⟩) l) (hne : g ≠ r) (cs : Array Value) : PRow (w.setRow r cs) (some ⟨g, 0, none⟩) l := fun i hi => by
  obtain ⟨b, o, e, c, d⟩ := h i hi
  cases e
  exact ⟨_, _, rfl, (cell_setRow_other _ _ _ _ hne).trans c, (cell_setRow_other _ _ _ _ hne).trans d⟩
theorem eq_int (d : Nat) (a : Int) (w : World) : (Op.equalIn (d + 1) 3 (.int .i64 a) (.int .i64 a)).run Tryd.prog w = .ok true w := by
  simp [Op.equalIn, run_underlying Tryd.underlying3]
theorem eq_joints (d : Nat) (a0 a1 a2 : Int) (w : World) : (Op.equalIn (d + 2) 25 (.agg #[.int .i64 a0, .int .i64 a1, .int .i64 a2]) (.agg #[.int .i64 a0, .int .i64 a1, .int .i64 a2])).run Tryd.prog w = .ok true w := by
  unfold Op.equalIn
  simp [run_underlying Tryd.underlying25, part, Tryd.sizeOf3, Tryd.isAgg3, eq_int, List.range']
theorem eql_joints (a0 a1 a2 : Int) (w : World) : (binOp .eql 25 (.agg #[.int .i64 a0, .int .i64 a1, .int .i64 a2]) (.agg #[.int .i64 a0, .int .i64 a1, .int .i64 a2])).run Tryd.prog w = .ok (.bool true) w := by
  have h := eq_joints 9998 a0 a1 a2 w
  simp only [binOp, Op.equal, Sem.run_bind, Sem.run_pure]
  rw [show Op.maxDepth = 9998 + 2 from rfl, h]
  rfl
theorem eq_pt (d : Nat) (a0 a1 : Int) (w : World) : (Op.equalIn (d + 2) 23 (.agg #[.int .i64 a0, .int .i64 a1]) (.agg #[.int .i64 a0, .int .i64 a1])).run Tryd.prog w = .ok true w := by
  unfold Op.equalIn
  simp [run_underlying Tryd.underlying23, part, Tryd.sizeOf3, Tryd.isAgg3, eq_int, List.range', show Tryd.prog.stoodInHeld 23 = false by kernel_rfl]
theorem eq_dir (d : Nat) (a0 a1 a2 : Int) (w : World) : (Op.equalIn (d + 2) 41 (.agg #[.int .i64 a0, .int .i64 a1, .int .i64 a2]) (.agg #[.int .i64 a0, .int .i64 a1, .int .i64 a2])).run Tryd.prog w = .ok true w := by
  unfold Op.equalIn
  simp [run_underlying Tryd.underlying41, part, Tryd.sizeOf3, Tryd.isAgg3, eq_int, List.range', show Tryd.prog.stoodInHeld 41 = false by kernel_rfl]
theorem eq_pts (d : Nat) (a0 a1 a2 a3 a4 a5 a6 a7 : Int) (w : World) : (Op.equalIn (d + 3) 44 (.agg #[.int .i64 a0, .int .i64 a1, .int .i64 a2, .int .i64 a3, .int .i64 a4, .int .i64 a5, .int .i64 a6, .int .i64 a7]) (.agg #[.int .i64 a0, .int .i64 a1, .int .i64 a2, .int .i64 a3, .int .i64 a4, .int .i64 a5, .int .i64 a6, .int .i64 a7])).run Tryd.prog w = .ok true w := by
  unfold Op.equalIn
  simp [run_underlying Tryd.underlying44, part, Tryd.sizeOf23, Tryd.isAgg23, eq_pt, List.range']
theorem eql_pts (a0 a1 a2 a3 a4 a5 a6 a7 : Int) (w : World) : (binOp .eql 44 (.agg #[.int .i64 a0, .int .i64 a1, .int .i64 a2, .int .i64 a3, .int .i64 a4, .int .i64 a5, .int .i64 a6, .int .i64 a7]) (.agg #[.int .i64 a0, .int .i64 a1, .int .i64 a2, .int .i64 a3, .int .i64 a4, .int .i64 a5, .int .i64 a6, .int .i64 a7])).run Tryd.prog w = .ok (.bool true) w := by
  have h := eq_pts 9997 a0 a1 a2 a3 a4 a5 a6 a7 w
  simp only [binOp, Op.equal, Sem.run_bind, Sem.run_pure]
  rw [show Op.maxDepth = 9997 + 3 from rfl, h]
  rfl
theorem eq_dirs (d : Nat) (a0 a1 a2 a3 a4 a5 a6 a7 a8 : Int) (w : World) : (Op.equalIn (d + 3) 42 (.agg #[.int .i64 a0, .int .i64 a1, .int .i64 a2, .int .i64 a3, .int .i64 a4, .int .i64 a5, .int .i64 a6, .int .i64 a7, .int .i64 a8]) (.agg #[.int .i64 a0, .int .i64 a1, .int .i64 a2, .int .i64 a3, .int .i64 a4, .int .i64 a5, .int .i64 a6, .int .i64 a7, .int .i64 a8])).run Tryd.prog w = .ok true w := by
  unfold Op.equalIn
  simp [run_underlying Tryd.underlying42, part, Tryd.sizeOf41, Tryd.isAgg41, eq_dir, List.range']
theorem eql_dirs (a0 a1 a2 a3 a4 a5 a6 a7 a8 : Int) (w : World) : (binOp .eql 42 (.agg #[.int .i64 a0, .int .i64 a1, .int .i64 a2, .int .i64 a3, .int .i64 a4, .int .i64 a5, .int .i64 a6, .int .i64 a7, .int .i64 a8]) (.agg #[.int .i64 a0, .int .i64 a1, .int .i64 a2, .int .i64 a3, .int .i64 a4, .int .i64 a5, .int .i64 a6, .int .i64 a7, .int .i64 a8])).run Tryd.prog w = .ok (.bool true) w := by
  have h := eq_dirs 9997 a0 a1 a2 a3 a4 a5 a6 a7 a8 w
  simp only [binOp, Op.equal, Sem.run_bind, Sem.run_pure]
  rw [show Op.maxDepth = 9997 + 3 from rfl, h]
  rfl
end Go.Proofs.YtalhkcmlacppjaaDoor
