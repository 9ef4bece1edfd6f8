/- Joint values compared. -/
import Derived.Test.YtceejjamngplkaaDoorIkC
import Derived.LoopN
namespace Go.Proofs.YtceejjamngplkaaDoor
open Go.ChangeShapes Go.WideShapes Go.ChangeAt Go.RowKit
set_option linter.unusedVariables false
set_option linter.unusedSimpArgs false
set_option maxRecDepth 100000
theorem eqG_int (d : Nat) (a b : Int) (w : World) : (Op.equalIn (d + 1) 3 (.int .i64 a) (.int .i64 b)).run Tryd.prog w = .ok (decide (a = b)) w := by
  simp [Op.equalIn, run_underlying Tryd.underlying3]
  by_cases h : a = b <;> simp [h]
theorem eqG_joints (d : Nat) (a0 a1 a2 b0 b1 b2 : Int) (w : World) : (Op.equalIn (d + 2) 25 (.agg #[.int .i64 a0, .int .i64 a1, .int .i64 a2]) (.agg #[.int .i64 b0, .int .i64 b1, .int .i64 b2])).run Tryd.prog w = .ok (decide ((a0, a1, a2) = (b0, b1, b2))) w := by
  unfold Op.equalIn
  by_cases h0 : a0 = b0
  · subst h0
    by_cases h1 : a1 = b1
    · subst h1
      simp [run_underlying Tryd.underlying25, part, Tryd.sizeOf3, Tryd.isAgg3, eqG_int, List.range']
      split <;> simp_all
    · simp [run_underlying Tryd.underlying25, part, Tryd.sizeOf3, Tryd.isAgg3, eqG_int, List.range', h1]
  · simp [run_underlying Tryd.underlying25, part, Tryd.sizeOf3, Tryd.isAgg3, eqG_int, List.range', h0]
theorem eqlJ (a0 a1 a2 b0 b1 b2 : Int) (t : Bool) (h : Hid (decide ((a0, a1, a2) = (b0, b1, b2)) = t)) (w : World) : (binOp .eql 25 (.agg #[.int .i64 a0, .int .i64 a1, .int .i64 a2]) (.agg #[.int .i64 b0, .int .i64 b1, .int .i64 b2])).run Tryd.prog w = .ok (.bool t) w := by
  have h' := eqG_joints 9998 a0 a1 a2 b0 b1 b2 w
  rw [h.out] at h'
  simp only [binOp, Op.equal, Sem.run_bind, Sem.run_pure]
  rw [show Op.maxDepth = 9998 + 2 from rfl, h']
  rfl
theorem neqJ (a0 a1 a2 b0 b1 b2 : Int) (t : Bool) (h : Hid (decide ((a0, a1, a2) = (b0, b1, b2)) = t)) (w : World) : (binOp .neq 25 (.agg #[.int .i64 a0, .int .i64 a1, .int .i64 a2]) (.agg #[.int .i64 b0, .int .i64 b1, .int .i64 b2])).run Tryd.prog w = .ok (.bool (!t)) w := by
  have h' := eqG_joints 9998 a0 a1 a2 b0 b1 b2 w
  rw [h.out] at h'
  simp only [binOp, Op.equal, Sem.run_bind, Sem.run_pure]
  rw [show Op.maxDepth = 9998 + 2 from rfl, h']
  rfl
end Go.Proofs.YtceejjamngplkaaDoor
