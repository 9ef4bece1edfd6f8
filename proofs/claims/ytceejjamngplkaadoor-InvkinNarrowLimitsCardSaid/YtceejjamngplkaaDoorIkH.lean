/- Contract of the reference of layer 8: Far. -/
import Derived.Test.YtceejjamngplkaaDoorIkE
namespace Go.Proofs.YtceejjamngplkaaDoor
open Go.ChangeShapes Go.WideShapes Go.ChangeAt Go.RowKit
set_option linter.unusedVariables false
set_option linter.unusedSimpArgs false
set_option maxRecDepth 100000
set_option maxHeartbeats 4000000 in
theorem far8_is (a b c d e f m : Int) (w : World) (h1 : B1000 (a, b, c)) (h2 : B1000 (d, e, f)) (hm : Hid (dst3 (a, b, c) (d, e, f) = m)) :
    Calls Tryd.prog 42 #[.agg #[.int .i64 a, .int .i64 b, .int .i64 c], .agg #[.int .i64 d, .int .i64 e, .int .i64 f]] w fun r w' => r = .returned (.int .i64 m) ∧ Below w.heap.size w w' := by
  unfold B1000 at h1 h2
  simp only at h1 h2
  obtain ⟨ha, hb, hc⟩ := h1
  obtain ⟨hd, he, hf⟩ := h2
  unfold dst3 abI mxI at hm
  simp only at hm
  by_cases k0 : d < a
  all_goals by_cases k1 : e < b
  all_goals by_cases k2 : f < c
  all_goals
    go_enter Tryd.func42, Tryd.ntmps42
    go_wp2_with fail
    refine wp_loop_rounds 4 ?_
    iterate 3 (rw [rounds_succ]; go_wp2_with fail; go_region; go_wp2_with fail; go_region; go_wp2_with fail)
    rw [rounds_succ]
    go_wp2_with fail
    go_ret
    exact ⟨ret_int (by rw [← hm.out]; repeat' split <;> omega), by go_grown⟩
end Go.Proofs.YtceejjamngplkaaDoor
