/- Contracts of the reference of layer 7: far, size, Right, Fits. No condition on memory. -/
import Derived.Test.YtceejjamngplkaaDoorAmD
import Derived.Test.YtceejjamngplkaaDoorAmE
namespace Go.Proofs.YtceejjamngplkaaDoor
open Go.ChangeShapes Go.WideShapes Go.ChangeAt Go.RowKit
set_option linter.unusedVariables false
set_option linter.unusedSimpArgs false
set_option maxRecDepth 100000

def farB (X Y : Int) : Bool := decide ((1000000000 < X ∨ X < -1000000000) ∨ 1000000000 < Y ∨ Y < -1000000000)
set_option maxHeartbeats 1000000 in
theorem far_is (X Y n0 n1 n2 W l0 l1 l2 h0 h1 h2 : Int) (t : Bool) (w : World) (ht : Hid (farB X Y = t)) :
    Calls Tryd.prog 30 #[.agg #[.int .i64 X, .int .i64 Y, .int .i64 n0, .int .i64 n1, .int .i64 n2, .int .i64 W, .int .i64 l0, .int .i64 l1, .int .i64 l2, .int .i64 h0, .int .i64 h1, .int .i64 h2]] w fun e w' => e = .returned (.bool t) ∧ Below w.heap.size w w' := by
  by_cases t0 : 1000000000 < X
  · go_enter Tryd.func30, Tryd.ntmps30
    go_wp2_with fail
    go_ret
    exact ⟨ret_bool (by rw [← ht.out]; unfold farB; simp; omega), by go_grown⟩
  by_cases t1 : X < -1000000000
  · go_enter Tryd.func30, Tryd.ntmps30
    go_wp2_with fail
    go_ret
    exact ⟨ret_bool (by rw [← ht.out]; unfold farB; simp; omega), by go_grown⟩
  by_cases t2 : 1000000000 < Y
  · go_enter Tryd.func30, Tryd.ntmps30
    go_wp2_with fail
    go_ret
    exact ⟨ret_bool (by rw [← ht.out]; unfold farB; simp; omega), by go_grown⟩
  by_cases t3 : Y < -1000000000
  · go_enter Tryd.func30, Tryd.ntmps30
    go_wp2_with fail
    go_ret
    exact ⟨ret_bool (by rw [← ht.out]; unfold farB; simp; omega), by go_grown⟩
  go_enter Tryd.func30, Tryd.ntmps30
  go_wp2_with fail
  go_ret
  exact ⟨ret_bool (by rw [← ht.out]; unfold farB; simp; omega), by go_grown⟩
def absI (n : Int) : Int := if n < 0 then -n else n
theorem abs_bd (n : Int) : 0 ≤ absI n ∧ (-absI n ≤ n ∧ n ≤ absI n) ∧ ∀ r, (absI n ≤ r ↔ -r ≤ n ∧ n ≤ r) := by unfold absI; split <;> refine ⟨by omega, by omega, fun r => by omega⟩
theorem size_is (n m : Int) (w : World) (hm : Hid (absI n = m)) (hn : -1000000000 ≤ n ∧ n ≤ 1000000000) :
    Calls Tryd.prog 31 #[.int .i64 n] w fun e w' => e = .returned (.int .i64 m) ∧ w = w' := by
  by_cases h : n < 0
  all_goals
    go_enter Tryd.func31, Tryd.ntmps31
    go_wp2
    go_ret
    exact ⟨ret_int (by rw [← hm.out]; unfold absI; split <;> omega), rfl⟩
set_option maxHeartbeats 1000000 in
theorem fits7_is (X Y n0 n1 n2 W l0 l1 l2 h0 h1 h2 : Int) (q0 q1 q2 : Int) (t : Bool) (w : World) (ht : Hid (fitB l0 l1 l2 h0 h1 h2 q0 q1 q2 = t)) :
    Calls Tryd.prog 27 #[.agg #[.int .i64 X, .int .i64 Y, .int .i64 n0, .int .i64 n1, .int .i64 n2, .int .i64 W, .int .i64 l0, .int .i64 l1, .int .i64 l2, .int .i64 h0, .int .i64 h1, .int .i64 h2], .agg #[.int .i64 q0, .int .i64 q1, .int .i64 q2]] w fun e w' => e = .returned (.bool t) ∧ Below w.heap.size w w' := by
  by_cases a0 : q0 < l0
  · have E : Hid (fitB l0 l1 l2 h0 h1 h2 q0 q1 q2 = false) := Lib.hid (decide_eq_false (by omega))
    go_enter Tryd.func27, Tryd.ntmps27
    go_upto_region 1 with fail
    obtain ⟨W0, hW0⟩ : ∃ x, ((w.alloc (.cells #[.int .i64 X, .int .i64 Y, .int .i64 n0, .int .i64 n1, .int .i64 n2, .int .i64 W, .int .i64 l0, .int .i64 l1, .int .i64 l2, .int .i64 h0, .int .i64 h1, .int .i64 h2] 27)).alloc (.cells #[.int .i64 q0, .int .i64 q1, .int .i64 q2] 25)) = x := ⟨_, rfl⟩
    have B : Hid (Below w.heap.size w W0) := Lib.hid (by rw [← hW0]; go_grown)
    have Z : Hid (w.heap.size + 2 ≤ W0.heap.size) := Lib.hid (by rw [← hW0]; simp)
    have c6 : W0.cell? ⟨w.heap.size, 6, none⟩ = some (.int .i64 l0) := by rw [← hW0]; simp
    have c7 : W0.cell? ⟨w.heap.size, 7, none⟩ = some (.int .i64 l1) := by rw [← hW0]; simp
    have c8 : W0.cell? ⟨w.heap.size, 8, none⟩ = some (.int .i64 l2) := by rw [← hW0]; simp
    have c9 : W0.cell? ⟨w.heap.size, 9, none⟩ = some (.int .i64 h0) := by rw [← hW0]; simp
    have c10 : W0.cell? ⟨w.heap.size, 10, none⟩ = some (.int .i64 h1) := by rw [← hW0]; simp
    have c11 : W0.cell? ⟨w.heap.size, 11, none⟩ = some (.int .i64 h2) := by rw [← hW0]; simp
    have d0 : W0.cell? ⟨w.heap.size + 1, 0, none⟩ = some (.int .i64 q0) := by rw [← hW0]; simp
    have d1 : W0.cell? ⟨w.heap.size + 1, 1, none⟩ = some (.int .i64 q1) := by rw [← hW0]; simp
    have d2 : W0.cell? ⟨w.heap.size + 1, 2, none⟩ = some (.int .i64 q2) := by rw [← hW0]; simp
    rw [hW0]
    clear hW0
    go_wp2_with fail
    refine wp_loop_rounds 4 ?_
    rw [rounds_succ]
    go_wp2_with fail
    go_quiet (fail)
    obtain ⟨W1, hW⟩ : ∃ x, W0.drewN nq = x := ⟨_, rfl⟩
    rw [hW]
    replace c6 : W1.cell? ⟨w.heap.size, 6, none⟩ = some (.int .i64 l0) := by rw [← hW]; exact c6
    replace c7 : W1.cell? ⟨w.heap.size, 7, none⟩ = some (.int .i64 l1) := by rw [← hW]; exact c7
    replace c8 : W1.cell? ⟨w.heap.size, 8, none⟩ = some (.int .i64 l2) := by rw [← hW]; exact c8
    replace c9 : W1.cell? ⟨w.heap.size, 9, none⟩ = some (.int .i64 h0) := by rw [← hW]; exact c9
    replace c10 : W1.cell? ⟨w.heap.size, 10, none⟩ = some (.int .i64 h1) := by rw [← hW]; exact c10
    replace c11 : W1.cell? ⟨w.heap.size, 11, none⟩ = some (.int .i64 h2) := by rw [← hW]; exact c11
    replace d0 : W1.cell? ⟨w.heap.size + 1, 0, none⟩ = some (.int .i64 q0) := by rw [← hW]; exact d0
    replace d1 : W1.cell? ⟨w.heap.size + 1, 1, none⟩ = some (.int .i64 q1) := by rw [← hW]; exact d1
    replace d2 : W1.cell? ⟨w.heap.size + 1, 2, none⟩ = some (.int .i64 q2) := by rw [← hW]; exact d2
    replace B : Hid (Below w.heap.size w W1) := Lib.hid (by rw [← hW]; exact below_drewN B.out _)
    replace Z : Hid (w.heap.size + 2 ≤ W1.heap.size) := Lib.hid (by rw [← hW]; exact Z.out)
    clear hW
    go_wp2_with fail
    go_ret
    exact ⟨ret_bool (by rw [← ht.out, E.out]), B.out⟩
  replace a0 : decide (q0 < l0) = false := decide_eq_false a0
  by_cases b0 : h0 < q0
  · have E : Hid (fitB l0 l1 l2 h0 h1 h2 q0 q1 q2 = false) := Lib.hid (decide_eq_false (by omega))
    go_enter Tryd.func27, Tryd.ntmps27
    go_upto_region 1 with fail
    obtain ⟨W0, hW0⟩ : ∃ x, ((w.alloc (.cells #[.int .i64 X, .int .i64 Y, .int .i64 n0, .int .i64 n1, .int .i64 n2, .int .i64 W, .int .i64 l0, .int .i64 l1, .int .i64 l2, .int .i64 h0, .int .i64 h1, .int .i64 h2] 27)).alloc (.cells #[.int .i64 q0, .int .i64 q1, .int .i64 q2] 25)) = x := ⟨_, rfl⟩
    have B : Hid (Below w.heap.size w W0) := Lib.hid (by rw [← hW0]; go_grown)
    have Z : Hid (w.heap.size + 2 ≤ W0.heap.size) := Lib.hid (by rw [← hW0]; simp)
    have c6 : W0.cell? ⟨w.heap.size, 6, none⟩ = some (.int .i64 l0) := by rw [← hW0]; simp
    have c7 : W0.cell? ⟨w.heap.size, 7, none⟩ = some (.int .i64 l1) := by rw [← hW0]; simp
    have c8 : W0.cell? ⟨w.heap.size, 8, none⟩ = some (.int .i64 l2) := by rw [← hW0]; simp
    have c9 : W0.cell? ⟨w.heap.size, 9, none⟩ = some (.int .i64 h0) := by rw [← hW0]; simp
    have c10 : W0.cell? ⟨w.heap.size, 10, none⟩ = some (.int .i64 h1) := by rw [← hW0]; simp
    have c11 : W0.cell? ⟨w.heap.size, 11, none⟩ = some (.int .i64 h2) := by rw [← hW0]; simp
    have d0 : W0.cell? ⟨w.heap.size + 1, 0, none⟩ = some (.int .i64 q0) := by rw [← hW0]; simp
    have d1 : W0.cell? ⟨w.heap.size + 1, 1, none⟩ = some (.int .i64 q1) := by rw [← hW0]; simp
    have d2 : W0.cell? ⟨w.heap.size + 1, 2, none⟩ = some (.int .i64 q2) := by rw [← hW0]; simp
    rw [hW0]
    clear hW0
    go_wp2_with fail
    refine wp_loop_rounds 4 ?_
    rw [rounds_succ]
    go_wp2_with fail
    go_quiet (fail)
    obtain ⟨W1, hW⟩ : ∃ x, W0.drewN nq = x := ⟨_, rfl⟩
    rw [hW]
    replace c6 : W1.cell? ⟨w.heap.size, 6, none⟩ = some (.int .i64 l0) := by rw [← hW]; exact c6
    replace c7 : W1.cell? ⟨w.heap.size, 7, none⟩ = some (.int .i64 l1) := by rw [← hW]; exact c7
    replace c8 : W1.cell? ⟨w.heap.size, 8, none⟩ = some (.int .i64 l2) := by rw [← hW]; exact c8
    replace c9 : W1.cell? ⟨w.heap.size, 9, none⟩ = some (.int .i64 h0) := by rw [← hW]; exact c9
    replace c10 : W1.cell? ⟨w.heap.size, 10, none⟩ = some (.int .i64 h1) := by rw [← hW]; exact c10
    replace c11 : W1.cell? ⟨w.heap.size, 11, none⟩ = some (.int .i64 h2) := by rw [← hW]; exact c11
    replace d0 : W1.cell? ⟨w.heap.size + 1, 0, none⟩ = some (.int .i64 q0) := by rw [← hW]; exact d0
    replace d1 : W1.cell? ⟨w.heap.size + 1, 1, none⟩ = some (.int .i64 q1) := by rw [← hW]; exact d1
    replace d2 : W1.cell? ⟨w.heap.size + 1, 2, none⟩ = some (.int .i64 q2) := by rw [← hW]; exact d2
    replace B : Hid (Below w.heap.size w W1) := Lib.hid (by rw [← hW]; exact below_drewN B.out _)
    replace Z : Hid (w.heap.size + 2 ≤ W1.heap.size) := Lib.hid (by rw [← hW]; exact Z.out)
    clear hW
    go_wp2_with fail
    go_ret
    exact ⟨ret_bool (by rw [← ht.out, E.out]), B.out⟩
  replace b0 : decide (h0 < q0) = false := decide_eq_false b0
  by_cases a1 : q1 < l1
  · have E : Hid (fitB l0 l1 l2 h0 h1 h2 q0 q1 q2 = false) := Lib.hid (decide_eq_false (by omega))
    go_enter Tryd.func27, Tryd.ntmps27
    go_upto_region 1 with fail
    obtain ⟨W0, hW0⟩ : ∃ x, ((w.alloc (.cells #[.int .i64 X, .int .i64 Y, .int .i64 n0, .int .i64 n1, .int .i64 n2, .int .i64 W, .int .i64 l0, .int .i64 l1, .int .i64 l2, .int .i64 h0, .int .i64 h1, .int .i64 h2] 27)).alloc (.cells #[.int .i64 q0, .int .i64 q1, .int .i64 q2] 25)) = x := ⟨_, rfl⟩
    have B : Hid (Below w.heap.size w W0) := Lib.hid (by rw [← hW0]; go_grown)
    have Z : Hid (w.heap.size + 2 ≤ W0.heap.size) := Lib.hid (by rw [← hW0]; simp)
    have c6 : W0.cell? ⟨w.heap.size, 6, none⟩ = some (.int .i64 l0) := by rw [← hW0]; simp
    have c7 : W0.cell? ⟨w.heap.size, 7, none⟩ = some (.int .i64 l1) := by rw [← hW0]; simp
    have c8 : W0.cell? ⟨w.heap.size, 8, none⟩ = some (.int .i64 l2) := by rw [← hW0]; simp
    have c9 : W0.cell? ⟨w.heap.size, 9, none⟩ = some (.int .i64 h0) := by rw [← hW0]; simp
    have c10 : W0.cell? ⟨w.heap.size, 10, none⟩ = some (.int .i64 h1) := by rw [← hW0]; simp
    have c11 : W0.cell? ⟨w.heap.size, 11, none⟩ = some (.int .i64 h2) := by rw [← hW0]; simp
    have d0 : W0.cell? ⟨w.heap.size + 1, 0, none⟩ = some (.int .i64 q0) := by rw [← hW0]; simp
    have d1 : W0.cell? ⟨w.heap.size + 1, 1, none⟩ = some (.int .i64 q1) := by rw [← hW0]; simp
    have d2 : W0.cell? ⟨w.heap.size + 1, 2, none⟩ = some (.int .i64 q2) := by rw [← hW0]; simp
    rw [hW0]
    clear hW0
    go_wp2_with fail
    refine wp_loop_rounds 4 ?_
    rw [rounds_succ]
    go_wp2_with fail
    go_quiet (fail)
    obtain ⟨W1, hW⟩ : ∃ x, W0.drewN nq = x := ⟨_, rfl⟩
    rw [hW]
    replace c6 : W1.cell? ⟨w.heap.size, 6, none⟩ = some (.int .i64 l0) := by rw [← hW]; exact c6
    replace c7 : W1.cell? ⟨w.heap.size, 7, none⟩ = some (.int .i64 l1) := by rw [← hW]; exact c7
    replace c8 : W1.cell? ⟨w.heap.size, 8, none⟩ = some (.int .i64 l2) := by rw [← hW]; exact c8
    replace c9 : W1.cell? ⟨w.heap.size, 9, none⟩ = some (.int .i64 h0) := by rw [← hW]; exact c9
    replace c10 : W1.cell? ⟨w.heap.size, 10, none⟩ = some (.int .i64 h1) := by rw [← hW]; exact c10
    replace c11 : W1.cell? ⟨w.heap.size, 11, none⟩ = some (.int .i64 h2) := by rw [← hW]; exact c11
    replace d0 : W1.cell? ⟨w.heap.size + 1, 0, none⟩ = some (.int .i64 q0) := by rw [← hW]; exact d0
    replace d1 : W1.cell? ⟨w.heap.size + 1, 1, none⟩ = some (.int .i64 q1) := by rw [← hW]; exact d1
    replace d2 : W1.cell? ⟨w.heap.size + 1, 2, none⟩ = some (.int .i64 q2) := by rw [← hW]; exact d2
    replace B : Hid (Below w.heap.size w W1) := Lib.hid (by rw [← hW]; exact below_drewN B.out _)
    replace Z : Hid (w.heap.size + 2 ≤ W1.heap.size) := Lib.hid (by rw [← hW]; exact Z.out)
    clear hW
    go_wp2_with fail
    rw [rounds_succ]
    go_wp2_with fail
    go_quiet (fail)
    obtain ⟨W2, hW⟩ : ∃ x, W1.drewN nq = x := ⟨_, rfl⟩
    rw [hW]
    replace c6 : W2.cell? ⟨w.heap.size, 6, none⟩ = some (.int .i64 l0) := by rw [← hW]; exact c6
    replace c7 : W2.cell? ⟨w.heap.size, 7, none⟩ = some (.int .i64 l1) := by rw [← hW]; exact c7
    replace c8 : W2.cell? ⟨w.heap.size, 8, none⟩ = some (.int .i64 l2) := by rw [← hW]; exact c8
    replace c9 : W2.cell? ⟨w.heap.size, 9, none⟩ = some (.int .i64 h0) := by rw [← hW]; exact c9
    replace c10 : W2.cell? ⟨w.heap.size, 10, none⟩ = some (.int .i64 h1) := by rw [← hW]; exact c10
    replace c11 : W2.cell? ⟨w.heap.size, 11, none⟩ = some (.int .i64 h2) := by rw [← hW]; exact c11
    replace d0 : W2.cell? ⟨w.heap.size + 1, 0, none⟩ = some (.int .i64 q0) := by rw [← hW]; exact d0
    replace d1 : W2.cell? ⟨w.heap.size + 1, 1, none⟩ = some (.int .i64 q1) := by rw [← hW]; exact d1
    replace d2 : W2.cell? ⟨w.heap.size + 1, 2, none⟩ = some (.int .i64 q2) := by rw [← hW]; exact d2
    replace B : Hid (Below w.heap.size w W2) := Lib.hid (by rw [← hW]; exact below_drewN B.out _)
    replace Z : Hid (w.heap.size + 2 ≤ W2.heap.size) := Lib.hid (by rw [← hW]; exact Z.out)
    clear hW
    go_wp2_with fail
    go_ret
    exact ⟨ret_bool (by rw [← ht.out, E.out]), B.out⟩
  replace a1 : decide (q1 < l1) = false := decide_eq_false a1
  by_cases b1 : h1 < q1
  · have E : Hid (fitB l0 l1 l2 h0 h1 h2 q0 q1 q2 = false) := Lib.hid (decide_eq_false (by omega))
    go_enter Tryd.func27, Tryd.ntmps27
    go_upto_region 1 with fail
    obtain ⟨W0, hW0⟩ : ∃ x, ((w.alloc (.cells #[.int .i64 X, .int .i64 Y, .int .i64 n0, .int .i64 n1, .int .i64 n2, .int .i64 W, .int .i64 l0, .int .i64 l1, .int .i64 l2, .int .i64 h0, .int .i64 h1, .int .i64 h2] 27)).alloc (.cells #[.int .i64 q0, .int .i64 q1, .int .i64 q2] 25)) = x := ⟨_, rfl⟩
    have B : Hid (Below w.heap.size w W0) := Lib.hid (by rw [← hW0]; go_grown)
    have Z : Hid (w.heap.size + 2 ≤ W0.heap.size) := Lib.hid (by rw [← hW0]; simp)
    have c6 : W0.cell? ⟨w.heap.size, 6, none⟩ = some (.int .i64 l0) := by rw [← hW0]; simp
    have c7 : W0.cell? ⟨w.heap.size, 7, none⟩ = some (.int .i64 l1) := by rw [← hW0]; simp
    have c8 : W0.cell? ⟨w.heap.size, 8, none⟩ = some (.int .i64 l2) := by rw [← hW0]; simp
    have c9 : W0.cell? ⟨w.heap.size, 9, none⟩ = some (.int .i64 h0) := by rw [← hW0]; simp
    have c10 : W0.cell? ⟨w.heap.size, 10, none⟩ = some (.int .i64 h1) := by rw [← hW0]; simp
    have c11 : W0.cell? ⟨w.heap.size, 11, none⟩ = some (.int .i64 h2) := by rw [← hW0]; simp
    have d0 : W0.cell? ⟨w.heap.size + 1, 0, none⟩ = some (.int .i64 q0) := by rw [← hW0]; simp
    have d1 : W0.cell? ⟨w.heap.size + 1, 1, none⟩ = some (.int .i64 q1) := by rw [← hW0]; simp
    have d2 : W0.cell? ⟨w.heap.size + 1, 2, none⟩ = some (.int .i64 q2) := by rw [← hW0]; simp
    rw [hW0]
    clear hW0
    go_wp2_with fail
    refine wp_loop_rounds 4 ?_
    rw [rounds_succ]
    go_wp2_with fail
    go_quiet (fail)
    obtain ⟨W1, hW⟩ : ∃ x, W0.drewN nq = x := ⟨_, rfl⟩
    rw [hW]
    replace c6 : W1.cell? ⟨w.heap.size, 6, none⟩ = some (.int .i64 l0) := by rw [← hW]; exact c6
    replace c7 : W1.cell? ⟨w.heap.size, 7, none⟩ = some (.int .i64 l1) := by rw [← hW]; exact c7
    replace c8 : W1.cell? ⟨w.heap.size, 8, none⟩ = some (.int .i64 l2) := by rw [← hW]; exact c8
    replace c9 : W1.cell? ⟨w.heap.size, 9, none⟩ = some (.int .i64 h0) := by rw [← hW]; exact c9
    replace c10 : W1.cell? ⟨w.heap.size, 10, none⟩ = some (.int .i64 h1) := by rw [← hW]; exact c10
    replace c11 : W1.cell? ⟨w.heap.size, 11, none⟩ = some (.int .i64 h2) := by rw [← hW]; exact c11
    replace d0 : W1.cell? ⟨w.heap.size + 1, 0, none⟩ = some (.int .i64 q0) := by rw [← hW]; exact d0
    replace d1 : W1.cell? ⟨w.heap.size + 1, 1, none⟩ = some (.int .i64 q1) := by rw [← hW]; exact d1
    replace d2 : W1.cell? ⟨w.heap.size + 1, 2, none⟩ = some (.int .i64 q2) := by rw [← hW]; exact d2
    replace B : Hid (Below w.heap.size w W1) := Lib.hid (by rw [← hW]; exact below_drewN B.out _)
    replace Z : Hid (w.heap.size + 2 ≤ W1.heap.size) := Lib.hid (by rw [← hW]; exact Z.out)
    clear hW
    go_wp2_with fail
    rw [rounds_succ]
    go_wp2_with fail
    go_quiet (fail)
    obtain ⟨W2, hW⟩ : ∃ x, W1.drewN nq = x := ⟨_, rfl⟩
    rw [hW]
    replace c6 : W2.cell? ⟨w.heap.size, 6, none⟩ = some (.int .i64 l0) := by rw [← hW]; exact c6
    replace c7 : W2.cell? ⟨w.heap.size, 7, none⟩ = some (.int .i64 l1) := by rw [← hW]; exact c7
    replace c8 : W2.cell? ⟨w.heap.size, 8, none⟩ = some (.int .i64 l2) := by rw [← hW]; exact c8
    replace c9 : W2.cell? ⟨w.heap.size, 9, none⟩ = some (.int .i64 h0) := by rw [← hW]; exact c9
    replace c10 : W2.cell? ⟨w.heap.size, 10, none⟩ = some (.int .i64 h1) := by rw [← hW]; exact c10
    replace c11 : W2.cell? ⟨w.heap.size, 11, none⟩ = some (.int .i64 h2) := by rw [← hW]; exact c11
    replace d0 : W2.cell? ⟨w.heap.size + 1, 0, none⟩ = some (.int .i64 q0) := by rw [← hW]; exact d0
    replace d1 : W2.cell? ⟨w.heap.size + 1, 1, none⟩ = some (.int .i64 q1) := by rw [← hW]; exact d1
    replace d2 : W2.cell? ⟨w.heap.size + 1, 2, none⟩ = some (.int .i64 q2) := by rw [← hW]; exact d2
    replace B : Hid (Below w.heap.size w W2) := Lib.hid (by rw [← hW]; exact below_drewN B.out _)
    replace Z : Hid (w.heap.size + 2 ≤ W2.heap.size) := Lib.hid (by rw [← hW]; exact Z.out)
    clear hW
    go_wp2_with fail
    go_ret
    exact ⟨ret_bool (by rw [← ht.out, E.out]), B.out⟩
  replace b1 : decide (h1 < q1) = false := decide_eq_false b1
  by_cases a2 : q2 < l2
  · have E : Hid (fitB l0 l1 l2 h0 h1 h2 q0 q1 q2 = false) := Lib.hid (decide_eq_false (by omega))
    go_enter Tryd.func27, Tryd.ntmps27
    go_upto_region 1 with fail
    obtain ⟨W0, hW0⟩ : ∃ x, ((w.alloc (.cells #[.int .i64 X, .int .i64 Y, .int .i64 n0, .int .i64 n1, .int .i64 n2, .int .i64 W, .int .i64 l0, .int .i64 l1, .int .i64 l2, .int .i64 h0, .int .i64 h1, .int .i64 h2] 27)).alloc (.cells #[.int .i64 q0, .int .i64 q1, .int .i64 q2] 25)) = x := ⟨_, rfl⟩
    have B : Hid (Below w.heap.size w W0) := Lib.hid (by rw [← hW0]; go_grown)
    have Z : Hid (w.heap.size + 2 ≤ W0.heap.size) := Lib.hid (by rw [← hW0]; simp)
    have c6 : W0.cell? ⟨w.heap.size, 6, none⟩ = some (.int .i64 l0) := by rw [← hW0]; simp
    have c7 : W0.cell? ⟨w.heap.size, 7, none⟩ = some (.int .i64 l1) := by rw [← hW0]; simp
    have c8 : W0.cell? ⟨w.heap.size, 8, none⟩ = some (.int .i64 l2) := by rw [← hW0]; simp
    have c9 : W0.cell? ⟨w.heap.size, 9, none⟩ = some (.int .i64 h0) := by rw [← hW0]; simp
    have c10 : W0.cell? ⟨w.heap.size, 10, none⟩ = some (.int .i64 h1) := by rw [← hW0]; simp
    have c11 : W0.cell? ⟨w.heap.size, 11, none⟩ = some (.int .i64 h2) := by rw [← hW0]; simp
    have d0 : W0.cell? ⟨w.heap.size + 1, 0, none⟩ = some (.int .i64 q0) := by rw [← hW0]; simp
    have d1 : W0.cell? ⟨w.heap.size + 1, 1, none⟩ = some (.int .i64 q1) := by rw [← hW0]; simp
    have d2 : W0.cell? ⟨w.heap.size + 1, 2, none⟩ = some (.int .i64 q2) := by rw [← hW0]; simp
    rw [hW0]
    clear hW0
    go_wp2_with fail
    refine wp_loop_rounds 4 ?_
    rw [rounds_succ]
    go_wp2_with fail
    go_quiet (fail)
    obtain ⟨W1, hW⟩ : ∃ x, W0.drewN nq = x := ⟨_, rfl⟩
    rw [hW]
    replace c6 : W1.cell? ⟨w.heap.size, 6, none⟩ = some (.int .i64 l0) := by rw [← hW]; exact c6
    replace c7 : W1.cell? ⟨w.heap.size, 7, none⟩ = some (.int .i64 l1) := by rw [← hW]; exact c7
    replace c8 : W1.cell? ⟨w.heap.size, 8, none⟩ = some (.int .i64 l2) := by rw [← hW]; exact c8
    replace c9 : W1.cell? ⟨w.heap.size, 9, none⟩ = some (.int .i64 h0) := by rw [← hW]; exact c9
    replace c10 : W1.cell? ⟨w.heap.size, 10, none⟩ = some (.int .i64 h1) := by rw [← hW]; exact c10
    replace c11 : W1.cell? ⟨w.heap.size, 11, none⟩ = some (.int .i64 h2) := by rw [← hW]; exact c11
    replace d0 : W1.cell? ⟨w.heap.size + 1, 0, none⟩ = some (.int .i64 q0) := by rw [← hW]; exact d0
    replace d1 : W1.cell? ⟨w.heap.size + 1, 1, none⟩ = some (.int .i64 q1) := by rw [← hW]; exact d1
    replace d2 : W1.cell? ⟨w.heap.size + 1, 2, none⟩ = some (.int .i64 q2) := by rw [← hW]; exact d2
    replace B : Hid (Below w.heap.size w W1) := Lib.hid (by rw [← hW]; exact below_drewN B.out _)
    replace Z : Hid (w.heap.size + 2 ≤ W1.heap.size) := Lib.hid (by rw [← hW]; exact Z.out)
    clear hW
    go_wp2_with fail
    rw [rounds_succ]
    go_wp2_with fail
    go_quiet (fail)
    obtain ⟨W2, hW⟩ : ∃ x, W1.drewN nq = x := ⟨_, rfl⟩
    rw [hW]
    replace c6 : W2.cell? ⟨w.heap.size, 6, none⟩ = some (.int .i64 l0) := by rw [← hW]; exact c6
    replace c7 : W2.cell? ⟨w.heap.size, 7, none⟩ = some (.int .i64 l1) := by rw [← hW]; exact c7
    replace c8 : W2.cell? ⟨w.heap.size, 8, none⟩ = some (.int .i64 l2) := by rw [← hW]; exact c8
    replace c9 : W2.cell? ⟨w.heap.size, 9, none⟩ = some (.int .i64 h0) := by rw [← hW]; exact c9
    replace c10 : W2.cell? ⟨w.heap.size, 10, none⟩ = some (.int .i64 h1) := by rw [← hW]; exact c10
    replace c11 : W2.cell? ⟨w.heap.size, 11, none⟩ = some (.int .i64 h2) := by rw [← hW]; exact c11
    replace d0 : W2.cell? ⟨w.heap.size + 1, 0, none⟩ = some (.int .i64 q0) := by rw [← hW]; exact d0
    replace d1 : W2.cell? ⟨w.heap.size + 1, 1, none⟩ = some (.int .i64 q1) := by rw [← hW]; exact d1
    replace d2 : W2.cell? ⟨w.heap.size + 1, 2, none⟩ = some (.int .i64 q2) := by rw [← hW]; exact d2
    replace B : Hid (Below w.heap.size w W2) := Lib.hid (by rw [← hW]; exact below_drewN B.out _)
    replace Z : Hid (w.heap.size + 2 ≤ W2.heap.size) := Lib.hid (by rw [← hW]; exact Z.out)
    clear hW
    go_wp2_with fail
    rw [rounds_succ]
    go_wp2_with fail
    go_quiet (fail)
    obtain ⟨W3, hW⟩ : ∃ x, W2.drewN nq = x := ⟨_, rfl⟩
    rw [hW]
    replace c6 : W3.cell? ⟨w.heap.size, 6, none⟩ = some (.int .i64 l0) := by rw [← hW]; exact c6
    replace c7 : W3.cell? ⟨w.heap.size, 7, none⟩ = some (.int .i64 l1) := by rw [← hW]; exact c7
    replace c8 : W3.cell? ⟨w.heap.size, 8, none⟩ = some (.int .i64 l2) := by rw [← hW]; exact c8
    replace c9 : W3.cell? ⟨w.heap.size, 9, none⟩ = some (.int .i64 h0) := by rw [← hW]; exact c9
    replace c10 : W3.cell? ⟨w.heap.size, 10, none⟩ = some (.int .i64 h1) := by rw [← hW]; exact c10
    replace c11 : W3.cell? ⟨w.heap.size, 11, none⟩ = some (.int .i64 h2) := by rw [← hW]; exact c11
    replace d0 : W3.cell? ⟨w.heap.size + 1, 0, none⟩ = some (.int .i64 q0) := by rw [← hW]; exact d0
    replace d1 : W3.cell? ⟨w.heap.size + 1, 1, none⟩ = some (.int .i64 q1) := by rw [← hW]; exact d1
    replace d2 : W3.cell? ⟨w.heap.size + 1, 2, none⟩ = some (.int .i64 q2) := by rw [← hW]; exact d2
    replace B : Hid (Below w.heap.size w W3) := Lib.hid (by rw [← hW]; exact below_drewN B.out _)
    replace Z : Hid (w.heap.size + 2 ≤ W3.heap.size) := Lib.hid (by rw [← hW]; exact Z.out)
    clear hW
    go_wp2_with fail
    go_ret
    exact ⟨ret_bool (by rw [← ht.out, E.out]), B.out⟩
  replace a2 : decide (q2 < l2) = false := decide_eq_false a2
  by_cases b2 : h2 < q2
  · have E : Hid (fitB l0 l1 l2 h0 h1 h2 q0 q1 q2 = false) := Lib.hid (decide_eq_false (by omega))
    go_enter Tryd.func27, Tryd.ntmps27
    go_upto_region 1 with fail
    obtain ⟨W0, hW0⟩ : ∃ x, ((w.alloc (.cells #[.int .i64 X, .int .i64 Y, .int .i64 n0, .int .i64 n1, .int .i64 n2, .int .i64 W, .int .i64 l0, .int .i64 l1, .int .i64 l2, .int .i64 h0, .int .i64 h1, .int .i64 h2] 27)).alloc (.cells #[.int .i64 q0, .int .i64 q1, .int .i64 q2] 25)) = x := ⟨_, rfl⟩
    have B : Hid (Below w.heap.size w W0) := Lib.hid (by rw [← hW0]; go_grown)
    have Z : Hid (w.heap.size + 2 ≤ W0.heap.size) := Lib.hid (by rw [← hW0]; simp)
    have c6 : W0.cell? ⟨w.heap.size, 6, none⟩ = some (.int .i64 l0) := by rw [← hW0]; simp
    have c7 : W0.cell? ⟨w.heap.size, 7, none⟩ = some (.int .i64 l1) := by rw [← hW0]; simp
    have c8 : W0.cell? ⟨w.heap.size, 8, none⟩ = some (.int .i64 l2) := by rw [← hW0]; simp
    have c9 : W0.cell? ⟨w.heap.size, 9, none⟩ = some (.int .i64 h0) := by rw [← hW0]; simp
    have c10 : W0.cell? ⟨w.heap.size, 10, none⟩ = some (.int .i64 h1) := by rw [← hW0]; simp
    have c11 : W0.cell? ⟨w.heap.size, 11, none⟩ = some (.int .i64 h2) := by rw [← hW0]; simp
    have d0 : W0.cell? ⟨w.heap.size + 1, 0, none⟩ = some (.int .i64 q0) := by rw [← hW0]; simp
    have d1 : W0.cell? ⟨w.heap.size + 1, 1, none⟩ = some (.int .i64 q1) := by rw [← hW0]; simp
    have d2 : W0.cell? ⟨w.heap.size + 1, 2, none⟩ = some (.int .i64 q2) := by rw [← hW0]; simp
    rw [hW0]
    clear hW0
    go_wp2_with fail
    refine wp_loop_rounds 4 ?_
    rw [rounds_succ]
    go_wp2_with fail
    go_quiet (fail)
    obtain ⟨W1, hW⟩ : ∃ x, W0.drewN nq = x := ⟨_, rfl⟩
    rw [hW]
    replace c6 : W1.cell? ⟨w.heap.size, 6, none⟩ = some (.int .i64 l0) := by rw [← hW]; exact c6
    replace c7 : W1.cell? ⟨w.heap.size, 7, none⟩ = some (.int .i64 l1) := by rw [← hW]; exact c7
    replace c8 : W1.cell? ⟨w.heap.size, 8, none⟩ = some (.int .i64 l2) := by rw [← hW]; exact c8
    replace c9 : W1.cell? ⟨w.heap.size, 9, none⟩ = some (.int .i64 h0) := by rw [← hW]; exact c9
    replace c10 : W1.cell? ⟨w.heap.size, 10, none⟩ = some (.int .i64 h1) := by rw [← hW]; exact c10
    replace c11 : W1.cell? ⟨w.heap.size, 11, none⟩ = some (.int .i64 h2) := by rw [← hW]; exact c11
    replace d0 : W1.cell? ⟨w.heap.size + 1, 0, none⟩ = some (.int .i64 q0) := by rw [← hW]; exact d0
    replace d1 : W1.cell? ⟨w.heap.size + 1, 1, none⟩ = some (.int .i64 q1) := by rw [← hW]; exact d1
    replace d2 : W1.cell? ⟨w.heap.size + 1, 2, none⟩ = some (.int .i64 q2) := by rw [← hW]; exact d2
    replace B : Hid (Below w.heap.size w W1) := Lib.hid (by rw [← hW]; exact below_drewN B.out _)
    replace Z : Hid (w.heap.size + 2 ≤ W1.heap.size) := Lib.hid (by rw [← hW]; exact Z.out)
    clear hW
    go_wp2_with fail
    rw [rounds_succ]
    go_wp2_with fail
    go_quiet (fail)
    obtain ⟨W2, hW⟩ : ∃ x, W1.drewN nq = x := ⟨_, rfl⟩
    rw [hW]
    replace c6 : W2.cell? ⟨w.heap.size, 6, none⟩ = some (.int .i64 l0) := by rw [← hW]; exact c6
    replace c7 : W2.cell? ⟨w.heap.size, 7, none⟩ = some (.int .i64 l1) := by rw [← hW]; exact c7
    replace c8 : W2.cell? ⟨w.heap.size, 8, none⟩ = some (.int .i64 l2) := by rw [← hW]; exact c8
    replace c9 : W2.cell? ⟨w.heap.size, 9, none⟩ = some (.int .i64 h0) := by rw [← hW]; exact c9
    replace c10 : W2.cell? ⟨w.heap.size, 10, none⟩ = some (.int .i64 h1) := by rw [← hW]; exact c10
    replace c11 : W2.cell? ⟨w.heap.size, 11, none⟩ = some (.int .i64 h2) := by rw [← hW]; exact c11
    replace d0 : W2.cell? ⟨w.heap.size + 1, 0, none⟩ = some (.int .i64 q0) := by rw [← hW]; exact d0
    replace d1 : W2.cell? ⟨w.heap.size + 1, 1, none⟩ = some (.int .i64 q1) := by rw [← hW]; exact d1
    replace d2 : W2.cell? ⟨w.heap.size + 1, 2, none⟩ = some (.int .i64 q2) := by rw [← hW]; exact d2
    replace B : Hid (Below w.heap.size w W2) := Lib.hid (by rw [← hW]; exact below_drewN B.out _)
    replace Z : Hid (w.heap.size + 2 ≤ W2.heap.size) := Lib.hid (by rw [← hW]; exact Z.out)
    clear hW
    go_wp2_with fail
    rw [rounds_succ]
    go_wp2_with fail
    go_quiet (fail)
    obtain ⟨W3, hW⟩ : ∃ x, W2.drewN nq = x := ⟨_, rfl⟩
    rw [hW]
    replace c6 : W3.cell? ⟨w.heap.size, 6, none⟩ = some (.int .i64 l0) := by rw [← hW]; exact c6
    replace c7 : W3.cell? ⟨w.heap.size, 7, none⟩ = some (.int .i64 l1) := by rw [← hW]; exact c7
    replace c8 : W3.cell? ⟨w.heap.size, 8, none⟩ = some (.int .i64 l2) := by rw [← hW]; exact c8
    replace c9 : W3.cell? ⟨w.heap.size, 9, none⟩ = some (.int .i64 h0) := by rw [← hW]; exact c9
    replace c10 : W3.cell? ⟨w.heap.size, 10, none⟩ = some (.int .i64 h1) := by rw [← hW]; exact c10
    replace c11 : W3.cell? ⟨w.heap.size, 11, none⟩ = some (.int .i64 h2) := by rw [← hW]; exact c11
    replace d0 : W3.cell? ⟨w.heap.size + 1, 0, none⟩ = some (.int .i64 q0) := by rw [← hW]; exact d0
    replace d1 : W3.cell? ⟨w.heap.size + 1, 1, none⟩ = some (.int .i64 q1) := by rw [← hW]; exact d1
    replace d2 : W3.cell? ⟨w.heap.size + 1, 2, none⟩ = some (.int .i64 q2) := by rw [← hW]; exact d2
    replace B : Hid (Below w.heap.size w W3) := Lib.hid (by rw [← hW]; exact below_drewN B.out _)
    replace Z : Hid (w.heap.size + 2 ≤ W3.heap.size) := Lib.hid (by rw [← hW]; exact Z.out)
    clear hW
    go_wp2_with fail
    go_ret
    exact ⟨ret_bool (by rw [← ht.out, E.out]), B.out⟩
  replace b2 : decide (h2 < q2) = false := decide_eq_false b2
  have E : Hid (fitB l0 l1 l2 h0 h1 h2 q0 q1 q2 = true) := Lib.hid (decide_eq_true (by have := of_decide_eq_false a0; have := of_decide_eq_false b0; have := of_decide_eq_false a1; have := of_decide_eq_false b1; have := of_decide_eq_false a2; have := of_decide_eq_false b2; omega))
  go_enter Tryd.func27, Tryd.ntmps27
  go_upto_region 1 with fail
  obtain ⟨W0, hW0⟩ : ∃ x, ((w.alloc (.cells #[.int .i64 X, .int .i64 Y, .int .i64 n0, .int .i64 n1, .int .i64 n2, .int .i64 W, .int .i64 l0, .int .i64 l1, .int .i64 l2, .int .i64 h0, .int .i64 h1, .int .i64 h2] 27)).alloc (.cells #[.int .i64 q0, .int .i64 q1, .int .i64 q2] 25)) = x := ⟨_, rfl⟩
  have B : Hid (Below w.heap.size w W0) := Lib.hid (by rw [← hW0]; go_grown)
  have Z : Hid (w.heap.size + 2 ≤ W0.heap.size) := Lib.hid (by rw [← hW0]; simp)
  have c6 : W0.cell? ⟨w.heap.size, 6, none⟩ = some (.int .i64 l0) := by rw [← hW0]; simp
  have c7 : W0.cell? ⟨w.heap.size, 7, none⟩ = some (.int .i64 l1) := by rw [← hW0]; simp
  have c8 : W0.cell? ⟨w.heap.size, 8, none⟩ = some (.int .i64 l2) := by rw [← hW0]; simp
  have c9 : W0.cell? ⟨w.heap.size, 9, none⟩ = some (.int .i64 h0) := by rw [← hW0]; simp
  have c10 : W0.cell? ⟨w.heap.size, 10, none⟩ = some (.int .i64 h1) := by rw [← hW0]; simp
  have c11 : W0.cell? ⟨w.heap.size, 11, none⟩ = some (.int .i64 h2) := by rw [← hW0]; simp
  have d0 : W0.cell? ⟨w.heap.size + 1, 0, none⟩ = some (.int .i64 q0) := by rw [← hW0]; simp
  have d1 : W0.cell? ⟨w.heap.size + 1, 1, none⟩ = some (.int .i64 q1) := by rw [← hW0]; simp
  have d2 : W0.cell? ⟨w.heap.size + 1, 2, none⟩ = some (.int .i64 q2) := by rw [← hW0]; simp
  rw [hW0]
  clear hW0
  go_wp2_with fail
  refine wp_loop_rounds 4 ?_
  rw [rounds_succ]
  go_wp2_with fail
  go_quiet (fail)
  obtain ⟨W1, hW⟩ : ∃ x, W0.drewN nq = x := ⟨_, rfl⟩
  rw [hW]
  replace c6 : W1.cell? ⟨w.heap.size, 6, none⟩ = some (.int .i64 l0) := by rw [← hW]; exact c6
  replace c7 : W1.cell? ⟨w.heap.size, 7, none⟩ = some (.int .i64 l1) := by rw [← hW]; exact c7
  replace c8 : W1.cell? ⟨w.heap.size, 8, none⟩ = some (.int .i64 l2) := by rw [← hW]; exact c8
  replace c9 : W1.cell? ⟨w.heap.size, 9, none⟩ = some (.int .i64 h0) := by rw [← hW]; exact c9
  replace c10 : W1.cell? ⟨w.heap.size, 10, none⟩ = some (.int .i64 h1) := by rw [← hW]; exact c10
  replace c11 : W1.cell? ⟨w.heap.size, 11, none⟩ = some (.int .i64 h2) := by rw [← hW]; exact c11
  replace d0 : W1.cell? ⟨w.heap.size + 1, 0, none⟩ = some (.int .i64 q0) := by rw [← hW]; exact d0
  replace d1 : W1.cell? ⟨w.heap.size + 1, 1, none⟩ = some (.int .i64 q1) := by rw [← hW]; exact d1
  replace d2 : W1.cell? ⟨w.heap.size + 1, 2, none⟩ = some (.int .i64 q2) := by rw [← hW]; exact d2
  replace B : Hid (Below w.heap.size w W1) := Lib.hid (by rw [← hW]; exact below_drewN B.out _)
  replace Z : Hid (w.heap.size + 2 ≤ W1.heap.size) := Lib.hid (by rw [← hW]; exact Z.out)
  clear hW
  go_wp2_with fail
  rw [rounds_succ]
  go_wp2_with fail
  go_quiet (fail)
  obtain ⟨W2, hW⟩ : ∃ x, W1.drewN nq = x := ⟨_, rfl⟩
  rw [hW]
  replace c6 : W2.cell? ⟨w.heap.size, 6, none⟩ = some (.int .i64 l0) := by rw [← hW]; exact c6
  replace c7 : W2.cell? ⟨w.heap.size, 7, none⟩ = some (.int .i64 l1) := by rw [← hW]; exact c7
  replace c8 : W2.cell? ⟨w.heap.size, 8, none⟩ = some (.int .i64 l2) := by rw [← hW]; exact c8
  replace c9 : W2.cell? ⟨w.heap.size, 9, none⟩ = some (.int .i64 h0) := by rw [← hW]; exact c9
  replace c10 : W2.cell? ⟨w.heap.size, 10, none⟩ = some (.int .i64 h1) := by rw [← hW]; exact c10
  replace c11 : W2.cell? ⟨w.heap.size, 11, none⟩ = some (.int .i64 h2) := by rw [← hW]; exact c11
  replace d0 : W2.cell? ⟨w.heap.size + 1, 0, none⟩ = some (.int .i64 q0) := by rw [← hW]; exact d0
  replace d1 : W2.cell? ⟨w.heap.size + 1, 1, none⟩ = some (.int .i64 q1) := by rw [← hW]; exact d1
  replace d2 : W2.cell? ⟨w.heap.size + 1, 2, none⟩ = some (.int .i64 q2) := by rw [← hW]; exact d2
  replace B : Hid (Below w.heap.size w W2) := Lib.hid (by rw [← hW]; exact below_drewN B.out _)
  replace Z : Hid (w.heap.size + 2 ≤ W2.heap.size) := Lib.hid (by rw [← hW]; exact Z.out)
  clear hW
  go_wp2_with fail
  rw [rounds_succ]
  go_wp2_with fail
  go_quiet (fail)
  obtain ⟨W3, hW⟩ : ∃ x, W2.drewN nq = x := ⟨_, rfl⟩
  rw [hW]
  replace c6 : W3.cell? ⟨w.heap.size, 6, none⟩ = some (.int .i64 l0) := by rw [← hW]; exact c6
  replace c7 : W3.cell? ⟨w.heap.size, 7, none⟩ = some (.int .i64 l1) := by rw [← hW]; exact c7
  replace c8 : W3.cell? ⟨w.heap.size, 8, none⟩ = some (.int .i64 l2) := by rw [← hW]; exact c8
  replace c9 : W3.cell? ⟨w.heap.size, 9, none⟩ = some (.int .i64 h0) := by rw [← hW]; exact c9
  replace c10 : W3.cell? ⟨w.heap.size, 10, none⟩ = some (.int .i64 h1) := by rw [← hW]; exact c10
  replace c11 : W3.cell? ⟨w.heap.size, 11, none⟩ = some (.int .i64 h2) := by rw [← hW]; exact c11
  replace d0 : W3.cell? ⟨w.heap.size + 1, 0, none⟩ = some (.int .i64 q0) := by rw [← hW]; exact d0
  replace d1 : W3.cell? ⟨w.heap.size + 1, 1, none⟩ = some (.int .i64 q1) := by rw [← hW]; exact d1
  replace d2 : W3.cell? ⟨w.heap.size + 1, 2, none⟩ = some (.int .i64 q2) := by rw [← hW]; exact d2
  replace B : Hid (Below w.heap.size w W3) := Lib.hid (by rw [← hW]; exact below_drewN B.out _)
  replace Z : Hid (w.heap.size + 2 ≤ W3.heap.size) := Lib.hid (by rw [← hW]; exact Z.out)
  clear hW
  go_wp2_with fail
  rw [rounds_succ]
  go_wp2_with fail
  go_ret
  exact ⟨ret_bool (by rw [← ht.out, E.out]), B.out⟩
end Go.Proofs.YtceejjamngplkaaDoor
