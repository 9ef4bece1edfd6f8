/- Contract of package arm: InLimits. No condition on memory. -/
import Derived.Test.YtceejjamngplkaaDoorAmC
namespace Go.Proofs.YtceejjamngplkaaDoor
open Go.ChangeShapes Go.WideShapes Go.ChangeAt Go.RowKit
set_option linter.unusedVariables false
set_option linter.unusedSimpArgs false
set_option maxRecDepth 100000

def fitB (l0 l1 l2 h0 h1 h2 q0 q1 q2 : Int) : Bool := decide ((l0 ≤ q0 ∧ q0 ≤ h0) ∧ (l1 ≤ q1 ∧ q1 ≤ h1) ∧ l2 ≤ q2 ∧ q2 ≤ h2)
theorem btw_q (x a b : Int) (t : Bool) (w : World) (h : Hid (decide (a ≤ x ∧ x ≤ b) = t)) :
    Calls Tryd.prog 45 #[.int .i64 x, .int .i64 a, .int .i64 b] w fun e w' => e = .returned (.bool t) ∧ w' = w :=
  (btw_is x a b t w h).mono fun e w' h => ⟨h.1, h.2.symm⟩
set_option maxHeartbeats 1000000 in
theorem inlim_any (X Y n0 n1 n2 W l0 l1 l2 h0 h1 h2 : Int) (q0 q1 q2 : Int) (w : World) :
    Calls Tryd.prog 24 #[.agg #[.int .i64 X, .int .i64 Y, .int .i64 n0, .int .i64 n1, .int .i64 n2, .int .i64 W, .int .i64 l0, .int .i64 l1, .int .i64 l2, .int .i64 h0, .int .i64 h1, .int .i64 h2], .agg #[.int .i64 q0, .int .i64 q1, .int .i64 q2]] w fun e w' => e = .returned (.bool (fitB l0 l1 l2 h0 h1 h2 q0 q1 q2)) ∧ Below w.heap.size w w' := by
  have I0 := fun w => (ixJ q0 q1 q2 w).1
  have I1 := fun w => (ixJ q0 q1 q2 w).2.1
  have I2 := fun w => (ixJ q0 q1 q2 w).2.2
  by_cases k0 : l0 ≤ q0 ∧ q0 ≤ h0
  rotate_left
  · have K0 : Hid (decide (l0 ≤ q0 ∧ q0 ≤ h0) = false) := Lib.hid (decide_eq_false k0)
    have E : Hid (fitB l0 l1 l2 h0 h1 h2 q0 q1 q2 = false) := Lib.hid (decide_eq_false (fun h => k0 (by first | exact h.1 | exact h.2.1 | exact h.2.2)))
    clear k0
    go_enter Tryd.func24, Tryd.ntmps24
    go_upto_region 1 with fail
    obtain ⟨W0, hW0⟩ : ∃ x, ((w.alloc (.cells #[.int .i64 X, .int .i64 Y, .int .i64 n0, .int .i64 n1, .int .i64 n2, .int .i64 W, .int .i64 l0, .int .i64 l1, .int .i64 l2, .int .i64 h0, .int .i64 h1, .int .i64 h2] 27)).alloc (.cells #[.int .i64 q0, .int .i64 q1, .int .i64 q2] 25)) = x := ⟨_, rfl⟩
    have B : Hid (Below w.heap.size w W0) := Lib.hid (by rw [← hW0]; go_grown)
    have Z : Hid (w.heap.size + 2 ≤ W0.heap.size) := Lib.hid (by rw [← hW0]; simp)
    have c6 : W0.cell? ⟨w.heap.size, 6, none⟩ = some (.int .i64 l0) := by rw [← hW0]; simp
    have c7 : W0.cell? ⟨w.heap.size, 7, none⟩ = some (.int .i64 l1) := by rw [← hW0]; simp
    have c8 : W0.cell? ⟨w.heap.size, 8, none⟩ = some (.int .i64 l2) := by rw [← hW0]; simp
    have c9 : W0.cell? ⟨w.heap.size, 9, none⟩ = some (.int .i64 h0) := by rw [← hW0]; simp
    have c10 : W0.cell? ⟨w.heap.size, 10, none⟩ = some (.int .i64 h1) := by rw [← hW0]; simp
    have c11 : W0.cell? ⟨w.heap.size, 11, none⟩ = some (.int .i64 h2) := by rw [← hW0]; simp
    have d0 : W0.cell? ⟨w.heap.size + 1, 0, none⟩ = some (.int .i64 q0) := by rw [← hW0]; simp
    have d1 : W0.cell? ⟨w.heap.size + 1, 1, none⟩ = some (.int .i64 q1) := by rw [← hW0]; simp
    have d2 : W0.cell? ⟨w.heap.size + 1, 2, none⟩ = some (.int .i64 q2) := by rw [← hW0]; simp
    rw [hW0]
    clear hW0
    go_wp2_with fail
    refine wp_loop_rounds 4 ?_
    rw [rounds_succ]
    go_wp2_with fail
    go_quiet ((go_at_call 45; refine Calls.quiet_of_same (btw_q _ _ _ _ _ K0)))
    obtain ⟨W1, hW⟩ : ∃ x, W0.drewN nq = x := ⟨_, rfl⟩
    rw [hW]
    replace c6 : W1.cell? ⟨w.heap.size, 6, none⟩ = some (.int .i64 l0) := by rw [← hW]; exact c6
    replace c7 : W1.cell? ⟨w.heap.size, 7, none⟩ = some (.int .i64 l1) := by rw [← hW]; exact c7
    replace c8 : W1.cell? ⟨w.heap.size, 8, none⟩ = some (.int .i64 l2) := by rw [← hW]; exact c8
    replace c9 : W1.cell? ⟨w.heap.size, 9, none⟩ = some (.int .i64 h0) := by rw [← hW]; exact c9
    replace c10 : W1.cell? ⟨w.heap.size, 10, none⟩ = some (.int .i64 h1) := by rw [← hW]; exact c10
    replace c11 : W1.cell? ⟨w.heap.size, 11, none⟩ = some (.int .i64 h2) := by rw [← hW]; exact c11
    replace d0 : W1.cell? ⟨w.heap.size + 1, 0, none⟩ = some (.int .i64 q0) := by rw [← hW]; exact d0
    replace d1 : W1.cell? ⟨w.heap.size + 1, 1, none⟩ = some (.int .i64 q1) := by rw [← hW]; exact d1
    replace d2 : W1.cell? ⟨w.heap.size + 1, 2, none⟩ = some (.int .i64 q2) := by rw [← hW]; exact d2
    replace B : Hid (Below w.heap.size w W1) := Lib.hid (by rw [← hW]; exact below_drewN B.out _)
    replace Z : Hid (w.heap.size + 2 ≤ W1.heap.size) := Lib.hid (by rw [← hW]; exact Z.out)
    clear hW
    go_wp2_with fail
    go_ret
    exact ⟨ret_bool (by rw [E.out]), B.out⟩
  have K0 : Hid (decide (l0 ≤ q0 ∧ q0 ≤ h0) = true) := Lib.hid (decide_eq_true k0)
  by_cases k1 : l1 ≤ q1 ∧ q1 ≤ h1
  rotate_left
  · have K1 : Hid (decide (l1 ≤ q1 ∧ q1 ≤ h1) = false) := Lib.hid (decide_eq_false k1)
    have E : Hid (fitB l0 l1 l2 h0 h1 h2 q0 q1 q2 = false) := Lib.hid (decide_eq_false (fun h => k1 (by first | exact h.1 | exact h.2.1 | exact h.2.2)))
    clear k1
    go_enter Tryd.func24, Tryd.ntmps24
    go_upto_region 1 with fail
    obtain ⟨W0, hW0⟩ : ∃ x, ((w.alloc (.cells #[.int .i64 X, .int .i64 Y, .int .i64 n0, .int .i64 n1, .int .i64 n2, .int .i64 W, .int .i64 l0, .int .i64 l1, .int .i64 l2, .int .i64 h0, .int .i64 h1, .int .i64 h2] 27)).alloc (.cells #[.int .i64 q0, .int .i64 q1, .int .i64 q2] 25)) = x := ⟨_, rfl⟩
    have B : Hid (Below w.heap.size w W0) := Lib.hid (by rw [← hW0]; go_grown)
    have Z : Hid (w.heap.size + 2 ≤ W0.heap.size) := Lib.hid (by rw [← hW0]; simp)
    have c6 : W0.cell? ⟨w.heap.size, 6, none⟩ = some (.int .i64 l0) := by rw [← hW0]; simp
    have c7 : W0.cell? ⟨w.heap.size, 7, none⟩ = some (.int .i64 l1) := by rw [← hW0]; simp
    have c8 : W0.cell? ⟨w.heap.size, 8, none⟩ = some (.int .i64 l2) := by rw [← hW0]; simp
    have c9 : W0.cell? ⟨w.heap.size, 9, none⟩ = some (.int .i64 h0) := by rw [← hW0]; simp
    have c10 : W0.cell? ⟨w.heap.size, 10, none⟩ = some (.int .i64 h1) := by rw [← hW0]; simp
    have c11 : W0.cell? ⟨w.heap.size, 11, none⟩ = some (.int .i64 h2) := by rw [← hW0]; simp
    have d0 : W0.cell? ⟨w.heap.size + 1, 0, none⟩ = some (.int .i64 q0) := by rw [← hW0]; simp
    have d1 : W0.cell? ⟨w.heap.size + 1, 1, none⟩ = some (.int .i64 q1) := by rw [← hW0]; simp
    have d2 : W0.cell? ⟨w.heap.size + 1, 2, none⟩ = some (.int .i64 q2) := by rw [← hW0]; simp
    rw [hW0]
    clear hW0
    go_wp2_with fail
    refine wp_loop_rounds 4 ?_
    rw [rounds_succ]
    go_wp2_with fail
    go_quiet ((go_at_call 45; refine Calls.quiet_of_same (btw_q _ _ _ _ _ K0)))
    obtain ⟨W1, hW⟩ : ∃ x, W0.drewN nq = x := ⟨_, rfl⟩
    rw [hW]
    replace c6 : W1.cell? ⟨w.heap.size, 6, none⟩ = some (.int .i64 l0) := by rw [← hW]; exact c6
    replace c7 : W1.cell? ⟨w.heap.size, 7, none⟩ = some (.int .i64 l1) := by rw [← hW]; exact c7
    replace c8 : W1.cell? ⟨w.heap.size, 8, none⟩ = some (.int .i64 l2) := by rw [← hW]; exact c8
    replace c9 : W1.cell? ⟨w.heap.size, 9, none⟩ = some (.int .i64 h0) := by rw [← hW]; exact c9
    replace c10 : W1.cell? ⟨w.heap.size, 10, none⟩ = some (.int .i64 h1) := by rw [← hW]; exact c10
    replace c11 : W1.cell? ⟨w.heap.size, 11, none⟩ = some (.int .i64 h2) := by rw [← hW]; exact c11
    replace d0 : W1.cell? ⟨w.heap.size + 1, 0, none⟩ = some (.int .i64 q0) := by rw [← hW]; exact d0
    replace d1 : W1.cell? ⟨w.heap.size + 1, 1, none⟩ = some (.int .i64 q1) := by rw [← hW]; exact d1
    replace d2 : W1.cell? ⟨w.heap.size + 1, 2, none⟩ = some (.int .i64 q2) := by rw [← hW]; exact d2
    replace B : Hid (Below w.heap.size w W1) := Lib.hid (by rw [← hW]; exact below_drewN B.out _)
    replace Z : Hid (w.heap.size + 2 ≤ W1.heap.size) := Lib.hid (by rw [← hW]; exact Z.out)
    clear hW
    go_wp2_with fail
    rw [rounds_succ]
    go_wp2_with fail
    go_quiet ((go_at_call 45; refine Calls.quiet_of_same (btw_q _ _ _ _ _ K1)))
    obtain ⟨W2, hW⟩ : ∃ x, W1.drewN nq = x := ⟨_, rfl⟩
    rw [hW]
    replace c6 : W2.cell? ⟨w.heap.size, 6, none⟩ = some (.int .i64 l0) := by rw [← hW]; exact c6
    replace c7 : W2.cell? ⟨w.heap.size, 7, none⟩ = some (.int .i64 l1) := by rw [← hW]; exact c7
    replace c8 : W2.cell? ⟨w.heap.size, 8, none⟩ = some (.int .i64 l2) := by rw [← hW]; exact c8
    replace c9 : W2.cell? ⟨w.heap.size, 9, none⟩ = some (.int .i64 h0) := by rw [← hW]; exact c9
    replace c10 : W2.cell? ⟨w.heap.size, 10, none⟩ = some (.int .i64 h1) := by rw [← hW]; exact c10
    replace c11 : W2.cell? ⟨w.heap.size, 11, none⟩ = some (.int .i64 h2) := by rw [← hW]; exact c11
    replace d0 : W2.cell? ⟨w.heap.size + 1, 0, none⟩ = some (.int .i64 q0) := by rw [← hW]; exact d0
    replace d1 : W2.cell? ⟨w.heap.size + 1, 1, none⟩ = some (.int .i64 q1) := by rw [← hW]; exact d1
    replace d2 : W2.cell? ⟨w.heap.size + 1, 2, none⟩ = some (.int .i64 q2) := by rw [← hW]; exact d2
    replace B : Hid (Below w.heap.size w W2) := Lib.hid (by rw [← hW]; exact below_drewN B.out _)
    replace Z : Hid (w.heap.size + 2 ≤ W2.heap.size) := Lib.hid (by rw [← hW]; exact Z.out)
    clear hW
    go_wp2_with fail
    go_ret
    exact ⟨ret_bool (by rw [E.out]), B.out⟩
  have K1 : Hid (decide (l1 ≤ q1 ∧ q1 ≤ h1) = true) := Lib.hid (decide_eq_true k1)
  by_cases k2 : l2 ≤ q2 ∧ q2 ≤ h2
  rotate_left
  · have K2 : Hid (decide (l2 ≤ q2 ∧ q2 ≤ h2) = false) := Lib.hid (decide_eq_false k2)
    have E : Hid (fitB l0 l1 l2 h0 h1 h2 q0 q1 q2 = false) := Lib.hid (decide_eq_false (fun h => k2 (by first | exact h.1 | exact h.2.1 | exact h.2.2)))
    clear k2
    go_enter Tryd.func24, Tryd.ntmps24
    go_upto_region 1 with fail
    obtain ⟨W0, hW0⟩ : ∃ x, ((w.alloc (.cells #[.int .i64 X, .int .i64 Y, .int .i64 n0, .int .i64 n1, .int .i64 n2, .int .i64 W, .int .i64 l0, .int .i64 l1, .int .i64 l2, .int .i64 h0, .int .i64 h1, .int .i64 h2] 27)).alloc (.cells #[.int .i64 q0, .int .i64 q1, .int .i64 q2] 25)) = x := ⟨_, rfl⟩
    have B : Hid (Below w.heap.size w W0) := Lib.hid (by rw [← hW0]; go_grown)
    have Z : Hid (w.heap.size + 2 ≤ W0.heap.size) := Lib.hid (by rw [← hW0]; simp)
    have c6 : W0.cell? ⟨w.heap.size, 6, none⟩ = some (.int .i64 l0) := by rw [← hW0]; simp
    have c7 : W0.cell? ⟨w.heap.size, 7, none⟩ = some (.int .i64 l1) := by rw [← hW0]; simp
    have c8 : W0.cell? ⟨w.heap.size, 8, none⟩ = some (.int .i64 l2) := by rw [← hW0]; simp
    have c9 : W0.cell? ⟨w.heap.size, 9, none⟩ = some (.int .i64 h0) := by rw [← hW0]; simp
    have c10 : W0.cell? ⟨w.heap.size, 10, none⟩ = some (.int .i64 h1) := by rw [← hW0]; simp
    have c11 : W0.cell? ⟨w.heap.size, 11, none⟩ = some (.int .i64 h2) := by rw [← hW0]; simp
    have d0 : W0.cell? ⟨w.heap.size + 1, 0, none⟩ = some (.int .i64 q0) := by rw [← hW0]; simp
    have d1 : W0.cell? ⟨w.heap.size + 1, 1, none⟩ = some (.int .i64 q1) := by rw [← hW0]; simp
    have d2 : W0.cell? ⟨w.heap.size + 1, 2, none⟩ = some (.int .i64 q2) := by rw [← hW0]; simp
    rw [hW0]
    clear hW0
    go_wp2_with fail
    refine wp_loop_rounds 4 ?_
    rw [rounds_succ]
    go_wp2_with fail
    go_quiet ((go_at_call 45; refine Calls.quiet_of_same (btw_q _ _ _ _ _ K0)))
    obtain ⟨W1, hW⟩ : ∃ x, W0.drewN nq = x := ⟨_, rfl⟩
    rw [hW]
    replace c6 : W1.cell? ⟨w.heap.size, 6, none⟩ = some (.int .i64 l0) := by rw [← hW]; exact c6
    replace c7 : W1.cell? ⟨w.heap.size, 7, none⟩ = some (.int .i64 l1) := by rw [← hW]; exact c7
    replace c8 : W1.cell? ⟨w.heap.size, 8, none⟩ = some (.int .i64 l2) := by rw [← hW]; exact c8
    replace c9 : W1.cell? ⟨w.heap.size, 9, none⟩ = some (.int .i64 h0) := by rw [← hW]; exact c9
    replace c10 : W1.cell? ⟨w.heap.size, 10, none⟩ = some (.int .i64 h1) := by rw [← hW]; exact c10
    replace c11 : W1.cell? ⟨w.heap.size, 11, none⟩ = some (.int .i64 h2) := by rw [← hW]; exact c11
    replace d0 : W1.cell? ⟨w.heap.size + 1, 0, none⟩ = some (.int .i64 q0) := by rw [← hW]; exact d0
    replace d1 : W1.cell? ⟨w.heap.size + 1, 1, none⟩ = some (.int .i64 q1) := by rw [← hW]; exact d1
    replace d2 : W1.cell? ⟨w.heap.size + 1, 2, none⟩ = some (.int .i64 q2) := by rw [← hW]; exact d2
    replace B : Hid (Below w.heap.size w W1) := Lib.hid (by rw [← hW]; exact below_drewN B.out _)
    replace Z : Hid (w.heap.size + 2 ≤ W1.heap.size) := Lib.hid (by rw [← hW]; exact Z.out)
    clear hW
    go_wp2_with fail
    rw [rounds_succ]
    go_wp2_with fail
    go_quiet ((go_at_call 45; refine Calls.quiet_of_same (btw_q _ _ _ _ _ K1)))
    obtain ⟨W2, hW⟩ : ∃ x, W1.drewN nq = x := ⟨_, rfl⟩
    rw [hW]
    replace c6 : W2.cell? ⟨w.heap.size, 6, none⟩ = some (.int .i64 l0) := by rw [← hW]; exact c6
    replace c7 : W2.cell? ⟨w.heap.size, 7, none⟩ = some (.int .i64 l1) := by rw [← hW]; exact c7
    replace c8 : W2.cell? ⟨w.heap.size, 8, none⟩ = some (.int .i64 l2) := by rw [← hW]; exact c8
    replace c9 : W2.cell? ⟨w.heap.size, 9, none⟩ = some (.int .i64 h0) := by rw [← hW]; exact c9
    replace c10 : W2.cell? ⟨w.heap.size, 10, none⟩ = some (.int .i64 h1) := by rw [← hW]; exact c10
    replace c11 : W2.cell? ⟨w.heap.size, 11, none⟩ = some (.int .i64 h2) := by rw [← hW]; exact c11
    replace d0 : W2.cell? ⟨w.heap.size + 1, 0, none⟩ = some (.int .i64 q0) := by rw [← hW]; exact d0
    replace d1 : W2.cell? ⟨w.heap.size + 1, 1, none⟩ = some (.int .i64 q1) := by rw [← hW]; exact d1
    replace d2 : W2.cell? ⟨w.heap.size + 1, 2, none⟩ = some (.int .i64 q2) := by rw [← hW]; exact d2
    replace B : Hid (Below w.heap.size w W2) := Lib.hid (by rw [← hW]; exact below_drewN B.out _)
    replace Z : Hid (w.heap.size + 2 ≤ W2.heap.size) := Lib.hid (by rw [← hW]; exact Z.out)
    clear hW
    go_wp2_with fail
    rw [rounds_succ]
    go_wp2_with fail
    go_quiet ((go_at_call 45; refine Calls.quiet_of_same (btw_q _ _ _ _ _ K2)))
    obtain ⟨W3, hW⟩ : ∃ x, W2.drewN nq = x := ⟨_, rfl⟩
    rw [hW]
    replace c6 : W3.cell? ⟨w.heap.size, 6, none⟩ = some (.int .i64 l0) := by rw [← hW]; exact c6
    replace c7 : W3.cell? ⟨w.heap.size, 7, none⟩ = some (.int .i64 l1) := by rw [← hW]; exact c7
    replace c8 : W3.cell? ⟨w.heap.size, 8, none⟩ = some (.int .i64 l2) := by rw [← hW]; exact c8
    replace c9 : W3.cell? ⟨w.heap.size, 9, none⟩ = some (.int .i64 h0) := by rw [← hW]; exact c9
    replace c10 : W3.cell? ⟨w.heap.size, 10, none⟩ = some (.int .i64 h1) := by rw [← hW]; exact c10
    replace c11 : W3.cell? ⟨w.heap.size, 11, none⟩ = some (.int .i64 h2) := by rw [← hW]; exact c11
    replace d0 : W3.cell? ⟨w.heap.size + 1, 0, none⟩ = some (.int .i64 q0) := by rw [← hW]; exact d0
    replace d1 : W3.cell? ⟨w.heap.size + 1, 1, none⟩ = some (.int .i64 q1) := by rw [← hW]; exact d1
    replace d2 : W3.cell? ⟨w.heap.size + 1, 2, none⟩ = some (.int .i64 q2) := by rw [← hW]; exact d2
    replace B : Hid (Below w.heap.size w W3) := Lib.hid (by rw [← hW]; exact below_drewN B.out _)
    replace Z : Hid (w.heap.size + 2 ≤ W3.heap.size) := Lib.hid (by rw [← hW]; exact Z.out)
    clear hW
    go_wp2_with fail
    go_ret
    exact ⟨ret_bool (by rw [E.out]), B.out⟩
  have K2 : Hid (decide (l2 ≤ q2 ∧ q2 ≤ h2) = true) := Lib.hid (decide_eq_true k2)
  have E : Hid (fitB l0 l1 l2 h0 h1 h2 q0 q1 q2 = true) := Lib.hid (decide_eq_true ⟨k0, k1, k2⟩)
  clear k0 k1 k2
  go_enter Tryd.func24, Tryd.ntmps24
  go_upto_region 1 with fail
  obtain ⟨W0, hW0⟩ : ∃ x, ((w.alloc (.cells #[.int .i64 X, .int .i64 Y, .int .i64 n0, .int .i64 n1, .int .i64 n2, .int .i64 W, .int .i64 l0, .int .i64 l1, .int .i64 l2, .int .i64 h0, .int .i64 h1, .int .i64 h2] 27)).alloc (.cells #[.int .i64 q0, .int .i64 q1, .int .i64 q2] 25)) = x := ⟨_, rfl⟩
  have B : Hid (Below w.heap.size w W0) := Lib.hid (by rw [← hW0]; go_grown)
  have Z : Hid (w.heap.size + 2 ≤ W0.heap.size) := Lib.hid (by rw [← hW0]; simp)
  have c6 : W0.cell? ⟨w.heap.size, 6, none⟩ = some (.int .i64 l0) := by rw [← hW0]; simp
  have c7 : W0.cell? ⟨w.heap.size, 7, none⟩ = some (.int .i64 l1) := by rw [← hW0]; simp
  have c8 : W0.cell? ⟨w.heap.size, 8, none⟩ = some (.int .i64 l2) := by rw [← hW0]; simp
  have c9 : W0.cell? ⟨w.heap.size, 9, none⟩ = some (.int .i64 h0) := by rw [← hW0]; simp
  have c10 : W0.cell? ⟨w.heap.size, 10, none⟩ = some (.int .i64 h1) := by rw [← hW0]; simp
  have c11 : W0.cell? ⟨w.heap.size, 11, none⟩ = some (.int .i64 h2) := by rw [← hW0]; simp
  have d0 : W0.cell? ⟨w.heap.size + 1, 0, none⟩ = some (.int .i64 q0) := by rw [← hW0]; simp
  have d1 : W0.cell? ⟨w.heap.size + 1, 1, none⟩ = some (.int .i64 q1) := by rw [← hW0]; simp
  have d2 : W0.cell? ⟨w.heap.size + 1, 2, none⟩ = some (.int .i64 q2) := by rw [← hW0]; simp
  rw [hW0]
  clear hW0
  go_wp2_with fail
  refine wp_loop_rounds 4 ?_
  rw [rounds_succ]
  go_wp2_with fail
  go_quiet ((go_at_call 45; refine Calls.quiet_of_same (btw_q _ _ _ _ _ K0)))
  obtain ⟨W1, hW⟩ : ∃ x, W0.drewN nq = x := ⟨_, rfl⟩
  rw [hW]
  replace c6 : W1.cell? ⟨w.heap.size, 6, none⟩ = some (.int .i64 l0) := by rw [← hW]; exact c6
  replace c7 : W1.cell? ⟨w.heap.size, 7, none⟩ = some (.int .i64 l1) := by rw [← hW]; exact c7
  replace c8 : W1.cell? ⟨w.heap.size, 8, none⟩ = some (.int .i64 l2) := by rw [← hW]; exact c8
  replace c9 : W1.cell? ⟨w.heap.size, 9, none⟩ = some (.int .i64 h0) := by rw [← hW]; exact c9
  replace c10 : W1.cell? ⟨w.heap.size, 10, none⟩ = some (.int .i64 h1) := by rw [← hW]; exact c10
  replace c11 : W1.cell? ⟨w.heap.size, 11, none⟩ = some (.int .i64 h2) := by rw [← hW]; exact c11
  replace d0 : W1.cell? ⟨w.heap.size + 1, 0, none⟩ = some (.int .i64 q0) := by rw [← hW]; exact d0
  replace d1 : W1.cell? ⟨w.heap.size + 1, 1, none⟩ = some (.int .i64 q1) := by rw [← hW]; exact d1
  replace d2 : W1.cell? ⟨w.heap.size + 1, 2, none⟩ = some (.int .i64 q2) := by rw [← hW]; exact d2
  replace B : Hid (Below w.heap.size w W1) := Lib.hid (by rw [← hW]; exact below_drewN B.out _)
  replace Z : Hid (w.heap.size + 2 ≤ W1.heap.size) := Lib.hid (by rw [← hW]; exact Z.out)
  clear hW
  go_wp2_with fail
  rw [rounds_succ]
  go_wp2_with fail
  go_quiet ((go_at_call 45; refine Calls.quiet_of_same (btw_q _ _ _ _ _ K1)))
  obtain ⟨W2, hW⟩ : ∃ x, W1.drewN nq = x := ⟨_, rfl⟩
  rw [hW]
  replace c6 : W2.cell? ⟨w.heap.size, 6, none⟩ = some (.int .i64 l0) := by rw [← hW]; exact c6
  replace c7 : W2.cell? ⟨w.heap.size, 7, none⟩ = some (.int .i64 l1) := by rw [← hW]; exact c7
  replace c8 : W2.cell? ⟨w.heap.size, 8, none⟩ = some (.int .i64 l2) := by rw [← hW]; exact c8
  replace c9 : W2.cell? ⟨w.heap.size, 9, none⟩ = some (.int .i64 h0) := by rw [← hW]; exact c9
  replace c10 : W2.cell? ⟨w.heap.size, 10, none⟩ = some (.int .i64 h1) := by rw [← hW]; exact c10
  replace c11 : W2.cell? ⟨w.heap.size, 11, none⟩ = some (.int .i64 h2) := by rw [← hW]; exact c11
  replace d0 : W2.cell? ⟨w.heap.size + 1, 0, none⟩ = some (.int .i64 q0) := by rw [← hW]; exact d0
  replace d1 : W2.cell? ⟨w.heap.size + 1, 1, none⟩ = some (.int .i64 q1) := by rw [← hW]; exact d1
  replace d2 : W2.cell? ⟨w.heap.size + 1, 2, none⟩ = some (.int .i64 q2) := by rw [← hW]; exact d2
  replace B : Hid (Below w.heap.size w W2) := Lib.hid (by rw [← hW]; exact below_drewN B.out _)
  replace Z : Hid (w.heap.size + 2 ≤ W2.heap.size) := Lib.hid (by rw [← hW]; exact Z.out)
  clear hW
  go_wp2_with fail
  rw [rounds_succ]
  go_wp2_with fail
  go_quiet ((go_at_call 45; refine Calls.quiet_of_same (btw_q _ _ _ _ _ K2)))
  obtain ⟨W3, hW⟩ : ∃ x, W2.drewN nq = x := ⟨_, rfl⟩
  rw [hW]
  replace c6 : W3.cell? ⟨w.heap.size, 6, none⟩ = some (.int .i64 l0) := by rw [← hW]; exact c6
  replace c7 : W3.cell? ⟨w.heap.size, 7, none⟩ = some (.int .i64 l1) := by rw [← hW]; exact c7
  replace c8 : W3.cell? ⟨w.heap.size, 8, none⟩ = some (.int .i64 l2) := by rw [← hW]; exact c8
  replace c9 : W3.cell? ⟨w.heap.size, 9, none⟩ = some (.int .i64 h0) := by rw [← hW]; exact c9
  replace c10 : W3.cell? ⟨w.heap.size, 10, none⟩ = some (.int .i64 h1) := by rw [← hW]; exact c10
  replace c11 : W3.cell? ⟨w.heap.size, 11, none⟩ = some (.int .i64 h2) := by rw [← hW]; exact c11
  replace d0 : W3.cell? ⟨w.heap.size + 1, 0, none⟩ = some (.int .i64 q0) := by rw [← hW]; exact d0
  replace d1 : W3.cell? ⟨w.heap.size + 1, 1, none⟩ = some (.int .i64 q1) := by rw [← hW]; exact d1
  replace d2 : W3.cell? ⟨w.heap.size + 1, 2, none⟩ = some (.int .i64 q2) := by rw [← hW]; exact d2
  replace B : Hid (Below w.heap.size w W3) := Lib.hid (by rw [← hW]; exact below_drewN B.out _)
  replace Z : Hid (w.heap.size + 2 ≤ W3.heap.size) := Lib.hid (by rw [← hW]; exact Z.out)
  clear hW
  go_wp2_with fail
  rw [rounds_succ]
  go_wp2_with fail
  go_ret
  exact ⟨ret_bool (by rw [E.out]), B.out⟩
theorem inlim_is (X Y n0 n1 n2 W l0 l1 l2 h0 h1 h2 : Int) (q0 q1 q2 : Int) (t : Bool) (w : World) (h : Hid (fitB l0 l1 l2 h0 h1 h2 q0 q1 q2 = t)) :
    Calls Tryd.prog 24 #[.agg #[.int .i64 X, .int .i64 Y, .int .i64 n0, .int .i64 n1, .int .i64 n2, .int .i64 W, .int .i64 l0, .int .i64 l1, .int .i64 l2, .int .i64 h0, .int .i64 h1, .int .i64 h2], .agg #[.int .i64 q0, .int .i64 q1, .int .i64 q2]] w fun e w' => e = .returned (.bool t) ∧ Below w.heap.size w w' := by
  rw [← h.out]
  exact inlim_any X Y n0 n1 n2 W l0 l1 l2 h0 h1 h2 q0 q1 q2 w
end Go.Proofs.YtceejjamngplkaaDoor
