/- Contract of the reference of layer 7: Right. No condition on memory. -/
import Derived.Test.YtceejjamngplkaaDoorAmF
namespace Go.Proofs.YtceejjamngplkaaDoor
open Go.ChangeShapes Go.WideShapes Go.ChangeAt Go.RowKit
set_option linter.unusedVariables false
set_option linter.unusedSimpArgs false
set_option maxRecDepth 100000

set_option maxHeartbeats 4000000 in
theorem right7_is (X Y n0 n1 n2 W l0 l1 l2 h0 h1 h2 : Int) (t : Bool) (w : World) (ht : Hid (armB X Y n0 n1 n2 W l0 l1 l2 h0 h1 h2 = t)) :
    Calls Tryd.prog 11 #[.agg #[.int .i64 X, .int .i64 Y, .int .i64 n0, .int .i64 n1, .int .i64 n2, .int .i64 W, .int .i64 l0, .int .i64 l1, .int .i64 l2, .int .i64 h0, .int .i64 h1, .int .i64 h2]] w fun e w' => e = .returned (.bool t) ∧ Below w.heap.size w w' := by
  obtain ⟨f, hf⟩ : ∃ f, farB X Y = f := ⟨_, rfl⟩
  have FF := Lib.hid hf
  replace hf := Lib.hid hf
  have AI := Lib.hid (armB_iff X Y n0 n1 n2 W l0 l1 l2 h0 h1 h2)
  have eX : Hid ((¬ X.tmod 16 = 0) ↔ ¬ X % 16 = 0) := Lib.hid (by rw [Int.tmod_eq_emod]; split <;> omega)
  have eY : Hid ((¬ Y.tmod 16 = 0) ↔ ¬ Y % 16 = 0) := Lib.hid (by rw [Int.tmod_eq_emod]; split <;> omega)
  go_enter Tryd.func11, Tryd.ntmps11
  go_upto_region 1 with fail
  obtain ⟨W0, hW0⟩ : ∃ x, (w.alloc (.cells #[.int .i64 X, .int .i64 Y, .int .i64 n0, .int .i64 n1, .int .i64 n2, .int .i64 W, .int .i64 l0, .int .i64 l1, .int .i64 l2, .int .i64 h0, .int .i64 h1, .int .i64 h2] 27)) = x := ⟨_, rfl⟩
  have B : Hid (Below w.heap.size w W0) := Lib.hid (by rw [← hW0]; go_grown)
  have Z : Hid (w.heap.size + 1 ≤ W0.heap.size) := Lib.hid (by rw [← hW0]; simp)
  have c0 : W0.cell? ⟨w.heap.size, 0, none⟩ = some (.int .i64 X) := by rw [← hW0]; simp
  have c1 : W0.cell? ⟨w.heap.size, 1, none⟩ = some (.int .i64 Y) := by rw [← hW0]; simp
  have c2 : W0.cell? ⟨w.heap.size, 2, none⟩ = some (.int .i64 n0) := by rw [← hW0]; simp
  have c3 : W0.cell? ⟨w.heap.size, 3, none⟩ = some (.int .i64 n1) := by rw [← hW0]; simp
  have c4 : W0.cell? ⟨w.heap.size, 4, none⟩ = some (.int .i64 n2) := by rw [← hW0]; simp
  have c5 : W0.cell? ⟨w.heap.size, 5, none⟩ = some (.int .i64 W) := by rw [← hW0]; simp
  have c6 : W0.cell? ⟨w.heap.size, 6, none⟩ = some (.int .i64 l0) := by rw [← hW0]; simp
  have c7 : W0.cell? ⟨w.heap.size, 7, none⟩ = some (.int .i64 l1) := by rw [← hW0]; simp
  have c8 : W0.cell? ⟨w.heap.size, 8, none⟩ = some (.int .i64 l2) := by rw [← hW0]; simp
  have c9 : W0.cell? ⟨w.heap.size, 9, none⟩ = some (.int .i64 h0) := by rw [← hW0]; simp
  have c10 : W0.cell? ⟨w.heap.size, 10, none⟩ = some (.int .i64 h1) := by rw [← hW0]; simp
  have c11 : W0.cell? ⟨w.heap.size, 11, none⟩ = some (.int .i64 h2) := by rw [← hW0]; simp
  rw [hW0]
  clear hW0
  go_wp2_with fail
  refine (far_is X Y n0 n1 n2 W l0 l1 l2 h0 h1 h2 _ _ FF).mono ?_
  rintro e Wf ⟨rfl, hb⟩
  replace c0 := cell_call c0 hb
  replace c1 := cell_call c1 hb
  replace c2 := cell_call c2 hb
  replace c3 := cell_call c3 hb
  replace c4 := cell_call c4 hb
  replace c5 := cell_call c5 hb
  replace c6 := cell_call c6 hb
  replace c7 := cell_call c7 hb
  replace c8 := cell_call c8 hb
  replace c9 := cell_call c9 hb
  replace c10 := cell_call c10 hb
  replace c11 := cell_call c11 hb
  replace Z : Hid (w.heap.size + 1 ≤ Wf.heap.size) := Lib.hid (Nat.le_trans Z.out hb.size)
  replace B := Lib.hid (belT B.out hb)
  clear hb FF
  cases f
  rotate_left
  · have E : Hid (armB X Y n0 n1 n2 W l0 l1 l2 h0 h1 h2 = false) := Lib.hid (Bool.eq_false_iff.2 fun h => by have a := AI.out.1 h; have g := of_decide_eq_true hf.out; omega)
    clear AI hf eX eY
    go_wp2_with fail
    go_ret
    exact ⟨ret_bool (by rw [← ht.out, E.out]), B.out⟩
  have ff := Lib.hid (of_decide_eq_false hf.out)
  clear hf
  by_cases t0 : W < 1
  · have E : Hid (armB X Y n0 n1 n2 W l0 l1 l2 h0 h1 h2 = false) := Lib.hid (Bool.eq_false_iff.2 fun h => by have a := AI.out.1 h; omega)
    clear AI eX eY
    go_wp2_with fail
    go_ret
    exact ⟨ret_bool (by rw [← ht.out, E.out]), B.out⟩
  have s0 := Lib.hid t0
  replace t0 : decide (W < 1) = false := decide_eq_false t0
  by_cases t1 : 4 < W
  · have E : Hid (armB X Y n0 n1 n2 W l0 l1 l2 h0 h1 h2 = false) := Lib.hid (Bool.eq_false_iff.2 fun h => by have a := AI.out.1 h; omega)
    clear AI eX eY
    go_wp2_with fail
    go_ret
    exact ⟨ret_bool (by rw [← ht.out, E.out]), B.out⟩
  have s1 := Lib.hid t1
  replace t1 : decide (4 < W) = false := decide_eq_false t1
  by_cases t2 : ¬ X.tmod 16 = 0
  · have E : Hid (armB X Y n0 n1 n2 W l0 l1 l2 h0 h1 h2 = false) := Lib.hid (Bool.eq_false_iff.2 fun h => by have a := AI.out.1 h; have g := eX.out.1 t2; omega)
    clear AI eX eY
    go_wp2_with fail
    go_ret
    exact ⟨ret_bool (by rw [← ht.out, E.out]), B.out⟩
  have mX : Hid (X % 16 = 0) := Lib.hid (by have := eX.out; omega)
  replace t2 : X.tmod 16 = 0 := Decidable.not_not.1 t2
  by_cases t3 : ¬ Y.tmod 16 = 0
  · have E : Hid (armB X Y n0 n1 n2 W l0 l1 l2 h0 h1 h2 = false) := Lib.hid (Bool.eq_false_iff.2 fun h => by have a := AI.out.1 h; have g := eY.out.1 t3; omega)
    clear AI eX eY
    go_wp2_with fail
    go_ret
    exact ⟨ret_bool (by rw [← ht.out, E.out]), B.out⟩
  have mY : Hid (Y % 16 = 0) := Lib.hid (by have := eY.out; omega)
  replace t3 : Y.tmod 16 = 0 := Decidable.not_not.1 t3
  clear eX eY
  go_wp2_with fail
  clear t0 t1 t2 t3
  have sW : 1 ≤ W ∧ W ≤ 4 := by have := s0.out; have := s1.out; omega
  refine wp_loop_rounds 4 ?_
  rw [rounds_succ]
  go_wp2_with fail
  by_cases a00 : n0 < 1
  · have E : Hid (armB X Y n0 n1 n2 W l0 l1 l2 h0 h1 h2 = false) := Lib.hid (Bool.eq_false_iff.2 fun h => by have a := AI.out.1 h; omega)
    clear AI
    go_quiet (fail)
    obtain ⟨V0, hW⟩ : ∃ x, Wf.drewN nq = x := ⟨_, rfl⟩
    rw [hW]
    replace c0 : V0.cell? ⟨w.heap.size, 0, none⟩ = some (.int .i64 X) := by rw [← hW]; exact c0
    replace c1 : V0.cell? ⟨w.heap.size, 1, none⟩ = some (.int .i64 Y) := by rw [← hW]; exact c1
    replace c2 : V0.cell? ⟨w.heap.size, 2, none⟩ = some (.int .i64 n0) := by rw [← hW]; exact c2
    replace c3 : V0.cell? ⟨w.heap.size, 3, none⟩ = some (.int .i64 n1) := by rw [← hW]; exact c3
    replace c4 : V0.cell? ⟨w.heap.size, 4, none⟩ = some (.int .i64 n2) := by rw [← hW]; exact c4
    replace c5 : V0.cell? ⟨w.heap.size, 5, none⟩ = some (.int .i64 W) := by rw [← hW]; exact c5
    replace c6 : V0.cell? ⟨w.heap.size, 6, none⟩ = some (.int .i64 l0) := by rw [← hW]; exact c6
    replace c7 : V0.cell? ⟨w.heap.size, 7, none⟩ = some (.int .i64 l1) := by rw [← hW]; exact c7
    replace c8 : V0.cell? ⟨w.heap.size, 8, none⟩ = some (.int .i64 l2) := by rw [← hW]; exact c8
    replace c9 : V0.cell? ⟨w.heap.size, 9, none⟩ = some (.int .i64 h0) := by rw [← hW]; exact c9
    replace c10 : V0.cell? ⟨w.heap.size, 10, none⟩ = some (.int .i64 h1) := by rw [← hW]; exact c10
    replace c11 : V0.cell? ⟨w.heap.size, 11, none⟩ = some (.int .i64 h2) := by rw [← hW]; exact c11
    replace B : Hid (Below w.heap.size w V0) := Lib.hid (by rw [← hW]; exact below_drewN B.out _)
    replace Z : Hid (w.heap.size + 1 ≤ V0.heap.size) := Lib.hid (by rw [← hW]; exact Z.out)
    clear hW
    go_wp2_with fail
    go_ret
    exact ⟨ret_bool (by rw [← ht.out, E.out]), B.out⟩
  have b00 := Lib.hid a00
  replace a00 : decide (n0 < 1) = false := decide_eq_false a00
  by_cases a01 : 40 < n0
  · have E : Hid (armB X Y n0 n1 n2 W l0 l1 l2 h0 h1 h2 = false) := Lib.hid (Bool.eq_false_iff.2 fun h => by have a := AI.out.1 h; omega)
    clear AI
    go_quiet (fail)
    obtain ⟨V0, hW⟩ : ∃ x, Wf.drewN nq = x := ⟨_, rfl⟩
    rw [hW]
    replace c0 : V0.cell? ⟨w.heap.size, 0, none⟩ = some (.int .i64 X) := by rw [← hW]; exact c0
    replace c1 : V0.cell? ⟨w.heap.size, 1, none⟩ = some (.int .i64 Y) := by rw [← hW]; exact c1
    replace c2 : V0.cell? ⟨w.heap.size, 2, none⟩ = some (.int .i64 n0) := by rw [← hW]; exact c2
    replace c3 : V0.cell? ⟨w.heap.size, 3, none⟩ = some (.int .i64 n1) := by rw [← hW]; exact c3
    replace c4 : V0.cell? ⟨w.heap.size, 4, none⟩ = some (.int .i64 n2) := by rw [← hW]; exact c4
    replace c5 : V0.cell? ⟨w.heap.size, 5, none⟩ = some (.int .i64 W) := by rw [← hW]; exact c5
    replace c6 : V0.cell? ⟨w.heap.size, 6, none⟩ = some (.int .i64 l0) := by rw [← hW]; exact c6
    replace c7 : V0.cell? ⟨w.heap.size, 7, none⟩ = some (.int .i64 l1) := by rw [← hW]; exact c7
    replace c8 : V0.cell? ⟨w.heap.size, 8, none⟩ = some (.int .i64 l2) := by rw [← hW]; exact c8
    replace c9 : V0.cell? ⟨w.heap.size, 9, none⟩ = some (.int .i64 h0) := by rw [← hW]; exact c9
    replace c10 : V0.cell? ⟨w.heap.size, 10, none⟩ = some (.int .i64 h1) := by rw [← hW]; exact c10
    replace c11 : V0.cell? ⟨w.heap.size, 11, none⟩ = some (.int .i64 h2) := by rw [← hW]; exact c11
    replace B : Hid (Below w.heap.size w V0) := Lib.hid (by rw [← hW]; exact below_drewN B.out _)
    replace Z : Hid (w.heap.size + 1 ≤ V0.heap.size) := Lib.hid (by rw [← hW]; exact Z.out)
    clear hW
    go_wp2_with fail
    go_ret
    exact ⟨ret_bool (by rw [← ht.out, E.out]), B.out⟩
  have b01 := Lib.hid a01
  replace a01 : decide (40 < n0) = false := decide_eq_false a01
  by_cases a02 : l0 < -17
  · have E : Hid (armB X Y n0 n1 n2 W l0 l1 l2 h0 h1 h2 = false) := Lib.hid (Bool.eq_false_iff.2 fun h => by have a := AI.out.1 h; omega)
    clear AI
    go_quiet (fail)
    obtain ⟨V0, hW⟩ : ∃ x, Wf.drewN nq = x := ⟨_, rfl⟩
    rw [hW]
    replace c0 : V0.cell? ⟨w.heap.size, 0, none⟩ = some (.int .i64 X) := by rw [← hW]; exact c0
    replace c1 : V0.cell? ⟨w.heap.size, 1, none⟩ = some (.int .i64 Y) := by rw [← hW]; exact c1
    replace c2 : V0.cell? ⟨w.heap.size, 2, none⟩ = some (.int .i64 n0) := by rw [← hW]; exact c2
    replace c3 : V0.cell? ⟨w.heap.size, 3, none⟩ = some (.int .i64 n1) := by rw [← hW]; exact c3
    replace c4 : V0.cell? ⟨w.heap.size, 4, none⟩ = some (.int .i64 n2) := by rw [← hW]; exact c4
    replace c5 : V0.cell? ⟨w.heap.size, 5, none⟩ = some (.int .i64 W) := by rw [← hW]; exact c5
    replace c6 : V0.cell? ⟨w.heap.size, 6, none⟩ = some (.int .i64 l0) := by rw [← hW]; exact c6
    replace c7 : V0.cell? ⟨w.heap.size, 7, none⟩ = some (.int .i64 l1) := by rw [← hW]; exact c7
    replace c8 : V0.cell? ⟨w.heap.size, 8, none⟩ = some (.int .i64 l2) := by rw [← hW]; exact c8
    replace c9 : V0.cell? ⟨w.heap.size, 9, none⟩ = some (.int .i64 h0) := by rw [← hW]; exact c9
    replace c10 : V0.cell? ⟨w.heap.size, 10, none⟩ = some (.int .i64 h1) := by rw [← hW]; exact c10
    replace c11 : V0.cell? ⟨w.heap.size, 11, none⟩ = some (.int .i64 h2) := by rw [← hW]; exact c11
    replace B : Hid (Below w.heap.size w V0) := Lib.hid (by rw [← hW]; exact below_drewN B.out _)
    replace Z : Hid (w.heap.size + 1 ≤ V0.heap.size) := Lib.hid (by rw [← hW]; exact Z.out)
    clear hW
    go_wp2_with fail
    go_ret
    exact ⟨ret_bool (by rw [← ht.out, E.out]), B.out⟩
  have b02 := Lib.hid a02
  replace a02 : decide (l0 < -17) = false := decide_eq_false a02
  by_cases a03 : 18 < l0
  · have E : Hid (armB X Y n0 n1 n2 W l0 l1 l2 h0 h1 h2 = false) := Lib.hid (Bool.eq_false_iff.2 fun h => by have a := AI.out.1 h; omega)
    clear AI
    go_quiet (fail)
    obtain ⟨V0, hW⟩ : ∃ x, Wf.drewN nq = x := ⟨_, rfl⟩
    rw [hW]
    replace c0 : V0.cell? ⟨w.heap.size, 0, none⟩ = some (.int .i64 X) := by rw [← hW]; exact c0
    replace c1 : V0.cell? ⟨w.heap.size, 1, none⟩ = some (.int .i64 Y) := by rw [← hW]; exact c1
    replace c2 : V0.cell? ⟨w.heap.size, 2, none⟩ = some (.int .i64 n0) := by rw [← hW]; exact c2
    replace c3 : V0.cell? ⟨w.heap.size, 3, none⟩ = some (.int .i64 n1) := by rw [← hW]; exact c3
    replace c4 : V0.cell? ⟨w.heap.size, 4, none⟩ = some (.int .i64 n2) := by rw [← hW]; exact c4
    replace c5 : V0.cell? ⟨w.heap.size, 5, none⟩ = some (.int .i64 W) := by rw [← hW]; exact c5
    replace c6 : V0.cell? ⟨w.heap.size, 6, none⟩ = some (.int .i64 l0) := by rw [← hW]; exact c6
    replace c7 : V0.cell? ⟨w.heap.size, 7, none⟩ = some (.int .i64 l1) := by rw [← hW]; exact c7
    replace c8 : V0.cell? ⟨w.heap.size, 8, none⟩ = some (.int .i64 l2) := by rw [← hW]; exact c8
    replace c9 : V0.cell? ⟨w.heap.size, 9, none⟩ = some (.int .i64 h0) := by rw [← hW]; exact c9
    replace c10 : V0.cell? ⟨w.heap.size, 10, none⟩ = some (.int .i64 h1) := by rw [← hW]; exact c10
    replace c11 : V0.cell? ⟨w.heap.size, 11, none⟩ = some (.int .i64 h2) := by rw [← hW]; exact c11
    replace B : Hid (Below w.heap.size w V0) := Lib.hid (by rw [← hW]; exact below_drewN B.out _)
    replace Z : Hid (w.heap.size + 1 ≤ V0.heap.size) := Lib.hid (by rw [← hW]; exact Z.out)
    clear hW
    go_wp2_with fail
    go_ret
    exact ⟨ret_bool (by rw [← ht.out, E.out]), B.out⟩
  have b03 := Lib.hid a03
  replace a03 : decide (18 < l0) = false := decide_eq_false a03
  by_cases a04 : h0 < -17
  · have E : Hid (armB X Y n0 n1 n2 W l0 l1 l2 h0 h1 h2 = false) := Lib.hid (Bool.eq_false_iff.2 fun h => by have a := AI.out.1 h; omega)
    clear AI
    go_quiet (fail)
    obtain ⟨V0, hW⟩ : ∃ x, Wf.drewN nq = x := ⟨_, rfl⟩
    rw [hW]
    replace c0 : V0.cell? ⟨w.heap.size, 0, none⟩ = some (.int .i64 X) := by rw [← hW]; exact c0
    replace c1 : V0.cell? ⟨w.heap.size, 1, none⟩ = some (.int .i64 Y) := by rw [← hW]; exact c1
    replace c2 : V0.cell? ⟨w.heap.size, 2, none⟩ = some (.int .i64 n0) := by rw [← hW]; exact c2
    replace c3 : V0.cell? ⟨w.heap.size, 3, none⟩ = some (.int .i64 n1) := by rw [← hW]; exact c3
    replace c4 : V0.cell? ⟨w.heap.size, 4, none⟩ = some (.int .i64 n2) := by rw [← hW]; exact c4
    replace c5 : V0.cell? ⟨w.heap.size, 5, none⟩ = some (.int .i64 W) := by rw [← hW]; exact c5
    replace c6 : V0.cell? ⟨w.heap.size, 6, none⟩ = some (.int .i64 l0) := by rw [← hW]; exact c6
    replace c7 : V0.cell? ⟨w.heap.size, 7, none⟩ = some (.int .i64 l1) := by rw [← hW]; exact c7
    replace c8 : V0.cell? ⟨w.heap.size, 8, none⟩ = some (.int .i64 l2) := by rw [← hW]; exact c8
    replace c9 : V0.cell? ⟨w.heap.size, 9, none⟩ = some (.int .i64 h0) := by rw [← hW]; exact c9
    replace c10 : V0.cell? ⟨w.heap.size, 10, none⟩ = some (.int .i64 h1) := by rw [← hW]; exact c10
    replace c11 : V0.cell? ⟨w.heap.size, 11, none⟩ = some (.int .i64 h2) := by rw [← hW]; exact c11
    replace B : Hid (Below w.heap.size w V0) := Lib.hid (by rw [← hW]; exact below_drewN B.out _)
    replace Z : Hid (w.heap.size + 1 ≤ V0.heap.size) := Lib.hid (by rw [← hW]; exact Z.out)
    clear hW
    go_wp2_with fail
    go_ret
    exact ⟨ret_bool (by rw [← ht.out, E.out]), B.out⟩
  have b04 := Lib.hid a04
  replace a04 : decide (h0 < -17) = false := decide_eq_false a04
  by_cases a05 : 18 < h0
  · have E : Hid (armB X Y n0 n1 n2 W l0 l1 l2 h0 h1 h2 = false) := Lib.hid (Bool.eq_false_iff.2 fun h => by have a := AI.out.1 h; omega)
    clear AI
    go_quiet (fail)
    obtain ⟨V0, hW⟩ : ∃ x, Wf.drewN nq = x := ⟨_, rfl⟩
    rw [hW]
    replace c0 : V0.cell? ⟨w.heap.size, 0, none⟩ = some (.int .i64 X) := by rw [← hW]; exact c0
    replace c1 : V0.cell? ⟨w.heap.size, 1, none⟩ = some (.int .i64 Y) := by rw [← hW]; exact c1
    replace c2 : V0.cell? ⟨w.heap.size, 2, none⟩ = some (.int .i64 n0) := by rw [← hW]; exact c2
    replace c3 : V0.cell? ⟨w.heap.size, 3, none⟩ = some (.int .i64 n1) := by rw [← hW]; exact c3
    replace c4 : V0.cell? ⟨w.heap.size, 4, none⟩ = some (.int .i64 n2) := by rw [← hW]; exact c4
    replace c5 : V0.cell? ⟨w.heap.size, 5, none⟩ = some (.int .i64 W) := by rw [← hW]; exact c5
    replace c6 : V0.cell? ⟨w.heap.size, 6, none⟩ = some (.int .i64 l0) := by rw [← hW]; exact c6
    replace c7 : V0.cell? ⟨w.heap.size, 7, none⟩ = some (.int .i64 l1) := by rw [← hW]; exact c7
    replace c8 : V0.cell? ⟨w.heap.size, 8, none⟩ = some (.int .i64 l2) := by rw [← hW]; exact c8
    replace c9 : V0.cell? ⟨w.heap.size, 9, none⟩ = some (.int .i64 h0) := by rw [← hW]; exact c9
    replace c10 : V0.cell? ⟨w.heap.size, 10, none⟩ = some (.int .i64 h1) := by rw [← hW]; exact c10
    replace c11 : V0.cell? ⟨w.heap.size, 11, none⟩ = some (.int .i64 h2) := by rw [← hW]; exact c11
    replace B : Hid (Below w.heap.size w V0) := Lib.hid (by rw [← hW]; exact below_drewN B.out _)
    replace Z : Hid (w.heap.size + 1 ≤ V0.heap.size) := Lib.hid (by rw [← hW]; exact Z.out)
    clear hW
    go_wp2_with fail
    go_ret
    exact ⟨ret_bool (by rw [← ht.out, E.out]), B.out⟩
  have b05 := Lib.hid a05
  replace a05 : decide (18 < h0) = false := decide_eq_false a05
  by_cases a06 : h0 < l0
  · have E : Hid (armB X Y n0 n1 n2 W l0 l1 l2 h0 h1 h2 = false) := Lib.hid (Bool.eq_false_iff.2 fun h => by have a := AI.out.1 h; omega)
    clear AI
    go_quiet (fail)
    obtain ⟨V0, hW⟩ : ∃ x, Wf.drewN nq = x := ⟨_, rfl⟩
    rw [hW]
    replace c0 : V0.cell? ⟨w.heap.size, 0, none⟩ = some (.int .i64 X) := by rw [← hW]; exact c0
    replace c1 : V0.cell? ⟨w.heap.size, 1, none⟩ = some (.int .i64 Y) := by rw [← hW]; exact c1
    replace c2 : V0.cell? ⟨w.heap.size, 2, none⟩ = some (.int .i64 n0) := by rw [← hW]; exact c2
    replace c3 : V0.cell? ⟨w.heap.size, 3, none⟩ = some (.int .i64 n1) := by rw [← hW]; exact c3
    replace c4 : V0.cell? ⟨w.heap.size, 4, none⟩ = some (.int .i64 n2) := by rw [← hW]; exact c4
    replace c5 : V0.cell? ⟨w.heap.size, 5, none⟩ = some (.int .i64 W) := by rw [← hW]; exact c5
    replace c6 : V0.cell? ⟨w.heap.size, 6, none⟩ = some (.int .i64 l0) := by rw [← hW]; exact c6
    replace c7 : V0.cell? ⟨w.heap.size, 7, none⟩ = some (.int .i64 l1) := by rw [← hW]; exact c7
    replace c8 : V0.cell? ⟨w.heap.size, 8, none⟩ = some (.int .i64 l2) := by rw [← hW]; exact c8
    replace c9 : V0.cell? ⟨w.heap.size, 9, none⟩ = some (.int .i64 h0) := by rw [← hW]; exact c9
    replace c10 : V0.cell? ⟨w.heap.size, 10, none⟩ = some (.int .i64 h1) := by rw [← hW]; exact c10
    replace c11 : V0.cell? ⟨w.heap.size, 11, none⟩ = some (.int .i64 h2) := by rw [← hW]; exact c11
    replace B : Hid (Below w.heap.size w V0) := Lib.hid (by rw [← hW]; exact below_drewN B.out _)
    replace Z : Hid (w.heap.size + 1 ≤ V0.heap.size) := Lib.hid (by rw [← hW]; exact Z.out)
    clear hW
    go_wp2_with fail
    go_ret
    exact ⟨ret_bool (by rw [← ht.out, E.out]), B.out⟩
  have b06 := Lib.hid a06
  replace a06 : decide (h0 < l0) = false := decide_eq_false a06
  have sn0 : 1 ≤ n0 ∧ n0 ≤ 40 := by have := b00.out; have := b01.out; omega
  go_quiet (fail)
  obtain ⟨V0, hW⟩ : ∃ x, Wf.drewN nq = x := ⟨_, rfl⟩
  rw [hW]
  replace c0 : V0.cell? ⟨w.heap.size, 0, none⟩ = some (.int .i64 X) := by rw [← hW]; exact c0
  replace c1 : V0.cell? ⟨w.heap.size, 1, none⟩ = some (.int .i64 Y) := by rw [← hW]; exact c1
  replace c2 : V0.cell? ⟨w.heap.size, 2, none⟩ = some (.int .i64 n0) := by rw [← hW]; exact c2
  replace c3 : V0.cell? ⟨w.heap.size, 3, none⟩ = some (.int .i64 n1) := by rw [← hW]; exact c3
  replace c4 : V0.cell? ⟨w.heap.size, 4, none⟩ = some (.int .i64 n2) := by rw [← hW]; exact c4
  replace c5 : V0.cell? ⟨w.heap.size, 5, none⟩ = some (.int .i64 W) := by rw [← hW]; exact c5
  replace c6 : V0.cell? ⟨w.heap.size, 6, none⟩ = some (.int .i64 l0) := by rw [← hW]; exact c6
  replace c7 : V0.cell? ⟨w.heap.size, 7, none⟩ = some (.int .i64 l1) := by rw [← hW]; exact c7
  replace c8 : V0.cell? ⟨w.heap.size, 8, none⟩ = some (.int .i64 l2) := by rw [← hW]; exact c8
  replace c9 : V0.cell? ⟨w.heap.size, 9, none⟩ = some (.int .i64 h0) := by rw [← hW]; exact c9
  replace c10 : V0.cell? ⟨w.heap.size, 10, none⟩ = some (.int .i64 h1) := by rw [← hW]; exact c10
  replace c11 : V0.cell? ⟨w.heap.size, 11, none⟩ = some (.int .i64 h2) := by rw [← hW]; exact c11
  replace B : Hid (Below w.heap.size w V0) := Lib.hid (by rw [← hW]; exact below_drewN B.out _)
  replace Z : Hid (w.heap.size + 1 ≤ V0.heap.size) := Lib.hid (by rw [← hW]; exact Z.out)
  clear hW
  go_wp2_with fail
  clear a00 a01 a02 a03 a04 a05 a06
  rw [rounds_succ]
  go_wp2_with fail
  by_cases a10 : n1 < 1
  · have E : Hid (armB X Y n0 n1 n2 W l0 l1 l2 h0 h1 h2 = false) := Lib.hid (Bool.eq_false_iff.2 fun h => by have a := AI.out.1 h; omega)
    clear AI
    go_quiet (fail)
    obtain ⟨V1, hW⟩ : ∃ x, V0.drewN nq = x := ⟨_, rfl⟩
    rw [hW]
    replace c0 : V1.cell? ⟨w.heap.size, 0, none⟩ = some (.int .i64 X) := by rw [← hW]; exact c0
    replace c1 : V1.cell? ⟨w.heap.size, 1, none⟩ = some (.int .i64 Y) := by rw [← hW]; exact c1
    replace c2 : V1.cell? ⟨w.heap.size, 2, none⟩ = some (.int .i64 n0) := by rw [← hW]; exact c2
    replace c3 : V1.cell? ⟨w.heap.size, 3, none⟩ = some (.int .i64 n1) := by rw [← hW]; exact c3
    replace c4 : V1.cell? ⟨w.heap.size, 4, none⟩ = some (.int .i64 n2) := by rw [← hW]; exact c4
    replace c5 : V1.cell? ⟨w.heap.size, 5, none⟩ = some (.int .i64 W) := by rw [← hW]; exact c5
    replace c6 : V1.cell? ⟨w.heap.size, 6, none⟩ = some (.int .i64 l0) := by rw [← hW]; exact c6
    replace c7 : V1.cell? ⟨w.heap.size, 7, none⟩ = some (.int .i64 l1) := by rw [← hW]; exact c7
    replace c8 : V1.cell? ⟨w.heap.size, 8, none⟩ = some (.int .i64 l2) := by rw [← hW]; exact c8
    replace c9 : V1.cell? ⟨w.heap.size, 9, none⟩ = some (.int .i64 h0) := by rw [← hW]; exact c9
    replace c10 : V1.cell? ⟨w.heap.size, 10, none⟩ = some (.int .i64 h1) := by rw [← hW]; exact c10
    replace c11 : V1.cell? ⟨w.heap.size, 11, none⟩ = some (.int .i64 h2) := by rw [← hW]; exact c11
    replace B : Hid (Below w.heap.size w V1) := Lib.hid (by rw [← hW]; exact below_drewN B.out _)
    replace Z : Hid (w.heap.size + 1 ≤ V1.heap.size) := Lib.hid (by rw [← hW]; exact Z.out)
    clear hW
    go_wp2_with fail
    go_ret
    exact ⟨ret_bool (by rw [← ht.out, E.out]), B.out⟩
  have b10 := Lib.hid a10
  replace a10 : decide (n1 < 1) = false := decide_eq_false a10
  by_cases a11 : 40 < n1
  · have E : Hid (armB X Y n0 n1 n2 W l0 l1 l2 h0 h1 h2 = false) := Lib.hid (Bool.eq_false_iff.2 fun h => by have a := AI.out.1 h; omega)
    clear AI
    go_quiet (fail)
    obtain ⟨V1, hW⟩ : ∃ x, V0.drewN nq = x := ⟨_, rfl⟩
    rw [hW]
    replace c0 : V1.cell? ⟨w.heap.size, 0, none⟩ = some (.int .i64 X) := by rw [← hW]; exact c0
    replace c1 : V1.cell? ⟨w.heap.size, 1, none⟩ = some (.int .i64 Y) := by rw [← hW]; exact c1
    replace c2 : V1.cell? ⟨w.heap.size, 2, none⟩ = some (.int .i64 n0) := by rw [← hW]; exact c2
    replace c3 : V1.cell? ⟨w.heap.size, 3, none⟩ = some (.int .i64 n1) := by rw [← hW]; exact c3
    replace c4 : V1.cell? ⟨w.heap.size, 4, none⟩ = some (.int .i64 n2) := by rw [← hW]; exact c4
    replace c5 : V1.cell? ⟨w.heap.size, 5, none⟩ = some (.int .i64 W) := by rw [← hW]; exact c5
    replace c6 : V1.cell? ⟨w.heap.size, 6, none⟩ = some (.int .i64 l0) := by rw [← hW]; exact c6
    replace c7 : V1.cell? ⟨w.heap.size, 7, none⟩ = some (.int .i64 l1) := by rw [← hW]; exact c7
    replace c8 : V1.cell? ⟨w.heap.size, 8, none⟩ = some (.int .i64 l2) := by rw [← hW]; exact c8
    replace c9 : V1.cell? ⟨w.heap.size, 9, none⟩ = some (.int .i64 h0) := by rw [← hW]; exact c9
    replace c10 : V1.cell? ⟨w.heap.size, 10, none⟩ = some (.int .i64 h1) := by rw [← hW]; exact c10
    replace c11 : V1.cell? ⟨w.heap.size, 11, none⟩ = some (.int .i64 h2) := by rw [← hW]; exact c11
    replace B : Hid (Below w.heap.size w V1) := Lib.hid (by rw [← hW]; exact below_drewN B.out _)
    replace Z : Hid (w.heap.size + 1 ≤ V1.heap.size) := Lib.hid (by rw [← hW]; exact Z.out)
    clear hW
    go_wp2_with fail
    go_ret
    exact ⟨ret_bool (by rw [← ht.out, E.out]), B.out⟩
  have b11 := Lib.hid a11
  replace a11 : decide (40 < n1) = false := decide_eq_false a11
  by_cases a12 : l1 < -17
  · have E : Hid (armB X Y n0 n1 n2 W l0 l1 l2 h0 h1 h2 = false) := Lib.hid (Bool.eq_false_iff.2 fun h => by have a := AI.out.1 h; omega)
    clear AI
    go_quiet (fail)
    obtain ⟨V1, hW⟩ : ∃ x, V0.drewN nq = x := ⟨_, rfl⟩
    rw [hW]
    replace c0 : V1.cell? ⟨w.heap.size, 0, none⟩ = some (.int .i64 X) := by rw [← hW]; exact c0
    replace c1 : V1.cell? ⟨w.heap.size, 1, none⟩ = some (.int .i64 Y) := by rw [← hW]; exact c1
    replace c2 : V1.cell? ⟨w.heap.size, 2, none⟩ = some (.int .i64 n0) := by rw [← hW]; exact c2
    replace c3 : V1.cell? ⟨w.heap.size, 3, none⟩ = some (.int .i64 n1) := by rw [← hW]; exact c3
    replace c4 : V1.cell? ⟨w.heap.size, 4, none⟩ = some (.int .i64 n2) := by rw [← hW]; exact c4
    replace c5 : V1.cell? ⟨w.heap.size, 5, none⟩ = some (.int .i64 W) := by rw [← hW]; exact c5
    replace c6 : V1.cell? ⟨w.heap.size, 6, none⟩ = some (.int .i64 l0) := by rw [← hW]; exact c6
    replace c7 : V1.cell? ⟨w.heap.size, 7, none⟩ = some (.int .i64 l1) := by rw [← hW]; exact c7
    replace c8 : V1.cell? ⟨w.heap.size, 8, none⟩ = some (.int .i64 l2) := by rw [← hW]; exact c8
    replace c9 : V1.cell? ⟨w.heap.size, 9, none⟩ = some (.int .i64 h0) := by rw [← hW]; exact c9
    replace c10 : V1.cell? ⟨w.heap.size, 10, none⟩ = some (.int .i64 h1) := by rw [← hW]; exact c10
    replace c11 : V1.cell? ⟨w.heap.size, 11, none⟩ = some (.int .i64 h2) := by rw [← hW]; exact c11
    replace B : Hid (Below w.heap.size w V1) := Lib.hid (by rw [← hW]; exact below_drewN B.out _)
    replace Z : Hid (w.heap.size + 1 ≤ V1.heap.size) := Lib.hid (by rw [← hW]; exact Z.out)
    clear hW
    go_wp2_with fail
    go_ret
    exact ⟨ret_bool (by rw [← ht.out, E.out]), B.out⟩
  have b12 := Lib.hid a12
  replace a12 : decide (l1 < -17) = false := decide_eq_false a12
  by_cases a13 : 18 < l1
  · have E : Hid (armB X Y n0 n1 n2 W l0 l1 l2 h0 h1 h2 = false) := Lib.hid (Bool.eq_false_iff.2 fun h => by have a := AI.out.1 h; omega)
    clear AI
    go_quiet (fail)
    obtain ⟨V1, hW⟩ : ∃ x, V0.drewN nq = x := ⟨_, rfl⟩
    rw [hW]
    replace c0 : V1.cell? ⟨w.heap.size, 0, none⟩ = some (.int .i64 X) := by rw [← hW]; exact c0
    replace c1 : V1.cell? ⟨w.heap.size, 1, none⟩ = some (.int .i64 Y) := by rw [← hW]; exact c1
    replace c2 : V1.cell? ⟨w.heap.size, 2, none⟩ = some (.int .i64 n0) := by rw [← hW]; exact c2
    replace c3 : V1.cell? ⟨w.heap.size, 3, none⟩ = some (.int .i64 n1) := by rw [← hW]; exact c3
    replace c4 : V1.cell? ⟨w.heap.size, 4, none⟩ = some (.int .i64 n2) := by rw [← hW]; exact c4
    replace c5 : V1.cell? ⟨w.heap.size, 5, none⟩ = some (.int .i64 W) := by rw [← hW]; exact c5
    replace c6 : V1.cell? ⟨w.heap.size, 6, none⟩ = some (.int .i64 l0) := by rw [← hW]; exact c6
    replace c7 : V1.cell? ⟨w.heap.size, 7, none⟩ = some (.int .i64 l1) := by rw [← hW]; exact c7
    replace c8 : V1.cell? ⟨w.heap.size, 8, none⟩ = some (.int .i64 l2) := by rw [← hW]; exact c8
    replace c9 : V1.cell? ⟨w.heap.size, 9, none⟩ = some (.int .i64 h0) := by rw [← hW]; exact c9
    replace c10 : V1.cell? ⟨w.heap.size, 10, none⟩ = some (.int .i64 h1) := by rw [← hW]; exact c10
    replace c11 : V1.cell? ⟨w.heap.size, 11, none⟩ = some (.int .i64 h2) := by rw [← hW]; exact c11
    replace B : Hid (Below w.heap.size w V1) := Lib.hid (by rw [← hW]; exact below_drewN B.out _)
    replace Z : Hid (w.heap.size + 1 ≤ V1.heap.size) := Lib.hid (by rw [← hW]; exact Z.out)
    clear hW
    go_wp2_with fail
    go_ret
    exact ⟨ret_bool (by rw [← ht.out, E.out]), B.out⟩
  have b13 := Lib.hid a13
  replace a13 : decide (18 < l1) = false := decide_eq_false a13
  by_cases a14 : h1 < -17
  · have E : Hid (armB X Y n0 n1 n2 W l0 l1 l2 h0 h1 h2 = false) := Lib.hid (Bool.eq_false_iff.2 fun h => by have a := AI.out.1 h; omega)
    clear AI
    go_quiet (fail)
    obtain ⟨V1, hW⟩ : ∃ x, V0.drewN nq = x := ⟨_, rfl⟩
    rw [hW]
    replace c0 : V1.cell? ⟨w.heap.size, 0, none⟩ = some (.int .i64 X) := by rw [← hW]; exact c0
    replace c1 : V1.cell? ⟨w.heap.size, 1, none⟩ = some (.int .i64 Y) := by rw [← hW]; exact c1
    replace c2 : V1.cell? ⟨w.heap.size, 2, none⟩ = some (.int .i64 n0) := by rw [← hW]; exact c2
    replace c3 : V1.cell? ⟨w.heap.size, 3, none⟩ = some (.int .i64 n1) := by rw [← hW]; exact c3
    replace c4 : V1.cell? ⟨w.heap.size, 4, none⟩ = some (.int .i64 n2) := by rw [← hW]; exact c4
    replace c5 : V1.cell? ⟨w.heap.size, 5, none⟩ = some (.int .i64 W) := by rw [← hW]; exact c5
    replace c6 : V1.cell? ⟨w.heap.size, 6, none⟩ = some (.int .i64 l0) := by rw [← hW]; exact c6
    replace c7 : V1.cell? ⟨w.heap.size, 7, none⟩ = some (.int .i64 l1) := by rw [← hW]; exact c7
    replace c8 : V1.cell? ⟨w.heap.size, 8, none⟩ = some (.int .i64 l2) := by rw [← hW]; exact c8
    replace c9 : V1.cell? ⟨w.heap.size, 9, none⟩ = some (.int .i64 h0) := by rw [← hW]; exact c9
    replace c10 : V1.cell? ⟨w.heap.size, 10, none⟩ = some (.int .i64 h1) := by rw [← hW]; exact c10
    replace c11 : V1.cell? ⟨w.heap.size, 11, none⟩ = some (.int .i64 h2) := by rw [← hW]; exact c11
    replace B : Hid (Below w.heap.size w V1) := Lib.hid (by rw [← hW]; exact below_drewN B.out _)
    replace Z : Hid (w.heap.size + 1 ≤ V1.heap.size) := Lib.hid (by rw [← hW]; exact Z.out)
    clear hW
    go_wp2_with fail
    go_ret
    exact ⟨ret_bool (by rw [← ht.out, E.out]), B.out⟩
  have b14 := Lib.hid a14
  replace a14 : decide (h1 < -17) = false := decide_eq_false a14
  by_cases a15 : 18 < h1
  · have E : Hid (armB X Y n0 n1 n2 W l0 l1 l2 h0 h1 h2 = false) := Lib.hid (Bool.eq_false_iff.2 fun h => by have a := AI.out.1 h; omega)
    clear AI
    go_quiet (fail)
    obtain ⟨V1, hW⟩ : ∃ x, V0.drewN nq = x := ⟨_, rfl⟩
    rw [hW]
    replace c0 : V1.cell? ⟨w.heap.size, 0, none⟩ = some (.int .i64 X) := by rw [← hW]; exact c0
    replace c1 : V1.cell? ⟨w.heap.size, 1, none⟩ = some (.int .i64 Y) := by rw [← hW]; exact c1
    replace c2 : V1.cell? ⟨w.heap.size, 2, none⟩ = some (.int .i64 n0) := by rw [← hW]; exact c2
    replace c3 : V1.cell? ⟨w.heap.size, 3, none⟩ = some (.int .i64 n1) := by rw [← hW]; exact c3
    replace c4 : V1.cell? ⟨w.heap.size, 4, none⟩ = some (.int .i64 n2) := by rw [← hW]; exact c4
    replace c5 : V1.cell? ⟨w.heap.size, 5, none⟩ = some (.int .i64 W) := by rw [← hW]; exact c5
    replace c6 : V1.cell? ⟨w.heap.size, 6, none⟩ = some (.int .i64 l0) := by rw [← hW]; exact c6
    replace c7 : V1.cell? ⟨w.heap.size, 7, none⟩ = some (.int .i64 l1) := by rw [← hW]; exact c7
    replace c8 : V1.cell? ⟨w.heap.size, 8, none⟩ = some (.int .i64 l2) := by rw [← hW]; exact c8
    replace c9 : V1.cell? ⟨w.heap.size, 9, none⟩ = some (.int .i64 h0) := by rw [← hW]; exact c9
    replace c10 : V1.cell? ⟨w.heap.size, 10, none⟩ = some (.int .i64 h1) := by rw [← hW]; exact c10
    replace c11 : V1.cell? ⟨w.heap.size, 11, none⟩ = some (.int .i64 h2) := by rw [← hW]; exact c11
    replace B : Hid (Below w.heap.size w V1) := Lib.hid (by rw [← hW]; exact below_drewN B.out _)
    replace Z : Hid (w.heap.size + 1 ≤ V1.heap.size) := Lib.hid (by rw [← hW]; exact Z.out)
    clear hW
    go_wp2_with fail
    go_ret
    exact ⟨ret_bool (by rw [← ht.out, E.out]), B.out⟩
  have b15 := Lib.hid a15
  replace a15 : decide (18 < h1) = false := decide_eq_false a15
  by_cases a16 : h1 < l1
  · have E : Hid (armB X Y n0 n1 n2 W l0 l1 l2 h0 h1 h2 = false) := Lib.hid (Bool.eq_false_iff.2 fun h => by have a := AI.out.1 h; omega)
    clear AI
    go_quiet (fail)
    obtain ⟨V1, hW⟩ : ∃ x, V0.drewN nq = x := ⟨_, rfl⟩
    rw [hW]
    replace c0 : V1.cell? ⟨w.heap.size, 0, none⟩ = some (.int .i64 X) := by rw [← hW]; exact c0
    replace c1 : V1.cell? ⟨w.heap.size, 1, none⟩ = some (.int .i64 Y) := by rw [← hW]; exact c1
    replace c2 : V1.cell? ⟨w.heap.size, 2, none⟩ = some (.int .i64 n0) := by rw [← hW]; exact c2
    replace c3 : V1.cell? ⟨w.heap.size, 3, none⟩ = some (.int .i64 n1) := by rw [← hW]; exact c3
    replace c4 : V1.cell? ⟨w.heap.size, 4, none⟩ = some (.int .i64 n2) := by rw [← hW]; exact c4
    replace c5 : V1.cell? ⟨w.heap.size, 5, none⟩ = some (.int .i64 W) := by rw [← hW]; exact c5
    replace c6 : V1.cell? ⟨w.heap.size, 6, none⟩ = some (.int .i64 l0) := by rw [← hW]; exact c6
    replace c7 : V1.cell? ⟨w.heap.size, 7, none⟩ = some (.int .i64 l1) := by rw [← hW]; exact c7
    replace c8 : V1.cell? ⟨w.heap.size, 8, none⟩ = some (.int .i64 l2) := by rw [← hW]; exact c8
    replace c9 : V1.cell? ⟨w.heap.size, 9, none⟩ = some (.int .i64 h0) := by rw [← hW]; exact c9
    replace c10 : V1.cell? ⟨w.heap.size, 10, none⟩ = some (.int .i64 h1) := by rw [← hW]; exact c10
    replace c11 : V1.cell? ⟨w.heap.size, 11, none⟩ = some (.int .i64 h2) := by rw [← hW]; exact c11
    replace B : Hid (Below w.heap.size w V1) := Lib.hid (by rw [← hW]; exact below_drewN B.out _)
    replace Z : Hid (w.heap.size + 1 ≤ V1.heap.size) := Lib.hid (by rw [← hW]; exact Z.out)
    clear hW
    go_wp2_with fail
    go_ret
    exact ⟨ret_bool (by rw [← ht.out, E.out]), B.out⟩
  have b16 := Lib.hid a16
  replace a16 : decide (h1 < l1) = false := decide_eq_false a16
  have sn1 : 1 ≤ n1 ∧ n1 ≤ 40 := by have := b10.out; have := b11.out; omega
  go_quiet (fail)
  obtain ⟨V1, hW⟩ : ∃ x, V0.drewN nq = x := ⟨_, rfl⟩
  rw [hW]
  replace c0 : V1.cell? ⟨w.heap.size, 0, none⟩ = some (.int .i64 X) := by rw [← hW]; exact c0
  replace c1 : V1.cell? ⟨w.heap.size, 1, none⟩ = some (.int .i64 Y) := by rw [← hW]; exact c1
  replace c2 : V1.cell? ⟨w.heap.size, 2, none⟩ = some (.int .i64 n0) := by rw [← hW]; exact c2
  replace c3 : V1.cell? ⟨w.heap.size, 3, none⟩ = some (.int .i64 n1) := by rw [← hW]; exact c3
  replace c4 : V1.cell? ⟨w.heap.size, 4, none⟩ = some (.int .i64 n2) := by rw [← hW]; exact c4
  replace c5 : V1.cell? ⟨w.heap.size, 5, none⟩ = some (.int .i64 W) := by rw [← hW]; exact c5
  replace c6 : V1.cell? ⟨w.heap.size, 6, none⟩ = some (.int .i64 l0) := by rw [← hW]; exact c6
  replace c7 : V1.cell? ⟨w.heap.size, 7, none⟩ = some (.int .i64 l1) := by rw [← hW]; exact c7
  replace c8 : V1.cell? ⟨w.heap.size, 8, none⟩ = some (.int .i64 l2) := by rw [← hW]; exact c8
  replace c9 : V1.cell? ⟨w.heap.size, 9, none⟩ = some (.int .i64 h0) := by rw [← hW]; exact c9
  replace c10 : V1.cell? ⟨w.heap.size, 10, none⟩ = some (.int .i64 h1) := by rw [← hW]; exact c10
  replace c11 : V1.cell? ⟨w.heap.size, 11, none⟩ = some (.int .i64 h2) := by rw [← hW]; exact c11
  replace B : Hid (Below w.heap.size w V1) := Lib.hid (by rw [← hW]; exact below_drewN B.out _)
  replace Z : Hid (w.heap.size + 1 ≤ V1.heap.size) := Lib.hid (by rw [← hW]; exact Z.out)
  clear hW
  go_wp2_with fail
  clear a10 a11 a12 a13 a14 a15 a16
  rw [rounds_succ]
  go_wp2_with fail
  by_cases a20 : n2 < 1
  · have E : Hid (armB X Y n0 n1 n2 W l0 l1 l2 h0 h1 h2 = false) := Lib.hid (Bool.eq_false_iff.2 fun h => by have a := AI.out.1 h; omega)
    clear AI
    go_quiet (fail)
    obtain ⟨V2, hW⟩ : ∃ x, V1.drewN nq = x := ⟨_, rfl⟩
    rw [hW]
    replace c0 : V2.cell? ⟨w.heap.size, 0, none⟩ = some (.int .i64 X) := by rw [← hW]; exact c0
    replace c1 : V2.cell? ⟨w.heap.size, 1, none⟩ = some (.int .i64 Y) := by rw [← hW]; exact c1
    replace c2 : V2.cell? ⟨w.heap.size, 2, none⟩ = some (.int .i64 n0) := by rw [← hW]; exact c2
    replace c3 : V2.cell? ⟨w.heap.size, 3, none⟩ = some (.int .i64 n1) := by rw [← hW]; exact c3
    replace c4 : V2.cell? ⟨w.heap.size, 4, none⟩ = some (.int .i64 n2) := by rw [← hW]; exact c4
    replace c5 : V2.cell? ⟨w.heap.size, 5, none⟩ = some (.int .i64 W) := by rw [← hW]; exact c5
    replace c6 : V2.cell? ⟨w.heap.size, 6, none⟩ = some (.int .i64 l0) := by rw [← hW]; exact c6
    replace c7 : V2.cell? ⟨w.heap.size, 7, none⟩ = some (.int .i64 l1) := by rw [← hW]; exact c7
    replace c8 : V2.cell? ⟨w.heap.size, 8, none⟩ = some (.int .i64 l2) := by rw [← hW]; exact c8
    replace c9 : V2.cell? ⟨w.heap.size, 9, none⟩ = some (.int .i64 h0) := by rw [← hW]; exact c9
    replace c10 : V2.cell? ⟨w.heap.size, 10, none⟩ = some (.int .i64 h1) := by rw [← hW]; exact c10
    replace c11 : V2.cell? ⟨w.heap.size, 11, none⟩ = some (.int .i64 h2) := by rw [← hW]; exact c11
    replace B : Hid (Below w.heap.size w V2) := Lib.hid (by rw [← hW]; exact below_drewN B.out _)
    replace Z : Hid (w.heap.size + 1 ≤ V2.heap.size) := Lib.hid (by rw [← hW]; exact Z.out)
    clear hW
    go_wp2_with fail
    go_ret
    exact ⟨ret_bool (by rw [← ht.out, E.out]), B.out⟩
  have b20 := Lib.hid a20
  replace a20 : decide (n2 < 1) = false := decide_eq_false a20
  by_cases a21 : 40 < n2
  · have E : Hid (armB X Y n0 n1 n2 W l0 l1 l2 h0 h1 h2 = false) := Lib.hid (Bool.eq_false_iff.2 fun h => by have a := AI.out.1 h; omega)
    clear AI
    go_quiet (fail)
    obtain ⟨V2, hW⟩ : ∃ x, V1.drewN nq = x := ⟨_, rfl⟩
    rw [hW]
    replace c0 : V2.cell? ⟨w.heap.size, 0, none⟩ = some (.int .i64 X) := by rw [← hW]; exact c0
    replace c1 : V2.cell? ⟨w.heap.size, 1, none⟩ = some (.int .i64 Y) := by rw [← hW]; exact c1
    replace c2 : V2.cell? ⟨w.heap.size, 2, none⟩ = some (.int .i64 n0) := by rw [← hW]; exact c2
    replace c3 : V2.cell? ⟨w.heap.size, 3, none⟩ = some (.int .i64 n1) := by rw [← hW]; exact c3
    replace c4 : V2.cell? ⟨w.heap.size, 4, none⟩ = some (.int .i64 n2) := by rw [← hW]; exact c4
    replace c5 : V2.cell? ⟨w.heap.size, 5, none⟩ = some (.int .i64 W) := by rw [← hW]; exact c5
    replace c6 : V2.cell? ⟨w.heap.size, 6, none⟩ = some (.int .i64 l0) := by rw [← hW]; exact c6
    replace c7 : V2.cell? ⟨w.heap.size, 7, none⟩ = some (.int .i64 l1) := by rw [← hW]; exact c7
    replace c8 : V2.cell? ⟨w.heap.size, 8, none⟩ = some (.int .i64 l2) := by rw [← hW]; exact c8
    replace c9 : V2.cell? ⟨w.heap.size, 9, none⟩ = some (.int .i64 h0) := by rw [← hW]; exact c9
    replace c10 : V2.cell? ⟨w.heap.size, 10, none⟩ = some (.int .i64 h1) := by rw [← hW]; exact c10
    replace c11 : V2.cell? ⟨w.heap.size, 11, none⟩ = some (.int .i64 h2) := by rw [← hW]; exact c11
    replace B : Hid (Below w.heap.size w V2) := Lib.hid (by rw [← hW]; exact below_drewN B.out _)
    replace Z : Hid (w.heap.size + 1 ≤ V2.heap.size) := Lib.hid (by rw [← hW]; exact Z.out)
    clear hW
    go_wp2_with fail
    go_ret
    exact ⟨ret_bool (by rw [← ht.out, E.out]), B.out⟩
  have b21 := Lib.hid a21
  replace a21 : decide (40 < n2) = false := decide_eq_false a21
  by_cases a22 : l2 < -17
  · have E : Hid (armB X Y n0 n1 n2 W l0 l1 l2 h0 h1 h2 = false) := Lib.hid (Bool.eq_false_iff.2 fun h => by have a := AI.out.1 h; omega)
    clear AI
    go_quiet (fail)
    obtain ⟨V2, hW⟩ : ∃ x, V1.drewN nq = x := ⟨_, rfl⟩
    rw [hW]
    replace c0 : V2.cell? ⟨w.heap.size, 0, none⟩ = some (.int .i64 X) := by rw [← hW]; exact c0
    replace c1 : V2.cell? ⟨w.heap.size, 1, none⟩ = some (.int .i64 Y) := by rw [← hW]; exact c1
    replace c2 : V2.cell? ⟨w.heap.size, 2, none⟩ = some (.int .i64 n0) := by rw [← hW]; exact c2
    replace c3 : V2.cell? ⟨w.heap.size, 3, none⟩ = some (.int .i64 n1) := by rw [← hW]; exact c3
    replace c4 : V2.cell? ⟨w.heap.size, 4, none⟩ = some (.int .i64 n2) := by rw [← hW]; exact c4
    replace c5 : V2.cell? ⟨w.heap.size, 5, none⟩ = some (.int .i64 W) := by rw [← hW]; exact c5
    replace c6 : V2.cell? ⟨w.heap.size, 6, none⟩ = some (.int .i64 l0) := by rw [← hW]; exact c6
    replace c7 : V2.cell? ⟨w.heap.size, 7, none⟩ = some (.int .i64 l1) := by rw [← hW]; exact c7
    replace c8 : V2.cell? ⟨w.heap.size, 8, none⟩ = some (.int .i64 l2) := by rw [← hW]; exact c8
    replace c9 : V2.cell? ⟨w.heap.size, 9, none⟩ = some (.int .i64 h0) := by rw [← hW]; exact c9
    replace c10 : V2.cell? ⟨w.heap.size, 10, none⟩ = some (.int .i64 h1) := by rw [← hW]; exact c10
    replace c11 : V2.cell? ⟨w.heap.size, 11, none⟩ = some (.int .i64 h2) := by rw [← hW]; exact c11
    replace B : Hid (Below w.heap.size w V2) := Lib.hid (by rw [← hW]; exact below_drewN B.out _)
    replace Z : Hid (w.heap.size + 1 ≤ V2.heap.size) := Lib.hid (by rw [← hW]; exact Z.out)
    clear hW
    go_wp2_with fail
    go_ret
    exact ⟨ret_bool (by rw [← ht.out, E.out]), B.out⟩
  have b22 := Lib.hid a22
  replace a22 : decide (l2 < -17) = false := decide_eq_false a22
  by_cases a23 : 18 < l2
  · have E : Hid (armB X Y n0 n1 n2 W l0 l1 l2 h0 h1 h2 = false) := Lib.hid (Bool.eq_false_iff.2 fun h => by have a := AI.out.1 h; omega)
    clear AI
    go_quiet (fail)
    obtain ⟨V2, hW⟩ : ∃ x, V1.drewN nq = x := ⟨_, rfl⟩
    rw [hW]
    replace c0 : V2.cell? ⟨w.heap.size, 0, none⟩ = some (.int .i64 X) := by rw [← hW]; exact c0
    replace c1 : V2.cell? ⟨w.heap.size, 1, none⟩ = some (.int .i64 Y) := by rw [← hW]; exact c1
    replace c2 : V2.cell? ⟨w.heap.size, 2, none⟩ = some (.int .i64 n0) := by rw [← hW]; exact c2
    replace c3 : V2.cell? ⟨w.heap.size, 3, none⟩ = some (.int .i64 n1) := by rw [← hW]; exact c3
    replace c4 : V2.cell? ⟨w.heap.size, 4, none⟩ = some (.int .i64 n2) := by rw [← hW]; exact c4
    replace c5 : V2.cell? ⟨w.heap.size, 5, none⟩ = some (.int .i64 W) := by rw [← hW]; exact c5
    replace c6 : V2.cell? ⟨w.heap.size, 6, none⟩ = some (.int .i64 l0) := by rw [← hW]; exact c6
    replace c7 : V2.cell? ⟨w.heap.size, 7, none⟩ = some (.int .i64 l1) := by rw [← hW]; exact c7
    replace c8 : V2.cell? ⟨w.heap.size, 8, none⟩ = some (.int .i64 l2) := by rw [← hW]; exact c8
    replace c9 : V2.cell? ⟨w.heap.size, 9, none⟩ = some (.int .i64 h0) := by rw [← hW]; exact c9
    replace c10 : V2.cell? ⟨w.heap.size, 10, none⟩ = some (.int .i64 h1) := by rw [← hW]; exact c10
    replace c11 : V2.cell? ⟨w.heap.size, 11, none⟩ = some (.int .i64 h2) := by rw [← hW]; exact c11
    replace B : Hid (Below w.heap.size w V2) := Lib.hid (by rw [← hW]; exact below_drewN B.out _)
    replace Z : Hid (w.heap.size + 1 ≤ V2.heap.size) := Lib.hid (by rw [← hW]; exact Z.out)
    clear hW
    go_wp2_with fail
    go_ret
    exact ⟨ret_bool (by rw [← ht.out, E.out]), B.out⟩
  have b23 := Lib.hid a23
  replace a23 : decide (18 < l2) = false := decide_eq_false a23
  by_cases a24 : h2 < -17
  · have E : Hid (armB X Y n0 n1 n2 W l0 l1 l2 h0 h1 h2 = false) := Lib.hid (Bool.eq_false_iff.2 fun h => by have a := AI.out.1 h; omega)
    clear AI
    go_quiet (fail)
    obtain ⟨V2, hW⟩ : ∃ x, V1.drewN nq = x := ⟨_, rfl⟩
    rw [hW]
    replace c0 : V2.cell? ⟨w.heap.size, 0, none⟩ = some (.int .i64 X) := by rw [← hW]; exact c0
    replace c1 : V2.cell? ⟨w.heap.size, 1, none⟩ = some (.int .i64 Y) := by rw [← hW]; exact c1
    replace c2 : V2.cell? ⟨w.heap.size, 2, none⟩ = some (.int .i64 n0) := by rw [← hW]; exact c2
    replace c3 : V2.cell? ⟨w.heap.size, 3, none⟩ = some (.int .i64 n1) := by rw [← hW]; exact c3
    replace c4 : V2.cell? ⟨w.heap.size, 4, none⟩ = some (.int .i64 n2) := by rw [← hW]; exact c4
    replace c5 : V2.cell? ⟨w.heap.size, 5, none⟩ = some (.int .i64 W) := by rw [← hW]; exact c5
    replace c6 : V2.cell? ⟨w.heap.size, 6, none⟩ = some (.int .i64 l0) := by rw [← hW]; exact c6
    replace c7 : V2.cell? ⟨w.heap.size, 7, none⟩ = some (.int .i64 l1) := by rw [← hW]; exact c7
    replace c8 : V2.cell? ⟨w.heap.size, 8, none⟩ = some (.int .i64 l2) := by rw [← hW]; exact c8
    replace c9 : V2.cell? ⟨w.heap.size, 9, none⟩ = some (.int .i64 h0) := by rw [← hW]; exact c9
    replace c10 : V2.cell? ⟨w.heap.size, 10, none⟩ = some (.int .i64 h1) := by rw [← hW]; exact c10
    replace c11 : V2.cell? ⟨w.heap.size, 11, none⟩ = some (.int .i64 h2) := by rw [← hW]; exact c11
    replace B : Hid (Below w.heap.size w V2) := Lib.hid (by rw [← hW]; exact below_drewN B.out _)
    replace Z : Hid (w.heap.size + 1 ≤ V2.heap.size) := Lib.hid (by rw [← hW]; exact Z.out)
    clear hW
    go_wp2_with fail
    go_ret
    exact ⟨ret_bool (by rw [← ht.out, E.out]), B.out⟩
  have b24 := Lib.hid a24
  replace a24 : decide (h2 < -17) = false := decide_eq_false a24
  by_cases a25 : 18 < h2
  · have E : Hid (armB X Y n0 n1 n2 W l0 l1 l2 h0 h1 h2 = false) := Lib.hid (Bool.eq_false_iff.2 fun h => by have a := AI.out.1 h; omega)
    clear AI
    go_quiet (fail)
    obtain ⟨V2, hW⟩ : ∃ x, V1.drewN nq = x := ⟨_, rfl⟩
    rw [hW]
    replace c0 : V2.cell? ⟨w.heap.size, 0, none⟩ = some (.int .i64 X) := by rw [← hW]; exact c0
    replace c1 : V2.cell? ⟨w.heap.size, 1, none⟩ = some (.int .i64 Y) := by rw [← hW]; exact c1
    replace c2 : V2.cell? ⟨w.heap.size, 2, none⟩ = some (.int .i64 n0) := by rw [← hW]; exact c2
    replace c3 : V2.cell? ⟨w.heap.size, 3, none⟩ = some (.int .i64 n1) := by rw [← hW]; exact c3
    replace c4 : V2.cell? ⟨w.heap.size, 4, none⟩ = some (.int .i64 n2) := by rw [← hW]; exact c4
    replace c5 : V2.cell? ⟨w.heap.size, 5, none⟩ = some (.int .i64 W) := by rw [← hW]; exact c5
    replace c6 : V2.cell? ⟨w.heap.size, 6, none⟩ = some (.int .i64 l0) := by rw [← hW]; exact c6
    replace c7 : V2.cell? ⟨w.heap.size, 7, none⟩ = some (.int .i64 l1) := by rw [← hW]; exact c7
    replace c8 : V2.cell? ⟨w.heap.size, 8, none⟩ = some (.int .i64 l2) := by rw [← hW]; exact c8
    replace c9 : V2.cell? ⟨w.heap.size, 9, none⟩ = some (.int .i64 h0) := by rw [← hW]; exact c9
    replace c10 : V2.cell? ⟨w.heap.size, 10, none⟩ = some (.int .i64 h1) := by rw [← hW]; exact c10
    replace c11 : V2.cell? ⟨w.heap.size, 11, none⟩ = some (.int .i64 h2) := by rw [← hW]; exact c11
    replace B : Hid (Below w.heap.size w V2) := Lib.hid (by rw [← hW]; exact below_drewN B.out _)
    replace Z : Hid (w.heap.size + 1 ≤ V2.heap.size) := Lib.hid (by rw [← hW]; exact Z.out)
    clear hW
    go_wp2_with fail
    go_ret
    exact ⟨ret_bool (by rw [← ht.out, E.out]), B.out⟩
  have b25 := Lib.hid a25
  replace a25 : decide (18 < h2) = false := decide_eq_false a25
  by_cases a26 : h2 < l2
  · have E : Hid (armB X Y n0 n1 n2 W l0 l1 l2 h0 h1 h2 = false) := Lib.hid (Bool.eq_false_iff.2 fun h => by have a := AI.out.1 h; omega)
    clear AI
    go_quiet (fail)
    obtain ⟨V2, hW⟩ : ∃ x, V1.drewN nq = x := ⟨_, rfl⟩
    rw [hW]
    replace c0 : V2.cell? ⟨w.heap.size, 0, none⟩ = some (.int .i64 X) := by rw [← hW]; exact c0
    replace c1 : V2.cell? ⟨w.heap.size, 1, none⟩ = some (.int .i64 Y) := by rw [← hW]; exact c1
    replace c2 : V2.cell? ⟨w.heap.size, 2, none⟩ = some (.int .i64 n0) := by rw [← hW]; exact c2
    replace c3 : V2.cell? ⟨w.heap.size, 3, none⟩ = some (.int .i64 n1) := by rw [← hW]; exact c3
    replace c4 : V2.cell? ⟨w.heap.size, 4, none⟩ = some (.int .i64 n2) := by rw [← hW]; exact c4
    replace c5 : V2.cell? ⟨w.heap.size, 5, none⟩ = some (.int .i64 W) := by rw [← hW]; exact c5
    replace c6 : V2.cell? ⟨w.heap.size, 6, none⟩ = some (.int .i64 l0) := by rw [← hW]; exact c6
    replace c7 : V2.cell? ⟨w.heap.size, 7, none⟩ = some (.int .i64 l1) := by rw [← hW]; exact c7
    replace c8 : V2.cell? ⟨w.heap.size, 8, none⟩ = some (.int .i64 l2) := by rw [← hW]; exact c8
    replace c9 : V2.cell? ⟨w.heap.size, 9, none⟩ = some (.int .i64 h0) := by rw [← hW]; exact c9
    replace c10 : V2.cell? ⟨w.heap.size, 10, none⟩ = some (.int .i64 h1) := by rw [← hW]; exact c10
    replace c11 : V2.cell? ⟨w.heap.size, 11, none⟩ = some (.int .i64 h2) := by rw [← hW]; exact c11
    replace B : Hid (Below w.heap.size w V2) := Lib.hid (by rw [← hW]; exact below_drewN B.out _)
    replace Z : Hid (w.heap.size + 1 ≤ V2.heap.size) := Lib.hid (by rw [← hW]; exact Z.out)
    clear hW
    go_wp2_with fail
    go_ret
    exact ⟨ret_bool (by rw [← ht.out, E.out]), B.out⟩
  have b26 := Lib.hid a26
  replace a26 : decide (h2 < l2) = false := decide_eq_false a26
  have sn2 : 1 ≤ n2 ∧ n2 ≤ 40 := by have := b20.out; have := b21.out; omega
  go_quiet (fail)
  obtain ⟨V2, hW⟩ : ∃ x, V1.drewN nq = x := ⟨_, rfl⟩
  rw [hW]
  replace c0 : V2.cell? ⟨w.heap.size, 0, none⟩ = some (.int .i64 X) := by rw [← hW]; exact c0
  replace c1 : V2.cell? ⟨w.heap.size, 1, none⟩ = some (.int .i64 Y) := by rw [← hW]; exact c1
  replace c2 : V2.cell? ⟨w.heap.size, 2, none⟩ = some (.int .i64 n0) := by rw [← hW]; exact c2
  replace c3 : V2.cell? ⟨w.heap.size, 3, none⟩ = some (.int .i64 n1) := by rw [← hW]; exact c3
  replace c4 : V2.cell? ⟨w.heap.size, 4, none⟩ = some (.int .i64 n2) := by rw [← hW]; exact c4
  replace c5 : V2.cell? ⟨w.heap.size, 5, none⟩ = some (.int .i64 W) := by rw [← hW]; exact c5
  replace c6 : V2.cell? ⟨w.heap.size, 6, none⟩ = some (.int .i64 l0) := by rw [← hW]; exact c6
  replace c7 : V2.cell? ⟨w.heap.size, 7, none⟩ = some (.int .i64 l1) := by rw [← hW]; exact c7
  replace c8 : V2.cell? ⟨w.heap.size, 8, none⟩ = some (.int .i64 l2) := by rw [← hW]; exact c8
  replace c9 : V2.cell? ⟨w.heap.size, 9, none⟩ = some (.int .i64 h0) := by rw [← hW]; exact c9
  replace c10 : V2.cell? ⟨w.heap.size, 10, none⟩ = some (.int .i64 h1) := by rw [← hW]; exact c10
  replace c11 : V2.cell? ⟨w.heap.size, 11, none⟩ = some (.int .i64 h2) := by rw [← hW]; exact c11
  replace B : Hid (Below w.heap.size w V2) := Lib.hid (by rw [← hW]; exact below_drewN B.out _)
  replace Z : Hid (w.heap.size + 1 ≤ V2.heap.size) := Lib.hid (by rw [← hW]; exact Z.out)
  clear hW
  go_wp2_with fail
  clear a20 a21 a22 a23 a24 a25 a26
  have ff' := ff.out
  obtain ⟨sx, hx⟩ : ∃ s, absI X = s := ⟨_, rfl⟩
  obtain ⟨sy, hy⟩ : ∃ s, absI Y = s := ⟨_, rfl⟩
  have SX := Lib.hid (fun w => size_is X sx w (Lib.hid hx) (by omega))
  have SY := Lib.hid (fun w => size_is Y sy w (Lib.hid hy) (by omega))
  obtain ⟨x1, -, x3⟩ := abs_bd X
  obtain ⟨y1, -, y3⟩ := abs_bd Y
  rw [hx] at x1 x3
  rw [hy] at y1 y3
  have x4 := Lib.hid (x3 ((100 - (W + n0 + n1 + n2)) * 4394000))
  have y4 := Lib.hid (y3 ((100 - (W + n0 + n1 + n2)) * 4394000))
  have x5 : sx ≤ 1000000000 := (x3 1000000000).2 (by omega)
  have y5 : sy ≤ 1000000000 := (y3 1000000000).2 (by omega)
  clear x3 y3 hx hy ff'
  rw [rounds_succ]
  skip
  by_cases sX : sx + (W + n0 + n1 + n2) * 4394000 ≤ 439400000
  rotate_left
  · have E : Hid (armB X Y n0 n1 n2 W l0 l1 l2 h0 h1 h2 = false) := Lib.hid (Bool.eq_false_iff.2 fun h => by have a := AI.out.1 h; have := x4.out; omega)
    clear AI ff
    replace sX : decide (sx + (W + n0 + n1 + n2) * 4394000 ≤ 439400000) = false := decide_eq_false sX
    go_wp2_with (go_at_call 31; (first | with_reducible refine (SX.out _).mono ?_ | with_reducible refine (SY.out _).mono ?_); rintro e w' ⟨rfl, rfl⟩)
    go_ret
    exact ⟨ret_bool (by rw [← ht.out, E.out]), B.out⟩
  by_cases sY : sy + (W + n0 + n1 + n2) * 4394000 ≤ 439400000
  rotate_left
  · have E : Hid (armB X Y n0 n1 n2 W l0 l1 l2 h0 h1 h2 = false) := Lib.hid (Bool.eq_false_iff.2 fun h => by have a := AI.out.1 h; have := y4.out; omega)
    clear AI ff
    replace sY : decide (sy + (W + n0 + n1 + n2) * 4394000 ≤ 439400000) = false := decide_eq_false sY
    go_wp2_with (go_at_call 31; (first | with_reducible refine (SX.out _).mono ?_ | with_reducible refine (SY.out _).mono ?_); rintro e w' ⟨rfl, rfl⟩)
    go_ret
    exact ⟨ret_bool (by rw [← ht.out, E.out]), B.out⟩
  have E : Hid (armB X Y n0 n1 n2 W l0 l1 l2 h0 h1 h2 = true) := Lib.hid (AI.out.2 (by have := x4.out; have := y4.out; have q00 := b00.out; have q01 := b01.out; have q02 := b02.out; have q03 := b03.out; have q04 := b04.out; have q05 := b05.out; have q06 := b06.out; have q10 := b10.out; have q11 := b11.out; have q12 := b12.out; have q13 := b13.out; have q14 := b14.out; have q15 := b15.out; have q16 := b16.out; have q20 := b20.out; have q21 := b21.out; have q22 := b22.out; have q23 := b23.out; have q24 := b24.out; have q25 := b25.out; have q26 := b26.out; have := s0.out; have := s1.out; have := mX.out; have := mY.out; omega))
  clear AI ff
  go_wp2_with (go_at_call 31; (first | with_reducible refine (SX.out _).mono ?_ | with_reducible refine (SY.out _).mono ?_); rintro e w' ⟨rfl, rfl⟩)
  go_ret
  exact ⟨ret_bool (by rw [← ht.out, E.out]), B.out⟩
end Go.Proofs.YtceejjamngplkaaDoor
