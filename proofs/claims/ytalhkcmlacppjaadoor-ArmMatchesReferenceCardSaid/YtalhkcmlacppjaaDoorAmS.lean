/- Contract of the reference's Same of layer 3. -/
import Derived.Test.YtalhkcmlacppjaaDoorAmL
namespace Go.Proofs.YtalhkcmlacppjaaDoor
open Go.ChangeShapes Go.WideShapes Go.ChangeAt Go.RowKit
set_option linter.unusedVariables false
set_option linter.unusedSimpArgs false
set_option maxRecDepth 100000

def sameB (l m : List (Int × Int)) : Bool := decide (l = m)
theorem same_to {l m : List (Int × Int)} {k : Nat} (h : ∀ i, i < k → l.getD i (0, 0) = m.getD i (0, 0)) (hl : l.length = m.length) (hk : l.length ≤ k) : l = m := by
  apply List.ext_getElem hl
  intro i h1 h2
  have := h i (by omega)
  rw [List.getD_eq_getElem?_getD, List.getD_eq_getElem?_getD, List.getElem?_eq_getElem h1, List.getElem?_eq_getElem h2] at this
  simpa using this
set_option maxHeartbeats 2000000 in
/-- Four corners each: are they the same? -/
theorem same4_is (g h : Nat) (r0 r1 r2 r3 r4 r5 r6 r7 : Int) (w : World) (hP : PRow w (some ⟨g, 0, none⟩) [(r0, r1), (r2, r3), (r4, r5), (r6, r7)]) (hM : PRow w (some ⟨h, 0, none⟩) [(r0, r1), (r2, r3), (r4, r5), (r6, r7)]) :
    Calls Tryd.prog 18 #[.slice (some ⟨g, 0, none⟩) 4 4, .slice (some ⟨h, 0, none⟩) 4 4] w fun e w' => e = .returned (.bool true) ∧ Below w.heap.size w w' := by
  obtain ⟨a0, a1⟩ := prow_c hP 0 (by simp) 0 1 rfl rfl
  obtain ⟨a2, a3⟩ := prow_c hP 1 (by simp) 2 3 rfl rfl
  obtain ⟨a4, a5⟩ := prow_c hP 2 (by simp) 4 5 rfl rfl
  obtain ⟨a6, a7⟩ := prow_c hP 3 (by simp) 6 7 rfl rfl
  obtain ⟨b0, b1⟩ := prow_c hM 0 (by simp) 0 1 rfl rfl
  obtain ⟨b2, b3⟩ := prow_c hM 1 (by simp) 2 3 rfl rfl
  obtain ⟨b4, b5⟩ := prow_c hM 2 (by simp) 4 5 rfl rfl
  obtain ⟨b6, b7⟩ := prow_c hM 3 (by simp) 6 7 rfl rfl
  simp only [List.getD_cons_zero, List.getD_cons_succ] at a0 a1 a2 a3 a4 a5 a6 a7 b0 b1 b2 b3 b4 b5 b6 b7
  have B : Hid (Below w.heap.size w w) := Lib.hid (Below.refl _ _)
  clear hP hM
  go_enter Tryd.func18, Tryd.ntmps18
  go_wp2_with fail
  refine wp_loop_rounds 5 ?_
  rw [rounds_succ]
  go_wp2_with fail
  go_quiet (fail)
  obtain ⟨W0, hW⟩ : ∃ x, w.drewN nq = x := ⟨_, rfl⟩
  rw [hW]
  replace a0 : W0.cell? ⟨g, 0, none⟩ = some (.int .i64 r0) := by rw [← hW]; exact a0
  replace b0 : W0.cell? ⟨h, 0, none⟩ = some (.int .i64 r0) := by rw [← hW]; exact b0
  replace a1 : W0.cell? ⟨g, 1, none⟩ = some (.int .i64 r1) := by rw [← hW]; exact a1
  replace b1 : W0.cell? ⟨h, 1, none⟩ = some (.int .i64 r1) := by rw [← hW]; exact b1
  replace a2 : W0.cell? ⟨g, 2, none⟩ = some (.int .i64 r2) := by rw [← hW]; exact a2
  replace b2 : W0.cell? ⟨h, 2, none⟩ = some (.int .i64 r2) := by rw [← hW]; exact b2
  replace a3 : W0.cell? ⟨g, 3, none⟩ = some (.int .i64 r3) := by rw [← hW]; exact a3
  replace b3 : W0.cell? ⟨h, 3, none⟩ = some (.int .i64 r3) := by rw [← hW]; exact b3
  replace a4 : W0.cell? ⟨g, 4, none⟩ = some (.int .i64 r4) := by rw [← hW]; exact a4
  replace b4 : W0.cell? ⟨h, 4, none⟩ = some (.int .i64 r4) := by rw [← hW]; exact b4
  replace a5 : W0.cell? ⟨g, 5, none⟩ = some (.int .i64 r5) := by rw [← hW]; exact a5
  replace b5 : W0.cell? ⟨h, 5, none⟩ = some (.int .i64 r5) := by rw [← hW]; exact b5
  replace a6 : W0.cell? ⟨g, 6, none⟩ = some (.int .i64 r6) := by rw [← hW]; exact a6
  replace b6 : W0.cell? ⟨h, 6, none⟩ = some (.int .i64 r6) := by rw [← hW]; exact b6
  replace a7 : W0.cell? ⟨g, 7, none⟩ = some (.int .i64 r7) := by rw [← hW]; exact a7
  replace b7 : W0.cell? ⟨h, 7, none⟩ = some (.int .i64 r7) := by rw [← hW]; exact b7
  replace B : Hid (Below w.heap.size w W0) := Lib.hid (by rw [← hW]; exact below_drewN B.out _)
  clear hW
  go_wp2_with fail
  rw [rounds_succ]
  go_wp2_with fail
  go_quiet (fail)
  obtain ⟨W1, hW⟩ : ∃ x, W0.drewN nq = x := ⟨_, rfl⟩
  rw [hW]
  replace a0 : W1.cell? ⟨g, 0, none⟩ = some (.int .i64 r0) := by rw [← hW]; exact a0
  replace b0 : W1.cell? ⟨h, 0, none⟩ = some (.int .i64 r0) := by rw [← hW]; exact b0
  replace a1 : W1.cell? ⟨g, 1, none⟩ = some (.int .i64 r1) := by rw [← hW]; exact a1
  replace b1 : W1.cell? ⟨h, 1, none⟩ = some (.int .i64 r1) := by rw [← hW]; exact b1
  replace a2 : W1.cell? ⟨g, 2, none⟩ = some (.int .i64 r2) := by rw [← hW]; exact a2
  replace b2 : W1.cell? ⟨h, 2, none⟩ = some (.int .i64 r2) := by rw [← hW]; exact b2
  replace a3 : W1.cell? ⟨g, 3, none⟩ = some (.int .i64 r3) := by rw [← hW]; exact a3
  replace b3 : W1.cell? ⟨h, 3, none⟩ = some (.int .i64 r3) := by rw [← hW]; exact b3
  replace a4 : W1.cell? ⟨g, 4, none⟩ = some (.int .i64 r4) := by rw [← hW]; exact a4
  replace b4 : W1.cell? ⟨h, 4, none⟩ = some (.int .i64 r4) := by rw [← hW]; exact b4
  replace a5 : W1.cell? ⟨g, 5, none⟩ = some (.int .i64 r5) := by rw [← hW]; exact a5
  replace b5 : W1.cell? ⟨h, 5, none⟩ = some (.int .i64 r5) := by rw [← hW]; exact b5
  replace a6 : W1.cell? ⟨g, 6, none⟩ = some (.int .i64 r6) := by rw [← hW]; exact a6
  replace b6 : W1.cell? ⟨h, 6, none⟩ = some (.int .i64 r6) := by rw [← hW]; exact b6
  replace a7 : W1.cell? ⟨g, 7, none⟩ = some (.int .i64 r7) := by rw [← hW]; exact a7
  replace b7 : W1.cell? ⟨h, 7, none⟩ = some (.int .i64 r7) := by rw [← hW]; exact b7
  replace B : Hid (Below w.heap.size w W1) := Lib.hid (by rw [← hW]; exact below_drewN B.out _)
  clear hW
  go_wp2_with fail
  rw [rounds_succ]
  go_wp2_with fail
  go_quiet (fail)
  obtain ⟨W2, hW⟩ : ∃ x, W1.drewN nq = x := ⟨_, rfl⟩
  rw [hW]
  replace a0 : W2.cell? ⟨g, 0, none⟩ = some (.int .i64 r0) := by rw [← hW]; exact a0
  replace b0 : W2.cell? ⟨h, 0, none⟩ = some (.int .i64 r0) := by rw [← hW]; exact b0
  replace a1 : W2.cell? ⟨g, 1, none⟩ = some (.int .i64 r1) := by rw [← hW]; exact a1
  replace b1 : W2.cell? ⟨h, 1, none⟩ = some (.int .i64 r1) := by rw [← hW]; exact b1
  replace a2 : W2.cell? ⟨g, 2, none⟩ = some (.int .i64 r2) := by rw [← hW]; exact a2
  replace b2 : W2.cell? ⟨h, 2, none⟩ = some (.int .i64 r2) := by rw [← hW]; exact b2
  replace a3 : W2.cell? ⟨g, 3, none⟩ = some (.int .i64 r3) := by rw [← hW]; exact a3
  replace b3 : W2.cell? ⟨h, 3, none⟩ = some (.int .i64 r3) := by rw [← hW]; exact b3
  replace a4 : W2.cell? ⟨g, 4, none⟩ = some (.int .i64 r4) := by rw [← hW]; exact a4
  replace b4 : W2.cell? ⟨h, 4, none⟩ = some (.int .i64 r4) := by rw [← hW]; exact b4
  replace a5 : W2.cell? ⟨g, 5, none⟩ = some (.int .i64 r5) := by rw [← hW]; exact a5
  replace b5 : W2.cell? ⟨h, 5, none⟩ = some (.int .i64 r5) := by rw [← hW]; exact b5
  replace a6 : W2.cell? ⟨g, 6, none⟩ = some (.int .i64 r6) := by rw [← hW]; exact a6
  replace b6 : W2.cell? ⟨h, 6, none⟩ = some (.int .i64 r6) := by rw [← hW]; exact b6
  replace a7 : W2.cell? ⟨g, 7, none⟩ = some (.int .i64 r7) := by rw [← hW]; exact a7
  replace b7 : W2.cell? ⟨h, 7, none⟩ = some (.int .i64 r7) := by rw [← hW]; exact b7
  replace B : Hid (Below w.heap.size w W2) := Lib.hid (by rw [← hW]; exact below_drewN B.out _)
  clear hW
  go_wp2_with fail
  rw [rounds_succ]
  go_wp2_with fail
  go_quiet (fail)
  obtain ⟨W3, hW⟩ : ∃ x, W2.drewN nq = x := ⟨_, rfl⟩
  rw [hW]
  replace a0 : W3.cell? ⟨g, 0, none⟩ = some (.int .i64 r0) := by rw [← hW]; exact a0
  replace b0 : W3.cell? ⟨h, 0, none⟩ = some (.int .i64 r0) := by rw [← hW]; exact b0
  replace a1 : W3.cell? ⟨g, 1, none⟩ = some (.int .i64 r1) := by rw [← hW]; exact a1
  replace b1 : W3.cell? ⟨h, 1, none⟩ = some (.int .i64 r1) := by rw [← hW]; exact b1
  replace a2 : W3.cell? ⟨g, 2, none⟩ = some (.int .i64 r2) := by rw [← hW]; exact a2
  replace b2 : W3.cell? ⟨h, 2, none⟩ = some (.int .i64 r2) := by rw [← hW]; exact b2
  replace a3 : W3.cell? ⟨g, 3, none⟩ = some (.int .i64 r3) := by rw [← hW]; exact a3
  replace b3 : W3.cell? ⟨h, 3, none⟩ = some (.int .i64 r3) := by rw [← hW]; exact b3
  replace a4 : W3.cell? ⟨g, 4, none⟩ = some (.int .i64 r4) := by rw [← hW]; exact a4
  replace b4 : W3.cell? ⟨h, 4, none⟩ = some (.int .i64 r4) := by rw [← hW]; exact b4
  replace a5 : W3.cell? ⟨g, 5, none⟩ = some (.int .i64 r5) := by rw [← hW]; exact a5
  replace b5 : W3.cell? ⟨h, 5, none⟩ = some (.int .i64 r5) := by rw [← hW]; exact b5
  replace a6 : W3.cell? ⟨g, 6, none⟩ = some (.int .i64 r6) := by rw [← hW]; exact a6
  replace b6 : W3.cell? ⟨h, 6, none⟩ = some (.int .i64 r6) := by rw [← hW]; exact b6
  replace a7 : W3.cell? ⟨g, 7, none⟩ = some (.int .i64 r7) := by rw [← hW]; exact a7
  replace b7 : W3.cell? ⟨h, 7, none⟩ = some (.int .i64 r7) := by rw [← hW]; exact b7
  replace B : Hid (Below w.heap.size w W3) := Lib.hid (by rw [← hW]; exact below_drewN B.out _)
  clear hW
  go_wp2_with fail
  rw [rounds_succ]
  go_wp2_with fail
  go_ret
  exact ⟨rfl, B.out⟩
end Go.Proofs.YtalhkcmlacppjaaDoor
