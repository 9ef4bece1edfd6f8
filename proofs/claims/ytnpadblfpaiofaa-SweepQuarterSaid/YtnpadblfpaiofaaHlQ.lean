/- Contracts of has of the laws, of the reference's Edge and Has. Condition: the slice reads as the list says; the coordinates are bounded. -/
import Derived.Test.YtnpadblfpaiofaaHlP
namespace Go.Proofs.Ytnpadblfpaiofaa
open Go.ChangeShapes Go.WideShapes Go.ChangeAt Go.RowKit
set_option linter.unusedVariables false
set_option linter.unusedSimpArgs false

theorem ray_eq {a b c d p q : Int} (h : onB a b c d p q = false) : rayB a b c d p q = ((decide (b ≤ q) != decide (d ≤ q)) && (decide (b < d) == decide (0 < det a b c d p q))) := by
  have nz : (b ≤ q ∧ q < d) ∨ (d ≤ q ∧ q < b) → det a b c d p q ≠ 0 := fun g z => by
    have : onB a b c d p q = true := by
      rw [← on_tr]
      refine on_axis (by omega) (by unfold Btw; omega) ?_
      unfold det at z
      grind
    rw [h] at this; cases this
  have r := ori_cmp a b c d p q
  have r2 := ori_cmp c d a b p q
  have s : det c d a b p q = -det a b c d p q := by unfold det; grind
  unfold rayB upB
  rw [r, r2, s]
  have k1 : (0 < cmpI (det a b c d p q) 0) ↔ 0 < det a b c d p q := by unfold cmpI; split <;> (try split) <;> omega
  have k2 : (0 < cmpI (-det a b c d p q) 0) ↔ det a b c d p q < 0 := by unfold cmpI; split <;> (try split) <;> omega
  generalize det a b c d p q = z at *
  generalize cmpI z 0 = u at *
  generalize cmpI (-z) 0 = v at *
  rw [Bool.eq_iff_iff]
  split <;> simp only [Bool.and_eq_true, decide_eq_true_eq, bne_iff_ne, beq_iff_eq, ne_eq, decide_eq_decide] <;> omega

set_option maxRecDepth 100000 in
set_option maxHeartbeats 2000000 in
theorem edge_is (a b c d p q : Int) (t : Bool) (w : World) (ka : InV a) (kb : InV b) (kc : InV c) (kd : InV d) (kp : InV p) (kq : InV q) (h : Hid (onB a b c d p q = t)) :
    Calls Try.prog 65 #[.agg #[.int .i64 a, .int .i64 b], .agg #[.int .i64 c, .int .i64 d], .agg #[.int .i64 p, .int .i64 q]] w fun e w' => e = .returned (.bool t) ∧ Below w.heap.size w w' := by
  obtain ⟨n, hn⟩ : ∃ n, det a b c d p q = n := ⟨_, rfl⟩
  have q1 := run_min2 a c
  have q2 := run_max2 a c
  have q3 := run_min2 b d
  have q4 := run_max2 b d
  have E : Hid (t = (decide (n = 0) && (decide (mnI a c ≤ p) && (decide (p ≤ mxI a c) && (decide (mnI b d ≤ q) && decide (q ≤ mxI b d)))))) := Lib.hid (by
    rw [← h.out]
    unfold onB
    rw [ori_zero, hn]
    cases decide (mnI a c ≤ p) <;> cases decide (p ≤ mxI a c) <;> cases decide (mnI b d ≤ q) <;> cases decide (q ≤ mxI b d) <;> cases decide (n = 0) <;> rfl)
  have HC := Lib.hid (fun w => side_is a b c d p q n w ka kb kc kd kp kq (Lib.hid hn))
  obtain ⟨m1, hm1⟩ : ∃ m, mnI a c = m := ⟨_, rfl⟩
  obtain ⟨m2, hm2⟩ : ∃ m, mxI a c = m := ⟨_, rfl⟩
  obtain ⟨m3, hm3⟩ : ∃ m, mnI b d = m := ⟨_, rfl⟩
  obtain ⟨m4, hm4⟩ : ∃ m, mxI b d = m := ⟨_, rfl⟩
  rw [hm1] at q1 E
  rw [hm2] at q2 E
  rw [hm3] at q3 E
  rw [hm4] at q4 E
  clear hn ka kb kc kd kp kq h hm1 hm2 hm3 hm4
  have hB : Below w.heap.size w w := Below.refl _ _
  go_enter Try.func65, Try.ntmps65
  go_wp2_with fail
  refine (HC.out _).mono ?_; rintro e w1 ⟨rfl, hb⟩
  have k1 : w1.cell? ⟨w.heap.size, 0, none⟩ = some (.int .i64 a) := cell_call (cell_alloc (cell_alloc (cbx w #[.int .i64 a, .int .i64 b] 35 (w.heap.size) 0 (.int .i64 a) (by simp) rfl) _) _) hb
  have k2 : w1.cell? ⟨w.heap.size, 1, none⟩ = some (.int .i64 b) := cell_call (cell_alloc (cell_alloc (cbx w #[.int .i64 a, .int .i64 b] 35 (w.heap.size) 1 (.int .i64 b) (by simp) rfl) _) _) hb
  have k3 : w1.cell? ⟨w.heap.size + 1, 0, none⟩ = some (.int .i64 c) := cell_call (cell_alloc (cbx (w.alloc (.cells #[.int .i64 a, .int .i64 b] 35)) #[.int .i64 c, .int .i64 d] 35 (w.heap.size + 1) 0 (.int .i64 c) (by simp) rfl) _) hb
  have k4 : w1.cell? ⟨w.heap.size + 1, 1, none⟩ = some (.int .i64 d) := cell_call (cell_alloc (cbx (w.alloc (.cells #[.int .i64 a, .int .i64 b] 35)) #[.int .i64 c, .int .i64 d] 35 (w.heap.size + 1) 1 (.int .i64 d) (by simp) rfl) _) hb
  have k5 : w1.cell? ⟨w.heap.size + 1 + 1, 0, none⟩ = some (.int .i64 p) := cell_call (cbx ((w.alloc (.cells #[.int .i64 a, .int .i64 b] 35)).alloc (.cells #[.int .i64 c, .int .i64 d] 35)) #[.int .i64 p, .int .i64 q] 35 (w.heap.size + 1 + 1) 0 (.int .i64 p) (by simp) rfl) hb
  have k6 : w1.cell? ⟨w.heap.size + 1 + 1, 1, none⟩ = some (.int .i64 q) := cell_call (cbx ((w.alloc (.cells #[.int .i64 a, .int .i64 b] 35)).alloc (.cells #[.int .i64 c, .int .i64 d] 35)) #[.int .i64 p, .int .i64 q] 35 (w.heap.size + 1 + 1) 1 (.int .i64 q) (by simp) rfl) hb
  replace hB := belT (belA (belA (belA hB _) _) _) hb
  clear hb HC
  have zk1 : w.heap.size < w1.heap.size := World.block_lt_of_cell? w1 _ k1
  have zk3 : w.heap.size + 1 < w1.heap.size := World.block_lt_of_cell? w1 _ k3
  have zk5 : w.heap.size + 1 + 1 < w1.heap.size := World.block_lt_of_cell? w1 _ k5
  by_cases h0 : n = 0
  · subst h0
    by_cases g1 : m1 ≤ p
    · by_cases g2 : p ≤ m2
      · by_cases g3 : m3 ≤ q
        · by_cases g4 : q ≤ m4
          · go_wp2
            go_ret
            exact ⟨ret_bool (by rw [E.out, eq_comm, Bool.eq_iff_iff]; simp only [Bool.and_eq_true, decide_eq_true_eq, Bool.false_eq_true, iff_false, iff_true, true_and]; omega), hB⟩
          · go_wp2
            go_ret
            exact ⟨ret_bool (by rw [E.out, eq_comm, Bool.eq_iff_iff]; simp only [Bool.and_eq_true, decide_eq_true_eq, Bool.false_eq_true, iff_false, iff_true, true_and]; omega), hB⟩
        · go_wp2
          go_ret
          exact ⟨ret_bool (by rw [E.out, eq_comm, Bool.eq_iff_iff]; simp only [Bool.and_eq_true, decide_eq_true_eq, Bool.false_eq_true, iff_false, iff_true, true_and]; omega), hB⟩
      · go_wp2
        go_ret
        exact ⟨ret_bool (by rw [E.out, eq_comm, Bool.eq_iff_iff]; simp only [Bool.and_eq_true, decide_eq_true_eq, Bool.false_eq_true, iff_false, iff_true, true_and]; omega), hB⟩
    · go_wp2
      go_ret
      exact ⟨ret_bool (by rw [E.out, eq_comm, Bool.eq_iff_iff]; simp only [Bool.and_eq_true, decide_eq_true_eq, Bool.false_eq_true, iff_false, iff_true, true_and]; omega), hB⟩
  · have hn0 : (n == 0) = false := by rw [beq_eq_false_iff_ne]; exact h0
    go_wp2
    go_ret
    exact ⟨ret_bool (by rw [E.out, eq_comm, Bool.eq_iff_iff]; simp only [Bool.and_eq_true, decide_eq_true_eq, Bool.false_eq_true, iff_false, iff_true, true_and]; omega), hB⟩

end Go.Proofs.Ytnpadblfpaiofaa
