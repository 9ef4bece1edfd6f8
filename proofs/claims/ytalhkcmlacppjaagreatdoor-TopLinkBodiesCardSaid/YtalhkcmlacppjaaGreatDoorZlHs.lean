/- Helpers: what the law reaches. -/
import Derived.Test.YtalhkcmlacppjaaGreatDoorZlHp
import Derived.Test.YtalhkcmlacppjaaGreatDoorZlHb
namespace Go.Proofs.YtalhkcmlacppjaaGreatDoor
open Go.ChangeShapes Go.WideShapes Go.ChangeAt Go.RowKit
set_option linter.unusedVariables false
set_option linter.unusedSimpArgs false

theorem vdif {x y : Int} (hx : InV x) (hy : InV y) : -878800000 ≤ x - y ∧ x - y ≤ 878800000 := by unfold InV at *; omega
theorem vprod {x y : Int} (hx : -878800000 ≤ x ∧ x ≤ 878800000) (hy : -878800000 ≤ y ∧ y ≤ 878800000) : -772289440000000000 ≤ x * y ∧ x * y ≤ 772289440000000000 := by
  have := mul_bd hx hy
  omega
theorem ori_cmp (a b c d p q : Int) : ori a b c d p q = cmpI (det a b c d p q) 0 := by
  unfold ori det
  exact cmpI_same (by omega)

set_option maxHeartbeats 1000000 in
theorem vcross_is (a b c d p q n : Int) (w : World) (ka : InV a) (kb : InV b) (kc : InV c) (kd : InV d) (kp : InV p) (kq : InV q) (h : Hid (det a b c d p q = n)) :
    Calls Tryz.prog 29 #[.agg #[.int .i64 a, .int .i64 b], .agg #[.int .i64 c, .int .i64 d], .agg #[.int .i64 p, .int .i64 q]] w fun e w' => e = .returned (.int .i64 n) ∧ Below w.heap.size w w' := by
  have d1 := vdif kc ka
  have d2 := vdif kd kb
  have d3 := vdif kp ka
  have d4 := vdif kq kb
  obtain ⟨m1, m2⟩ := vprod d1 d4
  obtain ⟨m3, m4⟩ := vprod d2 d3
  obtain ⟨d11, d12⟩ := d1
  obtain ⟨d21, d22⟩ := d2
  obtain ⟨d31, d32⟩ := d3
  obtain ⟨d41, d42⟩ := d4
  clear ka kb kc kd kp kq
  go_enter Tryz.func29, Tryz.ntmps29
  go_wp2
  go_ret
  exact ⟨ret_int (by rw [← h.out]; rfl), belA (belA (belA (Below.refl _ _) _) _) _⟩

theorem sign_is (n v : Int) (w : World) (h : Hid (cmpI n 0 = v)) :
    Calls Tryz.prog 64 #[.int .i64 n] w fun e w' => e = .returned (.int .i64 v) ∧ Below w.heap.size w w' := by
  rcases Int.lt_trichotomy n 0 with g | g | g
  · have e : Hid (v = -1) := Lib.hid (by rw [← h.out]; exact cmpI_lt g)
    have g2 : decide (0 < n) = false := decide_eq_false (by omega)
    go_enter Tryz.func64, Tryz.ntmps64
    go_wp2
    go_ret
    exact ⟨ret_int e.out.symm, Below.refl _ _⟩
  · have e : Hid (v = 0) := Lib.hid (by rw [← h.out]; exact cmpI_eq g)
    subst g
    go_enter Tryz.func64, Tryz.ntmps64
    go_wp2
    go_ret
    exact ⟨ret_int e.out.symm, Below.refl _ _⟩
  · have e : Hid (v = 1) := Lib.hid (by rw [← h.out]; exact cmpI_gt g)
    go_enter Tryz.func64, Tryz.ntmps64
    go_wp2
    go_ret
    exact ⟨ret_int e.out.symm, Below.refl _ _⟩

theorem vbetween_is (a b x : Int) (t : Bool) (w : World) (h : Hid ((decide (mnI a b ≤ x) && decide (x ≤ mxI a b)) = t)) :
    Calls Tryz.prog 92 #[.int .i64 a, .int .i64 b, .int .i64 x] w fun e w' => e = .returned (.bool t) ∧ w = w' := by
  have E : Hid (t = ((decide (a ≤ x) && decide (x ≤ b)) || (decide (b ≤ x) && decide (x ≤ a)))) := Lib.hid (by
    rw [← h.out, Bool.eq_iff_iff, Bool.and_eq_true, decide_eq_true_eq, decide_eq_true_eq, btw_iff]; unfold Btw; simp)
  clear h
  obtain ⟨t1, h1⟩ : ∃ u, decide (a ≤ x) = u := ⟨_, rfl⟩
  obtain ⟨t2, h2⟩ : ∃ u, decide (x ≤ b) = u := ⟨_, rfl⟩
  obtain ⟨t3, h3⟩ : ∃ u, decide (b ≤ x) = u := ⟨_, rfl⟩
  obtain ⟨t4, h4⟩ : ∃ u, decide (x ≤ a) = u := ⟨_, rfl⟩
  rw [h1, h2, h3, h4] at E
  cases t1 <;> cases t2 <;> cases t3 <;> cases t4
  all_goals
    go_enter Tryz.func92, Tryz.ntmps92
    go_wp2
    go_ret
    exact ⟨ret_bool (by rw [E.out]; simp [*]), rfl⟩

set_option maxHeartbeats 2000000 in
theorem von_is (a b c d p q : Int) (t : Bool) (w : World) (ka : InV a) (kb : InV b) (kc : InV c) (kd : InV d) (kp : InV p) (kq : InV q) (h : Hid (onB a b c d p q = t)) :
    Calls Tryz.prog 63 #[.agg #[.int .i64 a, .int .i64 b], .agg #[.int .i64 c, .int .i64 d], .agg #[.int .i64 p, .int .i64 q]] w fun e w' => e = .returned (.bool t) ∧ Below w.heap.size w w' := by
  obtain ⟨n, hn⟩ : ∃ n, det a b c d p q = n := ⟨_, rfl⟩
  obtain ⟨x, hx⟩ : ∃ x, (decide (mnI a c ≤ p) && decide (p ≤ mxI a c)) = x := ⟨_, rfl⟩
  obtain ⟨y, hy⟩ : ∃ y, (decide (mnI b d ≤ q) && decide (q ≤ mxI b d)) = y := ⟨_, rfl⟩
  have E : Hid (t = (decide (n = 0) && x && y)) := Lib.hid (by
    rw [← h.out]
    unfold onB
    rw [ori_zero, hn, ← hx, ← hy]
    cases decide (mnI a c ≤ p) <;> cases decide (p ≤ mxI a c) <;> cases decide (mnI b d ≤ q) <;> cases decide (q ≤ mxI b d) <;> cases decide (n = 0) <;> rfl)
  have HC := Lib.hid (fun w => vcross_is a b c d p q n w ka kb kc kd kp kq (Lib.hid hn))
  have H1 := Lib.hid (fun w => vbetween_is a c p x w (Lib.hid hx))
  have H2 := Lib.hid (fun w => vbetween_is b d q y w (Lib.hid hy))
  clear hn hx hy ka kb kc kd kp kq h
  by_cases h0 : n = 0
  · subst h0
    cases x
    · have hB : Below w.heap.size w w := Below.refl _ _
      go_enter Tryz.func63, Tryz.ntmps63
      go_wp2_with fail
      refine (HC.out _).mono ?_; rintro e w1 ⟨rfl, hb⟩
      have k1 : w1.cell? ⟨w.heap.size, 0, none⟩ = some (.int .i64 a) := cell_call (cell_alloc (cell_alloc (cbx w #[.int .i64 a, .int .i64 b] 23 (w.heap.size) 0 (.int .i64 a) (by simp) rfl) _) _) hb
      have k2 : w1.cell? ⟨w.heap.size, 1, none⟩ = some (.int .i64 b) := cell_call (cell_alloc (cell_alloc (cbx w #[.int .i64 a, .int .i64 b] 23 (w.heap.size) 1 (.int .i64 b) (by simp) rfl) _) _) hb
      have k3 : w1.cell? ⟨w.heap.size + 1, 0, none⟩ = some (.int .i64 c) := cell_call (cell_alloc (cbx (w.alloc (.cells #[.int .i64 a, .int .i64 b] 23)) #[.int .i64 c, .int .i64 d] 23 (w.heap.size + 1) 0 (.int .i64 c) (by simp) rfl) _) hb
      have k4 : w1.cell? ⟨w.heap.size + 1, 1, none⟩ = some (.int .i64 d) := cell_call (cell_alloc (cbx (w.alloc (.cells #[.int .i64 a, .int .i64 b] 23)) #[.int .i64 c, .int .i64 d] 23 (w.heap.size + 1) 1 (.int .i64 d) (by simp) rfl) _) hb
      have k5 : w1.cell? ⟨w.heap.size + 1 + 1, 0, none⟩ = some (.int .i64 p) := cell_call (cbx ((w.alloc (.cells #[.int .i64 a, .int .i64 b] 23)).alloc (.cells #[.int .i64 c, .int .i64 d] 23)) #[.int .i64 p, .int .i64 q] 23 (w.heap.size + 1 + 1) 0 (.int .i64 p) (by simp) rfl) hb
      have k6 : w1.cell? ⟨w.heap.size + 1 + 1, 1, none⟩ = some (.int .i64 q) := cell_call (cbx ((w.alloc (.cells #[.int .i64 a, .int .i64 b] 23)).alloc (.cells #[.int .i64 c, .int .i64 d] 23)) #[.int .i64 p, .int .i64 q] 23 (w.heap.size + 1 + 1) 1 (.int .i64 q) (by simp) rfl) hb
      replace hB := belT (belA (belA (belA hB _) _) _) hb
      clear hb
      have zk1 : w.heap.size < w1.heap.size := World.block_lt_of_cell? w1 _ k1
      have zk3 : w.heap.size + 1 < w1.heap.size := World.block_lt_of_cell? w1 _ k3
      have zk5 : w.heap.size + 1 + 1 < w1.heap.size := World.block_lt_of_cell? w1 _ k5
      go_wp2_with fail
      refine (H1.out _).mono ?_; rintro e w' ⟨rfl, rfl⟩
      go_wp2_with fail
      go_ret
      exact ⟨ret_bool (by rw [E.out]; simp [*]), hB⟩
    · cases y
      · have hB : Below w.heap.size w w := Below.refl _ _
        go_enter Tryz.func63, Tryz.ntmps63
        go_wp2_with fail
        refine (HC.out _).mono ?_; rintro e w1 ⟨rfl, hb⟩
        have k1 : w1.cell? ⟨w.heap.size, 0, none⟩ = some (.int .i64 a) := cell_call (cell_alloc (cell_alloc (cbx w #[.int .i64 a, .int .i64 b] 23 (w.heap.size) 0 (.int .i64 a) (by simp) rfl) _) _) hb
        have k2 : w1.cell? ⟨w.heap.size, 1, none⟩ = some (.int .i64 b) := cell_call (cell_alloc (cell_alloc (cbx w #[.int .i64 a, .int .i64 b] 23 (w.heap.size) 1 (.int .i64 b) (by simp) rfl) _) _) hb
        have k3 : w1.cell? ⟨w.heap.size + 1, 0, none⟩ = some (.int .i64 c) := cell_call (cell_alloc (cbx (w.alloc (.cells #[.int .i64 a, .int .i64 b] 23)) #[.int .i64 c, .int .i64 d] 23 (w.heap.size + 1) 0 (.int .i64 c) (by simp) rfl) _) hb
        have k4 : w1.cell? ⟨w.heap.size + 1, 1, none⟩ = some (.int .i64 d) := cell_call (cell_alloc (cbx (w.alloc (.cells #[.int .i64 a, .int .i64 b] 23)) #[.int .i64 c, .int .i64 d] 23 (w.heap.size + 1) 1 (.int .i64 d) (by simp) rfl) _) hb
        have k5 : w1.cell? ⟨w.heap.size + 1 + 1, 0, none⟩ = some (.int .i64 p) := cell_call (cbx ((w.alloc (.cells #[.int .i64 a, .int .i64 b] 23)).alloc (.cells #[.int .i64 c, .int .i64 d] 23)) #[.int .i64 p, .int .i64 q] 23 (w.heap.size + 1 + 1) 0 (.int .i64 p) (by simp) rfl) hb
        have k6 : w1.cell? ⟨w.heap.size + 1 + 1, 1, none⟩ = some (.int .i64 q) := cell_call (cbx ((w.alloc (.cells #[.int .i64 a, .int .i64 b] 23)).alloc (.cells #[.int .i64 c, .int .i64 d] 23)) #[.int .i64 p, .int .i64 q] 23 (w.heap.size + 1 + 1) 1 (.int .i64 q) (by simp) rfl) hb
        replace hB := belT (belA (belA (belA hB _) _) _) hb
        clear hb
        have zk1 : w.heap.size < w1.heap.size := World.block_lt_of_cell? w1 _ k1
        have zk3 : w.heap.size + 1 < w1.heap.size := World.block_lt_of_cell? w1 _ k3
        have zk5 : w.heap.size + 1 + 1 < w1.heap.size := World.block_lt_of_cell? w1 _ k5
        go_wp2_with fail
        refine (H1.out _).mono ?_; rintro e w' ⟨rfl, rfl⟩
        go_wp2_with fail
        refine (H2.out _).mono ?_; rintro e w' ⟨rfl, rfl⟩
        go_wp2_with fail
        go_ret
        exact ⟨ret_bool (by rw [E.out]; simp [*]), hB⟩
      · have hB : Below w.heap.size w w := Below.refl _ _
        go_enter Tryz.func63, Tryz.ntmps63
        go_wp2_with fail
        refine (HC.out _).mono ?_; rintro e w1 ⟨rfl, hb⟩
        have k1 : w1.cell? ⟨w.heap.size, 0, none⟩ = some (.int .i64 a) := cell_call (cell_alloc (cell_alloc (cbx w #[.int .i64 a, .int .i64 b] 23 (w.heap.size) 0 (.int .i64 a) (by simp) rfl) _) _) hb
        have k2 : w1.cell? ⟨w.heap.size, 1, none⟩ = some (.int .i64 b) := cell_call (cell_alloc (cell_alloc (cbx w #[.int .i64 a, .int .i64 b] 23 (w.heap.size) 1 (.int .i64 b) (by simp) rfl) _) _) hb
        have k3 : w1.cell? ⟨w.heap.size + 1, 0, none⟩ = some (.int .i64 c) := cell_call (cell_alloc (cbx (w.alloc (.cells #[.int .i64 a, .int .i64 b] 23)) #[.int .i64 c, .int .i64 d] 23 (w.heap.size + 1) 0 (.int .i64 c) (by simp) rfl) _) hb
        have k4 : w1.cell? ⟨w.heap.size + 1, 1, none⟩ = some (.int .i64 d) := cell_call (cell_alloc (cbx (w.alloc (.cells #[.int .i64 a, .int .i64 b] 23)) #[.int .i64 c, .int .i64 d] 23 (w.heap.size + 1) 1 (.int .i64 d) (by simp) rfl) _) hb
        have k5 : w1.cell? ⟨w.heap.size + 1 + 1, 0, none⟩ = some (.int .i64 p) := cell_call (cbx ((w.alloc (.cells #[.int .i64 a, .int .i64 b] 23)).alloc (.cells #[.int .i64 c, .int .i64 d] 23)) #[.int .i64 p, .int .i64 q] 23 (w.heap.size + 1 + 1) 0 (.int .i64 p) (by simp) rfl) hb
        have k6 : w1.cell? ⟨w.heap.size + 1 + 1, 1, none⟩ = some (.int .i64 q) := cell_call (cbx ((w.alloc (.cells #[.int .i64 a, .int .i64 b] 23)).alloc (.cells #[.int .i64 c, .int .i64 d] 23)) #[.int .i64 p, .int .i64 q] 23 (w.heap.size + 1 + 1) 1 (.int .i64 q) (by simp) rfl) hb
        replace hB := belT (belA (belA (belA hB _) _) _) hb
        clear hb
        have zk1 : w.heap.size < w1.heap.size := World.block_lt_of_cell? w1 _ k1
        have zk3 : w.heap.size + 1 < w1.heap.size := World.block_lt_of_cell? w1 _ k3
        have zk5 : w.heap.size + 1 + 1 < w1.heap.size := World.block_lt_of_cell? w1 _ k5
        go_wp2_with fail
        refine (H1.out _).mono ?_; rintro e w' ⟨rfl, rfl⟩
        go_wp2_with fail
        refine (H2.out _).mono ?_; rintro e w' ⟨rfl, rfl⟩
        go_wp2_with fail
        go_ret
        exact ⟨ret_bool (by rw [E.out]; simp [*]), hB⟩
  · have hB : Below w.heap.size w w := Below.refl _ _
    go_enter Tryz.func63, Tryz.ntmps63
    go_wp2_with fail
    refine (HC.out _).mono ?_; rintro e w1 ⟨rfl, hb⟩
    have k1 : w1.cell? ⟨w.heap.size, 0, none⟩ = some (.int .i64 a) := cell_call (cell_alloc (cell_alloc (cbx w #[.int .i64 a, .int .i64 b] 23 (w.heap.size) 0 (.int .i64 a) (by simp) rfl) _) _) hb
    have k2 : w1.cell? ⟨w.heap.size, 1, none⟩ = some (.int .i64 b) := cell_call (cell_alloc (cell_alloc (cbx w #[.int .i64 a, .int .i64 b] 23 (w.heap.size) 1 (.int .i64 b) (by simp) rfl) _) _) hb
    have k3 : w1.cell? ⟨w.heap.size + 1, 0, none⟩ = some (.int .i64 c) := cell_call (cell_alloc (cbx (w.alloc (.cells #[.int .i64 a, .int .i64 b] 23)) #[.int .i64 c, .int .i64 d] 23 (w.heap.size + 1) 0 (.int .i64 c) (by simp) rfl) _) hb
    have k4 : w1.cell? ⟨w.heap.size + 1, 1, none⟩ = some (.int .i64 d) := cell_call (cell_alloc (cbx (w.alloc (.cells #[.int .i64 a, .int .i64 b] 23)) #[.int .i64 c, .int .i64 d] 23 (w.heap.size + 1) 1 (.int .i64 d) (by simp) rfl) _) hb
    have k5 : w1.cell? ⟨w.heap.size + 1 + 1, 0, none⟩ = some (.int .i64 p) := cell_call (cbx ((w.alloc (.cells #[.int .i64 a, .int .i64 b] 23)).alloc (.cells #[.int .i64 c, .int .i64 d] 23)) #[.int .i64 p, .int .i64 q] 23 (w.heap.size + 1 + 1) 0 (.int .i64 p) (by simp) rfl) hb
    have k6 : w1.cell? ⟨w.heap.size + 1 + 1, 1, none⟩ = some (.int .i64 q) := cell_call (cbx ((w.alloc (.cells #[.int .i64 a, .int .i64 b] 23)).alloc (.cells #[.int .i64 c, .int .i64 d] 23)) #[.int .i64 p, .int .i64 q] 23 (w.heap.size + 1 + 1) 1 (.int .i64 q) (by simp) rfl) hb
    replace hB := belT (belA (belA (belA hB _) _) _) hb
    clear hb
    have zk1 : w.heap.size < w1.heap.size := World.block_lt_of_cell? w1 _ k1
    have zk3 : w.heap.size + 1 < w1.heap.size := World.block_lt_of_cell? w1 _ k3
    have zk5 : w.heap.size + 1 + 1 < w1.heap.size := World.block_lt_of_cell? w1 _ k5
    go_wp2_with fail
    go_ret
    exact ⟨ret_bool (by rw [E.out]; simp [*]), hB⟩

set_option maxRecDepth 100000 in
set_option maxHeartbeats 8000000 in
theorem vcut_is (a b c d p q r s : Int) (t : Bool) (w : World) (ka : InV a) (kb : InV b) (kc : InV c) (kd : InV d) (kp : InV p) (kq : InV q) (kr : InV r) (ks : InV s) (h : Hid (segB a b c d p q r s = t)) :
    Calls Tryz.prog 31 #[.agg #[.int .i64 a, .int .i64 b], .agg #[.int .i64 c, .int .i64 d], .agg #[.int .i64 p, .int .i64 q], .agg #[.int .i64 r, .int .i64 s]] w fun e w' => e = .returned (.bool t) ∧ Below w.heap.size w w' := by
  obtain ⟨e1, h1⟩ : ∃ x, onB a b c d p q = x := ⟨_, rfl⟩
  obtain ⟨e2, h2⟩ : ∃ x, onB a b c d r s = x := ⟨_, rfl⟩
  obtain ⟨e3, h3⟩ : ∃ x, onB p q r s a b = x := ⟨_, rfl⟩
  obtain ⟨e4, h4⟩ : ∃ x, onB p q r s c d = x := ⟨_, rfl⟩
  obtain ⟨n1, g1⟩ : ∃ x, det a b c d p q = x := ⟨_, rfl⟩
  obtain ⟨o1, s1⟩ : ∃ x, cmpI n1 0 = x := ⟨_, rfl⟩
  have b1 : -1 ≤ o1 ∧ o1 ≤ 1 := by rw [← s1]; exact cmpI_bd _ _
  obtain ⟨n2, g2⟩ : ∃ x, det a b c d r s = x := ⟨_, rfl⟩
  obtain ⟨o2, s2⟩ : ∃ x, cmpI n2 0 = x := ⟨_, rfl⟩
  have b2 : -1 ≤ o2 ∧ o2 ≤ 1 := by rw [← s2]; exact cmpI_bd _ _
  obtain ⟨n3, g3⟩ : ∃ x, det p q r s a b = x := ⟨_, rfl⟩
  obtain ⟨o3, s3⟩ : ∃ x, cmpI n3 0 = x := ⟨_, rfl⟩
  have b3 : -1 ≤ o3 ∧ o3 ≤ 1 := by rw [← s3]; exact cmpI_bd _ _
  obtain ⟨n4, g4⟩ : ∃ x, det p q r s c d = x := ⟨_, rfl⟩
  obtain ⟨o4, s4⟩ : ∃ x, cmpI n4 0 = x := ⟨_, rfl⟩
  have b4 : -1 ≤ o4 ∧ o4 ≤ 1 := by rw [← s4]; exact cmpI_bd _ _
  obtain ⟨m, hm⟩ : ∃ x, o1 * o2 = x := ⟨_, rfl⟩
  obtain ⟨n, hn⟩ : ∃ x, o3 * o4 = x := ⟨_, rfl⟩
  have M1 : IntKind.i64.wrap (o1 * o2) = m := by rw [← hm]; have := mul_bd b1 b2; exact IntWalk.i64_in _ (by omega)
  have M2 : IntKind.i64.wrap (o3 * o4) = n := by rw [← hn]; have := mul_bd b3 b4; exact IntWalk.i64_in _ (by omega)
  have E : Hid (t = ((e1 || e2) || (e3 || e4) || (decide (m < 0) && decide (n < 0)))) := Lib.hid (by rw [← h.out]; unfold segB oppB; rw [ori_cmp, ori_cmp, ori_cmp, ori_cmp, h1, h2, h3, h4, g1, g2, g3, g4, s1, s2, s3, s4, hm, hn])
  have H1 := Lib.hid h1
  have G1 := Lib.hid g1
  have S1 := Lib.hid s1
  have H2 := Lib.hid h2
  have G2 := Lib.hid g2
  have S2 := Lib.hid s2
  have H3 := Lib.hid h3
  have G3 := Lib.hid g3
  have S3 := Lib.hid s3
  have H4 := Lib.hid h4
  have G4 := Lib.hid g4
  have S4 := Lib.hid s4
  clear h h1 h2 h3 h4 g1 g2 g3 g4 s1 s2 s3 s4 hm hn b1 b2 b3 b4
  cases e1
  · cases e2
    · cases e3
      · cases e4
        · have hB : Below w.heap.size w w := Below.refl _ _
          go_enter Tryz.func31, Tryz.ntmps31
          go_wp2_with fail
          refine (von_is a b c d p q false _ ka kb kc kd kp kq H1).mono ?_; rintro e w1 ⟨rfl, hb⟩
          have k1 : w1.cell? ⟨w.heap.size, 0, none⟩ = some (.int .i64 a) := cell_call (cell_alloc (cell_alloc (cell_alloc (cbx w #[.int .i64 a, .int .i64 b] 23 (w.heap.size) 0 (.int .i64 a) (by simp) rfl) _) _) _) hb
          have k2 : w1.cell? ⟨w.heap.size, 1, none⟩ = some (.int .i64 b) := cell_call (cell_alloc (cell_alloc (cell_alloc (cbx w #[.int .i64 a, .int .i64 b] 23 (w.heap.size) 1 (.int .i64 b) (by simp) rfl) _) _) _) hb
          have k3 : w1.cell? ⟨w.heap.size + 1, 0, none⟩ = some (.int .i64 c) := cell_call (cell_alloc (cell_alloc (cbx (w.alloc (.cells #[.int .i64 a, .int .i64 b] 23)) #[.int .i64 c, .int .i64 d] 23 (w.heap.size + 1) 0 (.int .i64 c) (by simp) rfl) _) _) hb
          have k4 : w1.cell? ⟨w.heap.size + 1, 1, none⟩ = some (.int .i64 d) := cell_call (cell_alloc (cell_alloc (cbx (w.alloc (.cells #[.int .i64 a, .int .i64 b] 23)) #[.int .i64 c, .int .i64 d] 23 (w.heap.size + 1) 1 (.int .i64 d) (by simp) rfl) _) _) hb
          have k5 : w1.cell? ⟨w.heap.size + 1 + 1, 0, none⟩ = some (.int .i64 p) := cell_call (cell_alloc (cbx ((w.alloc (.cells #[.int .i64 a, .int .i64 b] 23)).alloc (.cells #[.int .i64 c, .int .i64 d] 23)) #[.int .i64 p, .int .i64 q] 23 (w.heap.size + 1 + 1) 0 (.int .i64 p) (by simp) rfl) _) hb
          have k6 : w1.cell? ⟨w.heap.size + 1 + 1, 1, none⟩ = some (.int .i64 q) := cell_call (cell_alloc (cbx ((w.alloc (.cells #[.int .i64 a, .int .i64 b] 23)).alloc (.cells #[.int .i64 c, .int .i64 d] 23)) #[.int .i64 p, .int .i64 q] 23 (w.heap.size + 1 + 1) 1 (.int .i64 q) (by simp) rfl) _) hb
          have k7 : w1.cell? ⟨w.heap.size + 1 + 1 + 1, 0, none⟩ = some (.int .i64 r) := cell_call (cbx (((w.alloc (.cells #[.int .i64 a, .int .i64 b] 23)).alloc (.cells #[.int .i64 c, .int .i64 d] 23)).alloc (.cells #[.int .i64 p, .int .i64 q] 23)) #[.int .i64 r, .int .i64 s] 23 (w.heap.size + 1 + 1 + 1) 0 (.int .i64 r) (by simp) rfl) hb
          have k8 : w1.cell? ⟨w.heap.size + 1 + 1 + 1, 1, none⟩ = some (.int .i64 s) := cell_call (cbx (((w.alloc (.cells #[.int .i64 a, .int .i64 b] 23)).alloc (.cells #[.int .i64 c, .int .i64 d] 23)).alloc (.cells #[.int .i64 p, .int .i64 q] 23)) #[.int .i64 r, .int .i64 s] 23 (w.heap.size + 1 + 1 + 1) 1 (.int .i64 s) (by simp) rfl) hb
          replace hB := belT (belA (belA (belA (belA hB _) _) _) _) hb
          clear hb
          have zk1 : w.heap.size < w1.heap.size := World.block_lt_of_cell? w1 _ k1
          have zk3 : w.heap.size + 1 < w1.heap.size := World.block_lt_of_cell? w1 _ k3
          have zk5 : w.heap.size + 1 + 1 < w1.heap.size := World.block_lt_of_cell? w1 _ k5
          have zk7 : w.heap.size + 1 + 1 + 1 < w1.heap.size := World.block_lt_of_cell? w1 _ k7
          go_wp2_with fail
          refine (von_is a b c d r s false _ ka kb kc kd kr ks H2).mono ?_; rintro e w2 ⟨rfl, hb⟩
          replace k1 : w2.cell? ⟨w.heap.size, 0, none⟩ = some (.int .i64 a) := cell_call k1 hb
          replace k2 : w2.cell? ⟨w.heap.size, 1, none⟩ = some (.int .i64 b) := cell_call k2 hb
          replace k3 : w2.cell? ⟨w.heap.size + 1, 0, none⟩ = some (.int .i64 c) := cell_call k3 hb
          replace k4 : w2.cell? ⟨w.heap.size + 1, 1, none⟩ = some (.int .i64 d) := cell_call k4 hb
          replace k5 : w2.cell? ⟨w.heap.size + 1 + 1, 0, none⟩ = some (.int .i64 p) := cell_call k5 hb
          replace k6 : w2.cell? ⟨w.heap.size + 1 + 1, 1, none⟩ = some (.int .i64 q) := cell_call k6 hb
          replace k7 : w2.cell? ⟨w.heap.size + 1 + 1 + 1, 0, none⟩ = some (.int .i64 r) := cell_call k7 hb
          replace k8 : w2.cell? ⟨w.heap.size + 1 + 1 + 1, 1, none⟩ = some (.int .i64 s) := cell_call k8 hb
          replace hB := belT hB hb
          clear hb
          replace zk1 : w.heap.size < w2.heap.size := World.block_lt_of_cell? w2 _ k1
          replace zk3 : w.heap.size + 1 < w2.heap.size := World.block_lt_of_cell? w2 _ k3
          replace zk5 : w.heap.size + 1 + 1 < w2.heap.size := World.block_lt_of_cell? w2 _ k5
          replace zk7 : w.heap.size + 1 + 1 + 1 < w2.heap.size := World.block_lt_of_cell? w2 _ k7
          go_wp2_with fail
          refine (von_is p q r s a b false _ kp kq kr ks ka kb H3).mono ?_; rintro e w3 ⟨rfl, hb⟩
          replace k1 : w3.cell? ⟨w.heap.size, 0, none⟩ = some (.int .i64 a) := cell_call k1 hb
          replace k2 : w3.cell? ⟨w.heap.size, 1, none⟩ = some (.int .i64 b) := cell_call k2 hb
          replace k3 : w3.cell? ⟨w.heap.size + 1, 0, none⟩ = some (.int .i64 c) := cell_call k3 hb
          replace k4 : w3.cell? ⟨w.heap.size + 1, 1, none⟩ = some (.int .i64 d) := cell_call k4 hb
          replace k5 : w3.cell? ⟨w.heap.size + 1 + 1, 0, none⟩ = some (.int .i64 p) := cell_call k5 hb
          replace k6 : w3.cell? ⟨w.heap.size + 1 + 1, 1, none⟩ = some (.int .i64 q) := cell_call k6 hb
          replace k7 : w3.cell? ⟨w.heap.size + 1 + 1 + 1, 0, none⟩ = some (.int .i64 r) := cell_call k7 hb
          replace k8 : w3.cell? ⟨w.heap.size + 1 + 1 + 1, 1, none⟩ = some (.int .i64 s) := cell_call k8 hb
          replace hB := belT hB hb
          clear hb
          replace zk1 : w.heap.size < w3.heap.size := World.block_lt_of_cell? w3 _ k1
          replace zk3 : w.heap.size + 1 < w3.heap.size := World.block_lt_of_cell? w3 _ k3
          replace zk5 : w.heap.size + 1 + 1 < w3.heap.size := World.block_lt_of_cell? w3 _ k5
          replace zk7 : w.heap.size + 1 + 1 + 1 < w3.heap.size := World.block_lt_of_cell? w3 _ k7
          go_wp2_with fail
          refine (von_is p q r s c d false _ kp kq kr ks kc kd H4).mono ?_; rintro e w4 ⟨rfl, hb⟩
          replace k1 : w4.cell? ⟨w.heap.size, 0, none⟩ = some (.int .i64 a) := cell_call k1 hb
          replace k2 : w4.cell? ⟨w.heap.size, 1, none⟩ = some (.int .i64 b) := cell_call k2 hb
          replace k3 : w4.cell? ⟨w.heap.size + 1, 0, none⟩ = some (.int .i64 c) := cell_call k3 hb
          replace k4 : w4.cell? ⟨w.heap.size + 1, 1, none⟩ = some (.int .i64 d) := cell_call k4 hb
          replace k5 : w4.cell? ⟨w.heap.size + 1 + 1, 0, none⟩ = some (.int .i64 p) := cell_call k5 hb
          replace k6 : w4.cell? ⟨w.heap.size + 1 + 1, 1, none⟩ = some (.int .i64 q) := cell_call k6 hb
          replace k7 : w4.cell? ⟨w.heap.size + 1 + 1 + 1, 0, none⟩ = some (.int .i64 r) := cell_call k7 hb
          replace k8 : w4.cell? ⟨w.heap.size + 1 + 1 + 1, 1, none⟩ = some (.int .i64 s) := cell_call k8 hb
          replace hB := belT hB hb
          clear hb
          replace zk1 : w.heap.size < w4.heap.size := World.block_lt_of_cell? w4 _ k1
          replace zk3 : w.heap.size + 1 < w4.heap.size := World.block_lt_of_cell? w4 _ k3
          replace zk5 : w.heap.size + 1 + 1 < w4.heap.size := World.block_lt_of_cell? w4 _ k5
          replace zk7 : w.heap.size + 1 + 1 + 1 < w4.heap.size := World.block_lt_of_cell? w4 _ k7
          go_upto_region 3 with fail
          obtain ⟨sp, hsp⟩ : ∃ sp : Told, sp = [none, none, none, none, none, none, none, none, none, some (.inl (.int .i64 m)), none, none, none, none, none, none, none, none, none, none, none, none, none, none, none, none, none, none, none, none, none, none, none, some (.inl (.agg #[.int .i64 a, .int .i64 b])), some (.inl (.agg #[.int .i64 c, .int .i64 d])), some (.inl (.agg #[.int .i64 p, .int .i64 q])), some (.inl (.int .i64 n1)), some (.inl (.int .i64 o1)), some (.inl (.agg #[.int .i64 a, .int .i64 b])), some (.inl (.agg #[.int .i64 c, .int .i64 d])), some (.inl (.agg #[.int .i64 r, .int .i64 s])), some (.inl (.int .i64 n2)), some (.inl (.int .i64 o2)), some (.inl (.int .i64 m))] := ⟨_, rfl⟩
          have s9 : sp.getD 9 none = some (.inl (.int .i64 m)) := by rw [hsp]; rfl
          have s33 : sp.getD 33 none = some (.inl (.agg #[.int .i64 a, .int .i64 b])) := by rw [hsp]; rfl
          have s34 : sp.getD 34 none = some (.inl (.agg #[.int .i64 c, .int .i64 d])) := by rw [hsp]; rfl
          have s35 : sp.getD 35 none = some (.inl (.agg #[.int .i64 p, .int .i64 q])) := by rw [hsp]; rfl
          have s36 : sp.getD 36 none = some (.inl (.int .i64 n1)) := by rw [hsp]; rfl
          have s37 : sp.getD 37 none = some (.inl (.int .i64 o1)) := by rw [hsp]; rfl
          have s38 : sp.getD 38 none = some (.inl (.agg #[.int .i64 a, .int .i64 b])) := by rw [hsp]; rfl
          have s39 : sp.getD 39 none = some (.inl (.agg #[.int .i64 c, .int .i64 d])) := by rw [hsp]; rfl
          have s40 : sp.getD 40 none = some (.inl (.agg #[.int .i64 r, .int .i64 s])) := by rw [hsp]; rfl
          have s41 : sp.getD 41 none = some (.inl (.int .i64 n2)) := by rw [hsp]; rfl
          have s42 : sp.getD 42 none = some (.inl (.int .i64 o2)) := by rw [hsp]; rfl
          have s43 : sp.getD 43 none = some (.inl (.int .i64 m)) := by rw [hsp]; rfl
          clear hsp
          refine region_obs sp (by kernel_rfl) (by kernel_rfl) ?_ ?_
          · rw [List.toList_toArray]
            refine obs_cons ?_ ?_
            · intro T wx K hB hF hD hK
              have g4 : T[4]? = some (.pointer (some ⟨w.heap.size, 0, none⟩)) := hF 4 (free_of (by kernel_rfl))
              refine ob_yes (wanted_none rfl) ?_
              clear hF hD
              have c0 := cell_call k1 hB
              have c1 := cell_call k2 hB
              go_simp
              exact hK _ _ (Below.refl _ _) (rt_eq s33)
            refine obs_cons ?_ ?_
            · intro T wx K hB hF hD hK
              have g5 : T[5]? = some (.pointer (some ⟨w.heap.size + 1, 0, none⟩)) := hF 5 (free_of (by kernel_rfl))
              refine ob_yes (wanted_none rfl) ?_
              clear hF hD
              have c0 := cell_call k3 hB
              have c1 := cell_call k4 hB
              go_simp
              exact hK _ _ (Below.refl _ _) (rt_eq s34)
            refine obs_cons ?_ ?_
            · intro T wx K hB hF hD hK
              have g6 : T[6]? = some (.pointer (some ⟨w.heap.size + 1 + 1, 0, none⟩)) := hF 6 (free_of (by kernel_rfl))
              refine ob_yes (wanted_none rfl) ?_
              clear hF hD
              have c0 := cell_call k5 hB
              have c1 := cell_call k6 hB
              go_simp
              exact hK _ _ (Below.refl _ _) (rt_eq s35)
            refine obs_cons ?_ ?_
            · intro T wx K hB hF hD hK
              have g33 := get_eq (hD 0 33 (by simp [Region.binds]) (by kernel_rfl)) s33
              have g34 := get_eq (hD 1 34 (by simp [Region.binds]) (by kernel_rfl)) s34
              have g35 := get_eq (hD 2 35 (by simp [Region.binds]) (by kernel_rfl)) s35
              refine ob_yes (wanted_none rfl) ?_
              clear hF hD
              go_simp
              refine (vcross_is a b c d p q n1 _ ka kb kc kd kp kq G1).mono ?_; rintro e w9 ⟨rfl, hb⟩
              exact hK _ _ hb (rt_eq s36)
            refine obs_cons ?_ ?_
            · intro T wx K hB hF hD hK
              have g36 := get_eq (hD 3 36 (by simp [Region.binds]) (by kernel_rfl)) s36
              refine ob_yes (wanted_none rfl) ?_
              clear hF hD
              go_simp
              refine (sign_is n1 o1 _ S1).mono ?_; rintro e w9 ⟨rfl, hb⟩
              exact hK _ _ hb (rt_eq s37)
            refine obs_cons ?_ ?_
            · intro T wx K hB hF hD hK
              have g4 : T[4]? = some (.pointer (some ⟨w.heap.size, 0, none⟩)) := hF 4 (free_of (by kernel_rfl))
              refine ob_yes (wanted_none rfl) ?_
              clear hF hD
              have c0 := cell_call k1 hB
              have c1 := cell_call k2 hB
              go_simp
              exact hK _ _ (Below.refl _ _) (rt_eq s38)
            refine obs_cons ?_ ?_
            · intro T wx K hB hF hD hK
              have g5 : T[5]? = some (.pointer (some ⟨w.heap.size + 1, 0, none⟩)) := hF 5 (free_of (by kernel_rfl))
              refine ob_yes (wanted_none rfl) ?_
              clear hF hD
              have c0 := cell_call k3 hB
              have c1 := cell_call k4 hB
              go_simp
              exact hK _ _ (Below.refl _ _) (rt_eq s39)
            refine obs_cons ?_ ?_
            · intro T wx K hB hF hD hK
              have g7 : T[7]? = some (.pointer (some ⟨w.heap.size + 1 + 1 + 1, 0, none⟩)) := hF 7 (free_of (by kernel_rfl))
              refine ob_yes (wanted_none rfl) ?_
              clear hF hD
              have c0 := cell_call k7 hB
              have c1 := cell_call k8 hB
              go_simp
              exact hK _ _ (Below.refl _ _) (rt_eq s40)
            refine obs_cons ?_ ?_
            · intro T wx K hB hF hD hK
              have g38 := get_eq (hD 5 38 (by simp [Region.binds]) (by kernel_rfl)) s38
              have g39 := get_eq (hD 6 39 (by simp [Region.binds]) (by kernel_rfl)) s39
              have g40 := get_eq (hD 7 40 (by simp [Region.binds]) (by kernel_rfl)) s40
              refine ob_yes (wanted_none rfl) ?_
              clear hF hD
              go_simp
              refine (vcross_is a b c d r s n2 _ ka kb kc kd kr ks G2).mono ?_; rintro e w9 ⟨rfl, hb⟩
              exact hK _ _ hb (rt_eq s41)
            refine obs_cons ?_ ?_
            · intro T wx K hB hF hD hK
              have g41 := get_eq (hD 8 41 (by simp [Region.binds]) (by kernel_rfl)) s41
              refine ob_yes (wanted_none rfl) ?_
              clear hF hD
              go_simp
              refine (sign_is n2 o2 _ S2).mono ?_; rintro e w9 ⟨rfl, hb⟩
              exact hK _ _ hb (rt_eq s42)
            refine obs_cons ?_ ?_
            · intro T wx K hB hF hD hK
              have g37 := get_eq (hD 4 37 (by simp [Region.binds]) (by kernel_rfl)) s37
              have g42 := get_eq (hD 9 42 (by simp [Region.binds]) (by kernel_rfl)) s42
              refine ob_yes (wanted_none rfl) ?_
              clear hF hD
              go_simp
              exact hK _ _ (Below.refl _ _) (rt_eq s43)
            refine obs_cons ?_ ?_
            · intro T wx K hB hF hD hK
              have g43 := get_eq (hD 10 43 (by simp [Region.binds]) (by kernel_rfl)) s43
              refine ob_yes (wanted_none rfl) ?_
              clear hF hD
              go_simp
              exact hK _ _ (Below.refl _ _) (rt_eq s9)
            exact obs_nil
          · intro T v5 hb hF hs hD
            have g33 := get_eq (hD 0 33 (by kernel_rfl)) s33
            have g34 := get_eq (hD 1 34 (by kernel_rfl)) s34
            have g35 := get_eq (hD 2 35 (by kernel_rfl)) s35
            have g36 := get_eq (hD 3 36 (by kernel_rfl)) s36
            have g37 := get_eq (hD 4 37 (by kernel_rfl)) s37
            have g38 := get_eq (hD 5 38 (by kernel_rfl)) s38
            have g39 := get_eq (hD 6 39 (by kernel_rfl)) s39
            have g40 := get_eq (hD 7 40 (by kernel_rfl)) s40
            have g41 := get_eq (hD 8 41 (by kernel_rfl)) s41
            have g42 := get_eq (hD 9 42 (by kernel_rfl)) s42
            have g43 := get_eq (hD 10 43 (by kernel_rfl)) s43
            have g9 := get_eq (hD 11 9 (by kernel_rfl)) s9
            have hT := concF [(33, .agg #[.int .i64 a, .int .i64 b]), (34, .agg #[.int .i64 c, .int .i64 d]), (35, .agg #[.int .i64 p, .int .i64 q]), (36, .int .i64 n1), (37, .int .i64 o1), (38, .agg #[.int .i64 a, .int .i64 b]), (39, .agg #[.int .i64 c, .int .i64 d]), (40, .agg #[.int .i64 r, .int .i64 s]), (41, .int .i64 n2), (42, .int .i64 o2), (43, .int .i64 m), (9, .int .i64 m)] hs hF (by simp only [List.forall_mem_cons]; exact ⟨g33, g34, g35, g36, g37, g38, g39, g40, g41, g42, g43, g9, fun p hp => absurd hp List.not_mem_nil⟩) (by kernel_rfl)
            simp only [List.foldl, List.setIfInBounds_toArray, List.set_cons_succ, List.set_cons_zero] at hT
            subst hT
            clear hF hD hs g33 g34 g35 g36 g37 g38 g39 g40 g41 g42 g43 g9 s33 s34 s35 s36 s37 s38 s39 s40 s41 s42 s43 s9
            replace k1 : v5.cell? ⟨w.heap.size, 0, none⟩ = some (.int .i64 a) := cell_call k1 hb
            replace k2 : v5.cell? ⟨w.heap.size, 1, none⟩ = some (.int .i64 b) := cell_call k2 hb
            replace k3 : v5.cell? ⟨w.heap.size + 1, 0, none⟩ = some (.int .i64 c) := cell_call k3 hb
            replace k4 : v5.cell? ⟨w.heap.size + 1, 1, none⟩ = some (.int .i64 d) := cell_call k4 hb
            replace k5 : v5.cell? ⟨w.heap.size + 1 + 1, 0, none⟩ = some (.int .i64 p) := cell_call k5 hb
            replace k6 : v5.cell? ⟨w.heap.size + 1 + 1, 1, none⟩ = some (.int .i64 q) := cell_call k6 hb
            replace k7 : v5.cell? ⟨w.heap.size + 1 + 1 + 1, 0, none⟩ = some (.int .i64 r) := cell_call k7 hb
            replace k8 : v5.cell? ⟨w.heap.size + 1 + 1 + 1, 1, none⟩ = some (.int .i64 s) := cell_call k8 hb
            replace hB := belT hB hb
            clear hb
            clear zk1
            clear zk3
            clear zk5
            clear zk7
            have zk1 : w.heap.size < v5.heap.size := World.block_lt_of_cell? v5 _ k1
            have zk3 : w.heap.size + 1 < v5.heap.size := World.block_lt_of_cell? v5 _ k3
            have zk5 : w.heap.size + 1 + 1 < v5.heap.size := World.block_lt_of_cell? v5 _ k5
            have zk7 : w.heap.size + 1 + 1 + 1 < v5.heap.size := World.block_lt_of_cell? v5 _ k7
            go_upto_region 4 with fail
            obtain ⟨sp, hsp⟩ : ∃ sp : Told, sp = [none, none, none, none, none, none, none, none, none, none, some (.inl (.int .i64 n)), none, none, none, none, none, none, none, none, none, none, none, none, none, none, none, none, none, none, none, none, none, none, none, none, none, none, none, none, none, none, none, none, none, some (.inl (.agg #[.int .i64 p, .int .i64 q])), some (.inl (.agg #[.int .i64 r, .int .i64 s])), some (.inl (.agg #[.int .i64 a, .int .i64 b])), some (.inl (.int .i64 n3)), some (.inl (.int .i64 o3)), some (.inl (.agg #[.int .i64 p, .int .i64 q])), some (.inl (.agg #[.int .i64 r, .int .i64 s])), some (.inl (.agg #[.int .i64 c, .int .i64 d])), some (.inl (.int .i64 n4)), some (.inl (.int .i64 o4)), some (.inl (.int .i64 n))] := ⟨_, rfl⟩
            have s10 : sp.getD 10 none = some (.inl (.int .i64 n)) := by rw [hsp]; rfl
            have s44 : sp.getD 44 none = some (.inl (.agg #[.int .i64 p, .int .i64 q])) := by rw [hsp]; rfl
            have s45 : sp.getD 45 none = some (.inl (.agg #[.int .i64 r, .int .i64 s])) := by rw [hsp]; rfl
            have s46 : sp.getD 46 none = some (.inl (.agg #[.int .i64 a, .int .i64 b])) := by rw [hsp]; rfl
            have s47 : sp.getD 47 none = some (.inl (.int .i64 n3)) := by rw [hsp]; rfl
            have s48 : sp.getD 48 none = some (.inl (.int .i64 o3)) := by rw [hsp]; rfl
            have s49 : sp.getD 49 none = some (.inl (.agg #[.int .i64 p, .int .i64 q])) := by rw [hsp]; rfl
            have s50 : sp.getD 50 none = some (.inl (.agg #[.int .i64 r, .int .i64 s])) := by rw [hsp]; rfl
            have s51 : sp.getD 51 none = some (.inl (.agg #[.int .i64 c, .int .i64 d])) := by rw [hsp]; rfl
            have s52 : sp.getD 52 none = some (.inl (.int .i64 n4)) := by rw [hsp]; rfl
            have s53 : sp.getD 53 none = some (.inl (.int .i64 o4)) := by rw [hsp]; rfl
            have s54 : sp.getD 54 none = some (.inl (.int .i64 n)) := by rw [hsp]; rfl
            clear hsp
            refine region_obs sp (by kernel_rfl) (by kernel_rfl) ?_ ?_
            · rw [List.toList_toArray]
              refine obs_cons ?_ ?_
              · intro T wx K hB hF hD hK
                have g6 : T[6]? = some (.pointer (some ⟨w.heap.size + 1 + 1, 0, none⟩)) := hF 6 (free_of (by kernel_rfl))
                refine ob_yes (wanted_none rfl) ?_
                clear hF hD
                have c0 := cell_call k5 hB
                have c1 := cell_call k6 hB
                go_simp
                exact hK _ _ (Below.refl _ _) (rt_eq s44)
              refine obs_cons ?_ ?_
              · intro T wx K hB hF hD hK
                have g7 : T[7]? = some (.pointer (some ⟨w.heap.size + 1 + 1 + 1, 0, none⟩)) := hF 7 (free_of (by kernel_rfl))
                refine ob_yes (wanted_none rfl) ?_
                clear hF hD
                have c0 := cell_call k7 hB
                have c1 := cell_call k8 hB
                go_simp
                exact hK _ _ (Below.refl _ _) (rt_eq s45)
              refine obs_cons ?_ ?_
              · intro T wx K hB hF hD hK
                have g4 : T[4]? = some (.pointer (some ⟨w.heap.size, 0, none⟩)) := hF 4 (free_of (by kernel_rfl))
                refine ob_yes (wanted_none rfl) ?_
                clear hF hD
                have c0 := cell_call k1 hB
                have c1 := cell_call k2 hB
                go_simp
                exact hK _ _ (Below.refl _ _) (rt_eq s46)
              refine obs_cons ?_ ?_
              · intro T wx K hB hF hD hK
                have g44 := get_eq (hD 0 44 (by simp [Region.binds]) (by kernel_rfl)) s44
                have g45 := get_eq (hD 1 45 (by simp [Region.binds]) (by kernel_rfl)) s45
                have g46 := get_eq (hD 2 46 (by simp [Region.binds]) (by kernel_rfl)) s46
                refine ob_yes (wanted_none rfl) ?_
                clear hF hD
                go_simp
                refine (vcross_is p q r s a b n3 _ kp kq kr ks ka kb G3).mono ?_; rintro e w9 ⟨rfl, hb⟩
                exact hK _ _ hb (rt_eq s47)
              refine obs_cons ?_ ?_
              · intro T wx K hB hF hD hK
                have g47 := get_eq (hD 3 47 (by simp [Region.binds]) (by kernel_rfl)) s47
                refine ob_yes (wanted_none rfl) ?_
                clear hF hD
                go_simp
                refine (sign_is n3 o3 _ S3).mono ?_; rintro e w9 ⟨rfl, hb⟩
                exact hK _ _ hb (rt_eq s48)
              refine obs_cons ?_ ?_
              · intro T wx K hB hF hD hK
                have g6 : T[6]? = some (.pointer (some ⟨w.heap.size + 1 + 1, 0, none⟩)) := hF 6 (free_of (by kernel_rfl))
                refine ob_yes (wanted_none rfl) ?_
                clear hF hD
                have c0 := cell_call k5 hB
                have c1 := cell_call k6 hB
                go_simp
                exact hK _ _ (Below.refl _ _) (rt_eq s49)
              refine obs_cons ?_ ?_
              · intro T wx K hB hF hD hK
                have g7 : T[7]? = some (.pointer (some ⟨w.heap.size + 1 + 1 + 1, 0, none⟩)) := hF 7 (free_of (by kernel_rfl))
                refine ob_yes (wanted_none rfl) ?_
                clear hF hD
                have c0 := cell_call k7 hB
                have c1 := cell_call k8 hB
                go_simp
                exact hK _ _ (Below.refl _ _) (rt_eq s50)
              refine obs_cons ?_ ?_
              · intro T wx K hB hF hD hK
                have g5 : T[5]? = some (.pointer (some ⟨w.heap.size + 1, 0, none⟩)) := hF 5 (free_of (by kernel_rfl))
                refine ob_yes (wanted_none rfl) ?_
                clear hF hD
                have c0 := cell_call k3 hB
                have c1 := cell_call k4 hB
                go_simp
                exact hK _ _ (Below.refl _ _) (rt_eq s51)
              refine obs_cons ?_ ?_
              · intro T wx K hB hF hD hK
                have g49 := get_eq (hD 5 49 (by simp [Region.binds]) (by kernel_rfl)) s49
                have g50 := get_eq (hD 6 50 (by simp [Region.binds]) (by kernel_rfl)) s50
                have g51 := get_eq (hD 7 51 (by simp [Region.binds]) (by kernel_rfl)) s51
                refine ob_yes (wanted_none rfl) ?_
                clear hF hD
                go_simp
                refine (vcross_is p q r s c d n4 _ kp kq kr ks kc kd G4).mono ?_; rintro e w9 ⟨rfl, hb⟩
                exact hK _ _ hb (rt_eq s52)
              refine obs_cons ?_ ?_
              · intro T wx K hB hF hD hK
                have g52 := get_eq (hD 8 52 (by simp [Region.binds]) (by kernel_rfl)) s52
                refine ob_yes (wanted_none rfl) ?_
                clear hF hD
                go_simp
                refine (sign_is n4 o4 _ S4).mono ?_; rintro e w9 ⟨rfl, hb⟩
                exact hK _ _ hb (rt_eq s53)
              refine obs_cons ?_ ?_
              · intro T wx K hB hF hD hK
                have g48 := get_eq (hD 4 48 (by simp [Region.binds]) (by kernel_rfl)) s48
                have g53 := get_eq (hD 9 53 (by simp [Region.binds]) (by kernel_rfl)) s53
                refine ob_yes (wanted_none rfl) ?_
                clear hF hD
                go_simp
                exact hK _ _ (Below.refl _ _) (rt_eq s54)
              refine obs_cons ?_ ?_
              · intro T wx K hB hF hD hK
                have g54 := get_eq (hD 10 54 (by simp [Region.binds]) (by kernel_rfl)) s54
                refine ob_yes (wanted_none rfl) ?_
                clear hF hD
                go_simp
                exact hK _ _ (Below.refl _ _) (rt_eq s10)
              exact obs_nil
            · intro T v6 hb hF hs hD
              have g44 := get_eq (hD 0 44 (by kernel_rfl)) s44
              have g45 := get_eq (hD 1 45 (by kernel_rfl)) s45
              have g46 := get_eq (hD 2 46 (by kernel_rfl)) s46
              have g47 := get_eq (hD 3 47 (by kernel_rfl)) s47
              have g48 := get_eq (hD 4 48 (by kernel_rfl)) s48
              have g49 := get_eq (hD 5 49 (by kernel_rfl)) s49
              have g50 := get_eq (hD 6 50 (by kernel_rfl)) s50
              have g51 := get_eq (hD 7 51 (by kernel_rfl)) s51
              have g52 := get_eq (hD 8 52 (by kernel_rfl)) s52
              have g53 := get_eq (hD 9 53 (by kernel_rfl)) s53
              have g54 := get_eq (hD 10 54 (by kernel_rfl)) s54
              have g10 := get_eq (hD 11 10 (by kernel_rfl)) s10
              have hT := concF [(44, .agg #[.int .i64 p, .int .i64 q]), (45, .agg #[.int .i64 r, .int .i64 s]), (46, .agg #[.int .i64 a, .int .i64 b]), (47, .int .i64 n3), (48, .int .i64 o3), (49, .agg #[.int .i64 p, .int .i64 q]), (50, .agg #[.int .i64 r, .int .i64 s]), (51, .agg #[.int .i64 c, .int .i64 d]), (52, .int .i64 n4), (53, .int .i64 o4), (54, .int .i64 n), (10, .int .i64 n)] hs hF (by simp only [List.forall_mem_cons]; exact ⟨g44, g45, g46, g47, g48, g49, g50, g51, g52, g53, g54, g10, fun p hp => absurd hp List.not_mem_nil⟩) (by kernel_rfl)
              simp only [List.foldl, List.setIfInBounds_toArray, List.set_cons_succ, List.set_cons_zero] at hT
              subst hT
              clear hF hD hs g44 g45 g46 g47 g48 g49 g50 g51 g52 g53 g54 g10 s44 s45 s46 s47 s48 s49 s50 s51 s52 s53 s54 s10
              replace k1 : v6.cell? ⟨w.heap.size, 0, none⟩ = some (.int .i64 a) := cell_call k1 hb
              replace k2 : v6.cell? ⟨w.heap.size, 1, none⟩ = some (.int .i64 b) := cell_call k2 hb
              replace k3 : v6.cell? ⟨w.heap.size + 1, 0, none⟩ = some (.int .i64 c) := cell_call k3 hb
              replace k4 : v6.cell? ⟨w.heap.size + 1, 1, none⟩ = some (.int .i64 d) := cell_call k4 hb
              replace k5 : v6.cell? ⟨w.heap.size + 1 + 1, 0, none⟩ = some (.int .i64 p) := cell_call k5 hb
              replace k6 : v6.cell? ⟨w.heap.size + 1 + 1, 1, none⟩ = some (.int .i64 q) := cell_call k6 hb
              replace k7 : v6.cell? ⟨w.heap.size + 1 + 1 + 1, 0, none⟩ = some (.int .i64 r) := cell_call k7 hb
              replace k8 : v6.cell? ⟨w.heap.size + 1 + 1 + 1, 1, none⟩ = some (.int .i64 s) := cell_call k8 hb
              replace hB := belT hB hb
              clear hb
              clear zk1
              clear zk3
              clear zk5
              clear zk7
              have zk1 : w.heap.size < v6.heap.size := World.block_lt_of_cell? v6 _ k1
              have zk3 : w.heap.size + 1 < v6.heap.size := World.block_lt_of_cell? v6 _ k3
              have zk5 : w.heap.size + 1 + 1 < v6.heap.size := World.block_lt_of_cell? v6 _ k5
              have zk7 : w.heap.size + 1 + 1 + 1 < v6.heap.size := World.block_lt_of_cell? v6 _ k7
              by_cases x1 : m < 0
              · by_cases x2 : n < 0
                · go_wp2_with fail
                  go_ret
                  exact ⟨ret_bool (by rw [E.out]; simp [*]), hB⟩
                · have dn : decide (n < 0) = false := by simpa using x2
                  go_wp2_with fail
                  go_ret
                  exact ⟨ret_bool (by rw [E.out]; simp [*]), hB⟩
              · have dm : decide (m < 0) = false := by simpa using x1
                go_wp2_with fail
                go_ret
                exact ⟨ret_bool (by rw [E.out]; simp [*]), hB⟩
        · have hB : Below w.heap.size w w := Below.refl _ _
          clear M1 M2
          go_enter Tryz.func31, Tryz.ntmps31
          go_wp2_with fail
          refine (von_is a b c d p q false _ ka kb kc kd kp kq H1).mono ?_; rintro e w1 ⟨rfl, hb⟩
          have k1 : w1.cell? ⟨w.heap.size, 0, none⟩ = some (.int .i64 a) := cell_call (cell_alloc (cell_alloc (cell_alloc (cbx w #[.int .i64 a, .int .i64 b] 23 (w.heap.size) 0 (.int .i64 a) (by simp) rfl) _) _) _) hb
          have k2 : w1.cell? ⟨w.heap.size, 1, none⟩ = some (.int .i64 b) := cell_call (cell_alloc (cell_alloc (cell_alloc (cbx w #[.int .i64 a, .int .i64 b] 23 (w.heap.size) 1 (.int .i64 b) (by simp) rfl) _) _) _) hb
          have k3 : w1.cell? ⟨w.heap.size + 1, 0, none⟩ = some (.int .i64 c) := cell_call (cell_alloc (cell_alloc (cbx (w.alloc (.cells #[.int .i64 a, .int .i64 b] 23)) #[.int .i64 c, .int .i64 d] 23 (w.heap.size + 1) 0 (.int .i64 c) (by simp) rfl) _) _) hb
          have k4 : w1.cell? ⟨w.heap.size + 1, 1, none⟩ = some (.int .i64 d) := cell_call (cell_alloc (cell_alloc (cbx (w.alloc (.cells #[.int .i64 a, .int .i64 b] 23)) #[.int .i64 c, .int .i64 d] 23 (w.heap.size + 1) 1 (.int .i64 d) (by simp) rfl) _) _) hb
          have k5 : w1.cell? ⟨w.heap.size + 1 + 1, 0, none⟩ = some (.int .i64 p) := cell_call (cell_alloc (cbx ((w.alloc (.cells #[.int .i64 a, .int .i64 b] 23)).alloc (.cells #[.int .i64 c, .int .i64 d] 23)) #[.int .i64 p, .int .i64 q] 23 (w.heap.size + 1 + 1) 0 (.int .i64 p) (by simp) rfl) _) hb
          have k6 : w1.cell? ⟨w.heap.size + 1 + 1, 1, none⟩ = some (.int .i64 q) := cell_call (cell_alloc (cbx ((w.alloc (.cells #[.int .i64 a, .int .i64 b] 23)).alloc (.cells #[.int .i64 c, .int .i64 d] 23)) #[.int .i64 p, .int .i64 q] 23 (w.heap.size + 1 + 1) 1 (.int .i64 q) (by simp) rfl) _) hb
          have k7 : w1.cell? ⟨w.heap.size + 1 + 1 + 1, 0, none⟩ = some (.int .i64 r) := cell_call (cbx (((w.alloc (.cells #[.int .i64 a, .int .i64 b] 23)).alloc (.cells #[.int .i64 c, .int .i64 d] 23)).alloc (.cells #[.int .i64 p, .int .i64 q] 23)) #[.int .i64 r, .int .i64 s] 23 (w.heap.size + 1 + 1 + 1) 0 (.int .i64 r) (by simp) rfl) hb
          have k8 : w1.cell? ⟨w.heap.size + 1 + 1 + 1, 1, none⟩ = some (.int .i64 s) := cell_call (cbx (((w.alloc (.cells #[.int .i64 a, .int .i64 b] 23)).alloc (.cells #[.int .i64 c, .int .i64 d] 23)).alloc (.cells #[.int .i64 p, .int .i64 q] 23)) #[.int .i64 r, .int .i64 s] 23 (w.heap.size + 1 + 1 + 1) 1 (.int .i64 s) (by simp) rfl) hb
          replace hB := belT (belA (belA (belA (belA hB _) _) _) _) hb
          clear hb
          have zk1 : w.heap.size < w1.heap.size := World.block_lt_of_cell? w1 _ k1
          have zk3 : w.heap.size + 1 < w1.heap.size := World.block_lt_of_cell? w1 _ k3
          have zk5 : w.heap.size + 1 + 1 < w1.heap.size := World.block_lt_of_cell? w1 _ k5
          have zk7 : w.heap.size + 1 + 1 + 1 < w1.heap.size := World.block_lt_of_cell? w1 _ k7
          go_wp2_with fail
          refine (von_is a b c d r s false _ ka kb kc kd kr ks H2).mono ?_; rintro e w2 ⟨rfl, hb⟩
          replace k1 : w2.cell? ⟨w.heap.size, 0, none⟩ = some (.int .i64 a) := cell_call k1 hb
          replace k2 : w2.cell? ⟨w.heap.size, 1, none⟩ = some (.int .i64 b) := cell_call k2 hb
          replace k3 : w2.cell? ⟨w.heap.size + 1, 0, none⟩ = some (.int .i64 c) := cell_call k3 hb
          replace k4 : w2.cell? ⟨w.heap.size + 1, 1, none⟩ = some (.int .i64 d) := cell_call k4 hb
          replace k5 : w2.cell? ⟨w.heap.size + 1 + 1, 0, none⟩ = some (.int .i64 p) := cell_call k5 hb
          replace k6 : w2.cell? ⟨w.heap.size + 1 + 1, 1, none⟩ = some (.int .i64 q) := cell_call k6 hb
          replace k7 : w2.cell? ⟨w.heap.size + 1 + 1 + 1, 0, none⟩ = some (.int .i64 r) := cell_call k7 hb
          replace k8 : w2.cell? ⟨w.heap.size + 1 + 1 + 1, 1, none⟩ = some (.int .i64 s) := cell_call k8 hb
          replace hB := belT hB hb
          clear hb
          replace zk1 : w.heap.size < w2.heap.size := World.block_lt_of_cell? w2 _ k1
          replace zk3 : w.heap.size + 1 < w2.heap.size := World.block_lt_of_cell? w2 _ k3
          replace zk5 : w.heap.size + 1 + 1 < w2.heap.size := World.block_lt_of_cell? w2 _ k5
          replace zk7 : w.heap.size + 1 + 1 + 1 < w2.heap.size := World.block_lt_of_cell? w2 _ k7
          go_wp2_with fail
          refine (von_is p q r s a b false _ kp kq kr ks ka kb H3).mono ?_; rintro e w3 ⟨rfl, hb⟩
          replace k1 : w3.cell? ⟨w.heap.size, 0, none⟩ = some (.int .i64 a) := cell_call k1 hb
          replace k2 : w3.cell? ⟨w.heap.size, 1, none⟩ = some (.int .i64 b) := cell_call k2 hb
          replace k3 : w3.cell? ⟨w.heap.size + 1, 0, none⟩ = some (.int .i64 c) := cell_call k3 hb
          replace k4 : w3.cell? ⟨w.heap.size + 1, 1, none⟩ = some (.int .i64 d) := cell_call k4 hb
          replace k5 : w3.cell? ⟨w.heap.size + 1 + 1, 0, none⟩ = some (.int .i64 p) := cell_call k5 hb
          replace k6 : w3.cell? ⟨w.heap.size + 1 + 1, 1, none⟩ = some (.int .i64 q) := cell_call k6 hb
          replace k7 : w3.cell? ⟨w.heap.size + 1 + 1 + 1, 0, none⟩ = some (.int .i64 r) := cell_call k7 hb
          replace k8 : w3.cell? ⟨w.heap.size + 1 + 1 + 1, 1, none⟩ = some (.int .i64 s) := cell_call k8 hb
          replace hB := belT hB hb
          clear hb
          replace zk1 : w.heap.size < w3.heap.size := World.block_lt_of_cell? w3 _ k1
          replace zk3 : w.heap.size + 1 < w3.heap.size := World.block_lt_of_cell? w3 _ k3
          replace zk5 : w.heap.size + 1 + 1 < w3.heap.size := World.block_lt_of_cell? w3 _ k5
          replace zk7 : w.heap.size + 1 + 1 + 1 < w3.heap.size := World.block_lt_of_cell? w3 _ k7
          go_wp2_with fail
          refine (von_is p q r s c d true _ kp kq kr ks kc kd H4).mono ?_; rintro e w4 ⟨rfl, hb⟩
          replace k1 : w4.cell? ⟨w.heap.size, 0, none⟩ = some (.int .i64 a) := cell_call k1 hb
          replace k2 : w4.cell? ⟨w.heap.size, 1, none⟩ = some (.int .i64 b) := cell_call k2 hb
          replace k3 : w4.cell? ⟨w.heap.size + 1, 0, none⟩ = some (.int .i64 c) := cell_call k3 hb
          replace k4 : w4.cell? ⟨w.heap.size + 1, 1, none⟩ = some (.int .i64 d) := cell_call k4 hb
          replace k5 : w4.cell? ⟨w.heap.size + 1 + 1, 0, none⟩ = some (.int .i64 p) := cell_call k5 hb
          replace k6 : w4.cell? ⟨w.heap.size + 1 + 1, 1, none⟩ = some (.int .i64 q) := cell_call k6 hb
          replace k7 : w4.cell? ⟨w.heap.size + 1 + 1 + 1, 0, none⟩ = some (.int .i64 r) := cell_call k7 hb
          replace k8 : w4.cell? ⟨w.heap.size + 1 + 1 + 1, 1, none⟩ = some (.int .i64 s) := cell_call k8 hb
          replace hB := belT hB hb
          clear hb
          replace zk1 : w.heap.size < w4.heap.size := World.block_lt_of_cell? w4 _ k1
          replace zk3 : w.heap.size + 1 < w4.heap.size := World.block_lt_of_cell? w4 _ k3
          replace zk5 : w.heap.size + 1 + 1 < w4.heap.size := World.block_lt_of_cell? w4 _ k5
          replace zk7 : w.heap.size + 1 + 1 + 1 < w4.heap.size := World.block_lt_of_cell? w4 _ k7
          go_wp2_with fail
          go_ret
          exact ⟨ret_bool (by rw [E.out]; simp), hB⟩
      · have hB : Below w.heap.size w w := Below.refl _ _
        clear M1 M2
        go_enter Tryz.func31, Tryz.ntmps31
        go_wp2_with fail
        refine (von_is a b c d p q false _ ka kb kc kd kp kq H1).mono ?_; rintro e w1 ⟨rfl, hb⟩
        have k1 : w1.cell? ⟨w.heap.size, 0, none⟩ = some (.int .i64 a) := cell_call (cell_alloc (cell_alloc (cell_alloc (cbx w #[.int .i64 a, .int .i64 b] 23 (w.heap.size) 0 (.int .i64 a) (by simp) rfl) _) _) _) hb
        have k2 : w1.cell? ⟨w.heap.size, 1, none⟩ = some (.int .i64 b) := cell_call (cell_alloc (cell_alloc (cell_alloc (cbx w #[.int .i64 a, .int .i64 b] 23 (w.heap.size) 1 (.int .i64 b) (by simp) rfl) _) _) _) hb
        have k3 : w1.cell? ⟨w.heap.size + 1, 0, none⟩ = some (.int .i64 c) := cell_call (cell_alloc (cell_alloc (cbx (w.alloc (.cells #[.int .i64 a, .int .i64 b] 23)) #[.int .i64 c, .int .i64 d] 23 (w.heap.size + 1) 0 (.int .i64 c) (by simp) rfl) _) _) hb
        have k4 : w1.cell? ⟨w.heap.size + 1, 1, none⟩ = some (.int .i64 d) := cell_call (cell_alloc (cell_alloc (cbx (w.alloc (.cells #[.int .i64 a, .int .i64 b] 23)) #[.int .i64 c, .int .i64 d] 23 (w.heap.size + 1) 1 (.int .i64 d) (by simp) rfl) _) _) hb
        have k5 : w1.cell? ⟨w.heap.size + 1 + 1, 0, none⟩ = some (.int .i64 p) := cell_call (cell_alloc (cbx ((w.alloc (.cells #[.int .i64 a, .int .i64 b] 23)).alloc (.cells #[.int .i64 c, .int .i64 d] 23)) #[.int .i64 p, .int .i64 q] 23 (w.heap.size + 1 + 1) 0 (.int .i64 p) (by simp) rfl) _) hb
        have k6 : w1.cell? ⟨w.heap.size + 1 + 1, 1, none⟩ = some (.int .i64 q) := cell_call (cell_alloc (cbx ((w.alloc (.cells #[.int .i64 a, .int .i64 b] 23)).alloc (.cells #[.int .i64 c, .int .i64 d] 23)) #[.int .i64 p, .int .i64 q] 23 (w.heap.size + 1 + 1) 1 (.int .i64 q) (by simp) rfl) _) hb
        have k7 : w1.cell? ⟨w.heap.size + 1 + 1 + 1, 0, none⟩ = some (.int .i64 r) := cell_call (cbx (((w.alloc (.cells #[.int .i64 a, .int .i64 b] 23)).alloc (.cells #[.int .i64 c, .int .i64 d] 23)).alloc (.cells #[.int .i64 p, .int .i64 q] 23)) #[.int .i64 r, .int .i64 s] 23 (w.heap.size + 1 + 1 + 1) 0 (.int .i64 r) (by simp) rfl) hb
        have k8 : w1.cell? ⟨w.heap.size + 1 + 1 + 1, 1, none⟩ = some (.int .i64 s) := cell_call (cbx (((w.alloc (.cells #[.int .i64 a, .int .i64 b] 23)).alloc (.cells #[.int .i64 c, .int .i64 d] 23)).alloc (.cells #[.int .i64 p, .int .i64 q] 23)) #[.int .i64 r, .int .i64 s] 23 (w.heap.size + 1 + 1 + 1) 1 (.int .i64 s) (by simp) rfl) hb
        replace hB := belT (belA (belA (belA (belA hB _) _) _) _) hb
        clear hb
        have zk1 : w.heap.size < w1.heap.size := World.block_lt_of_cell? w1 _ k1
        have zk3 : w.heap.size + 1 < w1.heap.size := World.block_lt_of_cell? w1 _ k3
        have zk5 : w.heap.size + 1 + 1 < w1.heap.size := World.block_lt_of_cell? w1 _ k5
        have zk7 : w.heap.size + 1 + 1 + 1 < w1.heap.size := World.block_lt_of_cell? w1 _ k7
        go_wp2_with fail
        refine (von_is a b c d r s false _ ka kb kc kd kr ks H2).mono ?_; rintro e w2 ⟨rfl, hb⟩
        replace k1 : w2.cell? ⟨w.heap.size, 0, none⟩ = some (.int .i64 a) := cell_call k1 hb
        replace k2 : w2.cell? ⟨w.heap.size, 1, none⟩ = some (.int .i64 b) := cell_call k2 hb
        replace k3 : w2.cell? ⟨w.heap.size + 1, 0, none⟩ = some (.int .i64 c) := cell_call k3 hb
        replace k4 : w2.cell? ⟨w.heap.size + 1, 1, none⟩ = some (.int .i64 d) := cell_call k4 hb
        replace k5 : w2.cell? ⟨w.heap.size + 1 + 1, 0, none⟩ = some (.int .i64 p) := cell_call k5 hb
        replace k6 : w2.cell? ⟨w.heap.size + 1 + 1, 1, none⟩ = some (.int .i64 q) := cell_call k6 hb
        replace k7 : w2.cell? ⟨w.heap.size + 1 + 1 + 1, 0, none⟩ = some (.int .i64 r) := cell_call k7 hb
        replace k8 : w2.cell? ⟨w.heap.size + 1 + 1 + 1, 1, none⟩ = some (.int .i64 s) := cell_call k8 hb
        replace hB := belT hB hb
        clear hb
        replace zk1 : w.heap.size < w2.heap.size := World.block_lt_of_cell? w2 _ k1
        replace zk3 : w.heap.size + 1 < w2.heap.size := World.block_lt_of_cell? w2 _ k3
        replace zk5 : w.heap.size + 1 + 1 < w2.heap.size := World.block_lt_of_cell? w2 _ k5
        replace zk7 : w.heap.size + 1 + 1 + 1 < w2.heap.size := World.block_lt_of_cell? w2 _ k7
        go_wp2_with fail
        refine (von_is p q r s a b true _ kp kq kr ks ka kb H3).mono ?_; rintro e w3 ⟨rfl, hb⟩
        replace k1 : w3.cell? ⟨w.heap.size, 0, none⟩ = some (.int .i64 a) := cell_call k1 hb
        replace k2 : w3.cell? ⟨w.heap.size, 1, none⟩ = some (.int .i64 b) := cell_call k2 hb
        replace k3 : w3.cell? ⟨w.heap.size + 1, 0, none⟩ = some (.int .i64 c) := cell_call k3 hb
        replace k4 : w3.cell? ⟨w.heap.size + 1, 1, none⟩ = some (.int .i64 d) := cell_call k4 hb
        replace k5 : w3.cell? ⟨w.heap.size + 1 + 1, 0, none⟩ = some (.int .i64 p) := cell_call k5 hb
        replace k6 : w3.cell? ⟨w.heap.size + 1 + 1, 1, none⟩ = some (.int .i64 q) := cell_call k6 hb
        replace k7 : w3.cell? ⟨w.heap.size + 1 + 1 + 1, 0, none⟩ = some (.int .i64 r) := cell_call k7 hb
        replace k8 : w3.cell? ⟨w.heap.size + 1 + 1 + 1, 1, none⟩ = some (.int .i64 s) := cell_call k8 hb
        replace hB := belT hB hb
        clear hb
        replace zk1 : w.heap.size < w3.heap.size := World.block_lt_of_cell? w3 _ k1
        replace zk3 : w.heap.size + 1 < w3.heap.size := World.block_lt_of_cell? w3 _ k3
        replace zk5 : w.heap.size + 1 + 1 < w3.heap.size := World.block_lt_of_cell? w3 _ k5
        replace zk7 : w.heap.size + 1 + 1 + 1 < w3.heap.size := World.block_lt_of_cell? w3 _ k7
        go_wp2_with fail
        go_ret
        exact ⟨ret_bool (by rw [E.out]; simp), hB⟩
    · have hB : Below w.heap.size w w := Below.refl _ _
      clear M1 M2
      go_enter Tryz.func31, Tryz.ntmps31
      go_wp2_with fail
      refine (von_is a b c d p q false _ ka kb kc kd kp kq H1).mono ?_; rintro e w1 ⟨rfl, hb⟩
      have k1 : w1.cell? ⟨w.heap.size, 0, none⟩ = some (.int .i64 a) := cell_call (cell_alloc (cell_alloc (cell_alloc (cbx w #[.int .i64 a, .int .i64 b] 23 (w.heap.size) 0 (.int .i64 a) (by simp) rfl) _) _) _) hb
      have k2 : w1.cell? ⟨w.heap.size, 1, none⟩ = some (.int .i64 b) := cell_call (cell_alloc (cell_alloc (cell_alloc (cbx w #[.int .i64 a, .int .i64 b] 23 (w.heap.size) 1 (.int .i64 b) (by simp) rfl) _) _) _) hb
      have k3 : w1.cell? ⟨w.heap.size + 1, 0, none⟩ = some (.int .i64 c) := cell_call (cell_alloc (cell_alloc (cbx (w.alloc (.cells #[.int .i64 a, .int .i64 b] 23)) #[.int .i64 c, .int .i64 d] 23 (w.heap.size + 1) 0 (.int .i64 c) (by simp) rfl) _) _) hb
      have k4 : w1.cell? ⟨w.heap.size + 1, 1, none⟩ = some (.int .i64 d) := cell_call (cell_alloc (cell_alloc (cbx (w.alloc (.cells #[.int .i64 a, .int .i64 b] 23)) #[.int .i64 c, .int .i64 d] 23 (w.heap.size + 1) 1 (.int .i64 d) (by simp) rfl) _) _) hb
      have k5 : w1.cell? ⟨w.heap.size + 1 + 1, 0, none⟩ = some (.int .i64 p) := cell_call (cell_alloc (cbx ((w.alloc (.cells #[.int .i64 a, .int .i64 b] 23)).alloc (.cells #[.int .i64 c, .int .i64 d] 23)) #[.int .i64 p, .int .i64 q] 23 (w.heap.size + 1 + 1) 0 (.int .i64 p) (by simp) rfl) _) hb
      have k6 : w1.cell? ⟨w.heap.size + 1 + 1, 1, none⟩ = some (.int .i64 q) := cell_call (cell_alloc (cbx ((w.alloc (.cells #[.int .i64 a, .int .i64 b] 23)).alloc (.cells #[.int .i64 c, .int .i64 d] 23)) #[.int .i64 p, .int .i64 q] 23 (w.heap.size + 1 + 1) 1 (.int .i64 q) (by simp) rfl) _) hb
      have k7 : w1.cell? ⟨w.heap.size + 1 + 1 + 1, 0, none⟩ = some (.int .i64 r) := cell_call (cbx (((w.alloc (.cells #[.int .i64 a, .int .i64 b] 23)).alloc (.cells #[.int .i64 c, .int .i64 d] 23)).alloc (.cells #[.int .i64 p, .int .i64 q] 23)) #[.int .i64 r, .int .i64 s] 23 (w.heap.size + 1 + 1 + 1) 0 (.int .i64 r) (by simp) rfl) hb
      have k8 : w1.cell? ⟨w.heap.size + 1 + 1 + 1, 1, none⟩ = some (.int .i64 s) := cell_call (cbx (((w.alloc (.cells #[.int .i64 a, .int .i64 b] 23)).alloc (.cells #[.int .i64 c, .int .i64 d] 23)).alloc (.cells #[.int .i64 p, .int .i64 q] 23)) #[.int .i64 r, .int .i64 s] 23 (w.heap.size + 1 + 1 + 1) 1 (.int .i64 s) (by simp) rfl) hb
      replace hB := belT (belA (belA (belA (belA hB _) _) _) _) hb
      clear hb
      have zk1 : w.heap.size < w1.heap.size := World.block_lt_of_cell? w1 _ k1
      have zk3 : w.heap.size + 1 < w1.heap.size := World.block_lt_of_cell? w1 _ k3
      have zk5 : w.heap.size + 1 + 1 < w1.heap.size := World.block_lt_of_cell? w1 _ k5
      have zk7 : w.heap.size + 1 + 1 + 1 < w1.heap.size := World.block_lt_of_cell? w1 _ k7
      go_wp2_with fail
      refine (von_is a b c d r s true _ ka kb kc kd kr ks H2).mono ?_; rintro e w2 ⟨rfl, hb⟩
      replace k1 : w2.cell? ⟨w.heap.size, 0, none⟩ = some (.int .i64 a) := cell_call k1 hb
      replace k2 : w2.cell? ⟨w.heap.size, 1, none⟩ = some (.int .i64 b) := cell_call k2 hb
      replace k3 : w2.cell? ⟨w.heap.size + 1, 0, none⟩ = some (.int .i64 c) := cell_call k3 hb
      replace k4 : w2.cell? ⟨w.heap.size + 1, 1, none⟩ = some (.int .i64 d) := cell_call k4 hb
      replace k5 : w2.cell? ⟨w.heap.size + 1 + 1, 0, none⟩ = some (.int .i64 p) := cell_call k5 hb
      replace k6 : w2.cell? ⟨w.heap.size + 1 + 1, 1, none⟩ = some (.int .i64 q) := cell_call k6 hb
      replace k7 : w2.cell? ⟨w.heap.size + 1 + 1 + 1, 0, none⟩ = some (.int .i64 r) := cell_call k7 hb
      replace k8 : w2.cell? ⟨w.heap.size + 1 + 1 + 1, 1, none⟩ = some (.int .i64 s) := cell_call k8 hb
      replace hB := belT hB hb
      clear hb
      replace zk1 : w.heap.size < w2.heap.size := World.block_lt_of_cell? w2 _ k1
      replace zk3 : w.heap.size + 1 < w2.heap.size := World.block_lt_of_cell? w2 _ k3
      replace zk5 : w.heap.size + 1 + 1 < w2.heap.size := World.block_lt_of_cell? w2 _ k5
      replace zk7 : w.heap.size + 1 + 1 + 1 < w2.heap.size := World.block_lt_of_cell? w2 _ k7
      go_wp2_with fail
      go_ret
      exact ⟨ret_bool (by rw [E.out]; simp), hB⟩
  · have hB : Below w.heap.size w w := Below.refl _ _
    clear M1 M2
    go_enter Tryz.func31, Tryz.ntmps31
    go_wp2_with fail
    refine (von_is a b c d p q true _ ka kb kc kd kp kq H1).mono ?_; rintro e w1 ⟨rfl, hb⟩
    have k1 : w1.cell? ⟨w.heap.size, 0, none⟩ = some (.int .i64 a) := cell_call (cell_alloc (cell_alloc (cell_alloc (cbx w #[.int .i64 a, .int .i64 b] 23 (w.heap.size) 0 (.int .i64 a) (by simp) rfl) _) _) _) hb
    have k2 : w1.cell? ⟨w.heap.size, 1, none⟩ = some (.int .i64 b) := cell_call (cell_alloc (cell_alloc (cell_alloc (cbx w #[.int .i64 a, .int .i64 b] 23 (w.heap.size) 1 (.int .i64 b) (by simp) rfl) _) _) _) hb
    have k3 : w1.cell? ⟨w.heap.size + 1, 0, none⟩ = some (.int .i64 c) := cell_call (cell_alloc (cell_alloc (cbx (w.alloc (.cells #[.int .i64 a, .int .i64 b] 23)) #[.int .i64 c, .int .i64 d] 23 (w.heap.size + 1) 0 (.int .i64 c) (by simp) rfl) _) _) hb
    have k4 : w1.cell? ⟨w.heap.size + 1, 1, none⟩ = some (.int .i64 d) := cell_call (cell_alloc (cell_alloc (cbx (w.alloc (.cells #[.int .i64 a, .int .i64 b] 23)) #[.int .i64 c, .int .i64 d] 23 (w.heap.size + 1) 1 (.int .i64 d) (by simp) rfl) _) _) hb
    have k5 : w1.cell? ⟨w.heap.size + 1 + 1, 0, none⟩ = some (.int .i64 p) := cell_call (cell_alloc (cbx ((w.alloc (.cells #[.int .i64 a, .int .i64 b] 23)).alloc (.cells #[.int .i64 c, .int .i64 d] 23)) #[.int .i64 p, .int .i64 q] 23 (w.heap.size + 1 + 1) 0 (.int .i64 p) (by simp) rfl) _) hb
    have k6 : w1.cell? ⟨w.heap.size + 1 + 1, 1, none⟩ = some (.int .i64 q) := cell_call (cell_alloc (cbx ((w.alloc (.cells #[.int .i64 a, .int .i64 b] 23)).alloc (.cells #[.int .i64 c, .int .i64 d] 23)) #[.int .i64 p, .int .i64 q] 23 (w.heap.size + 1 + 1) 1 (.int .i64 q) (by simp) rfl) _) hb
    have k7 : w1.cell? ⟨w.heap.size + 1 + 1 + 1, 0, none⟩ = some (.int .i64 r) := cell_call (cbx (((w.alloc (.cells #[.int .i64 a, .int .i64 b] 23)).alloc (.cells #[.int .i64 c, .int .i64 d] 23)).alloc (.cells #[.int .i64 p, .int .i64 q] 23)) #[.int .i64 r, .int .i64 s] 23 (w.heap.size + 1 + 1 + 1) 0 (.int .i64 r) (by simp) rfl) hb
    have k8 : w1.cell? ⟨w.heap.size + 1 + 1 + 1, 1, none⟩ = some (.int .i64 s) := cell_call (cbx (((w.alloc (.cells #[.int .i64 a, .int .i64 b] 23)).alloc (.cells #[.int .i64 c, .int .i64 d] 23)).alloc (.cells #[.int .i64 p, .int .i64 q] 23)) #[.int .i64 r, .int .i64 s] 23 (w.heap.size + 1 + 1 + 1) 1 (.int .i64 s) (by simp) rfl) hb
    replace hB := belT (belA (belA (belA (belA hB _) _) _) _) hb
    clear hb
    have zk1 : w.heap.size < w1.heap.size := World.block_lt_of_cell? w1 _ k1
    have zk3 : w.heap.size + 1 < w1.heap.size := World.block_lt_of_cell? w1 _ k3
    have zk5 : w.heap.size + 1 + 1 < w1.heap.size := World.block_lt_of_cell? w1 _ k5
    have zk7 : w.heap.size + 1 + 1 + 1 < w1.heap.size := World.block_lt_of_cell? w1 _ k7
    go_wp2_with fail
    go_ret
    exact ⟨ret_bool (by rw [E.out]; simp), hB⟩

theorem vat_is (ao : Option Addr) (n cap i j : Nat) (ps : List (Int × Int)) (x y : Int) (w : World) (hn : ps.length = n) (h0 : 0 < n) (hle : n ≤ 1000000) (hi : i ≤ 1000000) (hj : Hid (i % n = j)) (hx : Hid (cx ps j = x)) (hy : Hid (cy ps j = y)) (hP : PRow w ao ps) :
    Calls Tryz.prog 30 #[.slice ao n cap, .int .i64 (i : Int)] w fun e w' => e = .returned (.agg #[.int .i64 x, .int .i64 y]) ∧ Below w.heap.size w w' := by
  have hjl : j < ps.length := by rw [hn, ← hj.out]; exact Nat.mod_lt _ h0
  obtain ⟨b, o, rfl, c1, c2⟩ := prow_at hP hjl
  rw [hx.out] at c1
  rw [hy.out] at c2
  have htm : (i : Int).tmod (n : Int) = (j : Int) := by rw [← hj.out, Int.tmod_eq_emod_of_nonneg (by omega)]; simp
  have hjn : (j : Int) < n := by omega
  have hn0 : (n : Int) ≠ 0 := by omega
  have zb : b < w.heap.size := World.block_lt_of_cell? w _ c1
  clear hP hjl hx hy hj hn
  go_enter Tryz.func30, Tryz.ntmps30
  go_wp2
  go_returns
  exact ⟨rfl, by go_grown⟩
end Go.Proofs.YtalhkcmlacppjaaGreatDoor


namespace Go.Proofs.YtalhkcmlacppjaaGreatDoor
open Go.ChangeShapes Go.WideShapes Go.ChangeAt Go.RowKit
set_option linter.unusedVariables false
set_option linter.unusedSimpArgs false

theorem vat_at (ao : Option Addr) (n cap i j : Nat) (I : Int) (ps : List (Int × Int)) (x y : Int) (w : World) (hI : I = (i : Int)) (hn : ps.length = n) (h0 : 0 < n) (hle : n ≤ 1000000) (hi : i ≤ 1000000) (hj : Hid (i % n = j)) (hx : Hid (cx ps j = x)) (hy : Hid (cy ps j = y)) (hP : PRow w ao ps) :
    Calls Tryz.prog 30 #[.slice ao n cap, .int .i64 I] w fun e w' => e = .returned (.agg #[.int .i64 x, .int .i64 y]) ∧ Below w.heap.size w w' := by
  subst hI
  exact vat_is ao n cap i j ps x y w hn h0 hle hi hj hx hy hP
theorem sum_bd {ps : List (Int × Int)} (hv : AllV ps) : ∀ k, k ≤ ps.length → -(386144720000000000 * (k : Int)) ≤ sumE (crossE ps) (List.range k) ∧ sumE (crossE ps) (List.range k) ≤ 386144720000000000 * (k : Int)
  | 0, _ => by simp [sumE]
  | k + 1, h => by
    have a := sum_bd hv k (by omega)
    have b := crossE_bd hv (i := k) (by omega)
    rw [List.range_succ, sumE_snoc]
    omega
theorem sum_next (ps : List (Int × Int)) (k : Nat) : sumE (crossE ps) (List.range (k + 1)) = sumE (crossE ps) (List.range k) + crossE ps k := by rw [List.range_succ, sumE_snoc]
theorem vprd {x y : Int} (hx : InV x) (hy : InV y) : -193072360000000000 ≤ x * y ∧ x * y ≤ 193072360000000000 := by
  have := mul_bd hx hy
  omega

set_option maxRecDepth 100000 in
set_option maxHeartbeats 4000000 in
theorem varea_is (ao : Option Addr) (n cap : Nat) (ps : List (Int × Int)) (v : Int) (w : World) (hn : ps.length = n) (hv : Hid (area2 ps = v)) (h0 : 0 < ps.length) (h12 : ps.length ≤ 12) (hP : PRow w ao ps) (ha : AllV ps) :
    Calls Tryz.prog 32 #[.slice ao n cap] w fun e w' => e = .returned (.int .i64 v) ∧ Below w.heap.size w w' := by
  subst hn
  have HV := Lib.hid ha
  have HP := Lib.hid hP
  have hpe : ¬ ps = [] := fun e => by rw [e] at h0; simp at h0
  clear ha hP
  go_enter Tryz.func32, Tryz.ntmps32
  go_wp2
  go_loopw [3, 4] (fun s i wr => ∃ k : Nat, k ≤ ps.length ∧ i = .int .i64 k ∧ s = .int .i64 (sumE (crossE ps) (List.range k)) ∧ Below w.heap.size w wr) (fun _ i _ => ps.length - (intOf i).toNat)
  case atStart => exact ⟨0, Nat.zero_le _, rfl, rfl, Below.refl _ _⟩
  case round =>
    obtain ⟨k, hk, rfl, rfl, hB⟩ := hrel
    by_cases hlt : k < ps.length
    · obtain ⟨j, hj⟩ : ∃ j, nx ps.length k = j := ⟨_, rfl⟩
      have hjl : j < ps.length := by rw [← hj]; exact nx_lt' hlt
      obtain ⟨i1, i2⟩ := HV.out k hlt
      obtain ⟨i3, i4⟩ := HV.out j hjl
      have hki : (k : Int) < ps.length := by omega
      have HN : Hid (sumE (crossE ps) (List.range (k + 1)) = sumE (crossE ps) (List.range k) + (cx ps k * cy ps j - cy ps k * cx ps j)) := Lib.hid (by rw [sum_next]; unfold crossE; rw [hj])
      have SB := sum_bd HV.out k hk
      obtain ⟨p1, p2⟩ := vprd i1 i4
      obtain ⟨p3, p4⟩ := vprd i2 i3
      obtain ⟨x1, hx1⟩ : ∃ x, cx ps k = x := ⟨_, rfl⟩
      obtain ⟨y1, hy1⟩ : ∃ x, cy ps k = x := ⟨_, rfl⟩
      obtain ⟨x2, hx2⟩ : ∃ x, cx ps j = x := ⟨_, rfl⟩
      obtain ⟨y2, hy2⟩ : ∃ x, cy ps j = x := ⟨_, rfl⟩
      obtain ⟨S, hS⟩ : ∃ x, sumE (crossE ps) (List.range k) = x := ⟨_, rfl⟩
      rw [hx1, hy1, hx2, hy2, hS] at HN
      rw [hx1, hy2] at p1 p2
      rw [hy1, hx2] at p3 p4
      rw [hS] at SB
      rw [hS]
      have HX1 := Lib.hid hx1
      have HY1 := Lib.hid hy1
      have HX2 := Lib.hid hx2
      have HY2 := Lib.hid hy2
      obtain ⟨s1, s2⟩ : -4633736640000000000 ≤ S ∧ S ≤ 4633736640000000000 := by omega
      have HK : Hid (k % ps.length = k) := Lib.hid (Nat.mod_eq_of_lt hlt)
      have HJ : Hid ((k + 1) % ps.length = j) := Lib.hid hj
      clear hx1 hy1 hx2 hy2 hS hj i1 i2 i3 i4 SB
      go_wp2_with fail
      refine (vat_at ao _ cap k k (k : Int) ps x1 y1 _ rfl rfl h0 (by omega) (by omega) HK HX1 HY1 (prow_below HP.out hB)).mono ?_; rintro e w1 ⟨rfl, hb⟩
      replace hB := belT hB hb
      clear hb
      go_wp2_with fail
      have hX := blk_new w1 (.cells #[.int .i64 x1, .int .i64 y1] 23) _ rfl
      replace hB := belA hB (.cells #[.int .i64 x1, .int .i64 y1] 23)
      refine (vat_at ao _ cap (k + 1) j ((k : Int) + 1) ps x2 y2 _ (by omega) rfl h0 (by omega) (by omega) HJ HX2 HY2 (prow_below HP.out hB)).mono ?_; rintro e w2 ⟨rfl, hb⟩
      replace hX := blk_call hX hb
      replace hB := belT hB hb
      have f0 := blk_cell hX 0 _ rfl
      have f1 := blk_cell hX 1 _ rfl
      have zX := blk_lt hX
      clear hb hX
      go_wp2_with fail
      go_roundw
      case rel => exact ⟨k + 1, by omega, by go_num, by rw [HN.out]; congr 1; omega, belA hB _⟩
      case measure => simp [intOf]; omega
    · obtain rfl : k = ps.length := by omega
      have HE : Hid (sumE (crossE ps) (List.range ps.length) = v) := Lib.hid hv.out
      generalize sumE (crossE ps) (List.range ps.length) = S at *
      go_wp2_with fail
      go_ret
      exact ⟨ret_int HE.out, hB⟩

theorem meet_small {ps : List (Int × Int)} {i k : Nat} (h : k ≤ i + 1) : meetB ps i k = false := by unfold meetB skipE; rw [decide_eq_true h]; rfl
theorem meet_skip {ps : List (Int × Int)} {i k : Nat} (h : nx ps.length k = i) : meetB ps i k = false := by unfold meetB skipE; rw [h]; simp
theorem meet_seg {ps : List (Int × Int)} {i k : Nat} (h1 : ¬ k ≤ i + 1) (h2 : nx ps.length k ≠ i) : meetB ps i k = segE ps i k := by
  unfold meetB skipE
  rw [decide_eq_false h1, show (nx ps.length k == i) = false by rw [beq_eq_false_iff_ne]; exact h2]
  rfl
theorem valid_no0 {ps : List (Int × Int)} (h : validC ps = false) : validP ps = false := by unfold validP; rw [h]; rfl
theorem valid_no1 {ps : List (Int × Int)} {i : Nat} (hi : i < ps.length) (h : oriE ps i = 0) : validP ps = false := by
  have : bendsB ps = false := by
    unfold bendsB
    rw [List.all_eq_false]
    exact ⟨i, List.mem_range.2 hi, by rw [h]; decide⟩
  unfold validP
  rw [this]
  simp
theorem valid_no2 {ps : List (Int × Int)} {i k : Nat} (hi : i < ps.length) (hk : k < ps.length) (h : meetB ps i k = true) : validP ps = false := by
  have : simpleB ps = false := by
    unfold simpleB
    rw [List.all_eq_false]
    refine ⟨i, List.mem_range.2 hi, ?_⟩
    rw [Bool.not_eq_true, List.all_eq_false]
    exact ⟨k, List.mem_range.2 hk, by rw [h]; decide⟩
  unfold validP
  rw [this]
  simp
theorem valid_area {ps : List (Int × Int)} (h1 : 3 ≤ ps.length) (h2 : ps.length ≤ 12) (h3 : AllV ps) (h4 : ∀ i, i < ps.length → oriE ps i ≠ 0 ∧ ∀ k, k < ps.length → meetB ps i k = false) : validP ps = decide (0 < area2 ps) := by
  unfold validP
  rw [(validC_iff ps).2 ⟨h1, h2, h3⟩, show bendsB ps = true from List.all_eq_true.2 fun i hi => by simpa using (h4 i (List.mem_range.1 hi)).1, show simpleB ps = true from List.all_eq_true.2 fun i hi => List.all_eq_true.2 fun k hk => by rw [(h4 i (List.mem_range.1 hi)).2 k (List.mem_range.1 hk)]; rfl]
  rfl

set_option maxRecDepth 100000 in
set_option maxHeartbeats 16000000 in
theorem right_core {w : World} (ao : Option Addr) (cap : Nat) (ps : List (Int × Int)) (t : Bool) (ht : Hid (validP ps = t)) (h3 : 3 ≤ ps.length) (h12 : ps.length ≤ 12) (hP : PRow w ao ps) :
    Calls Tryz.prog 7 #[.slice ao ps.length cap] w fun e w' => e = .returned (.bool t) ∧ Below w.heap.size w w' := by
  have HP := Lib.hid hP
  have h0 : 0 < ps.length := by omega
  have h3i : ¬ (ps.length : Int) < 3 := by omega
  have h3f : decide ((ps.length : Int) < 3) = false := decide_eq_false h3i
  have h12f : decide (12 < (ps.length : Int)) = false := decide_eq_false (by omega)
  have h12i : (ps.length : Int) ≤ 12 := by omega
  clear hP
  go_enter Tryz.func7, Tryz.ntmps7
  go_wp2
  go_loopw [4] (fun i wr => ∃ k : Nat, k ≤ ps.length ∧ i = .int .i64 k ∧ Hid (∀ j, j < k → outE ps j = false) ∧ Below w.heap.size w wr) (fun i _ => ps.length - (intOf i).toNat)
  case atStart => exact ⟨0, Nat.zero_le _, rfl, Lib.hid (fun j hj => by omega), Below.refl _ _⟩
  case round =>
    obtain ⟨k, hk, rfl, hno, hB⟩ := hrel
    by_cases hlt : k < ps.length
    · obtain ⟨b, o, rfl, c1, c2⟩ := prow_at HP.out hlt
      obtain ⟨u, hu⟩ : ∃ u, outE ps k = u := ⟨_, rfl⟩
      have HT : Hid (mayB (cx ps k) (cy ps k) = !u) := Lib.hid (by rw [← hu]; rfl)
      have HX := Lib.hid hu
      have d1 := (hB.cell (World.block_lt_of_cell? w _ c1)).trans c1
      have d2 := (hB.cell (World.block_lt_of_cell? w _ c2)).trans c2
      have hki : (k : Int) < ps.length := by omega
      clear c1 c2 hu
      cases u
      · go_wp2_with (go_at_call 28; refine (may_any _ _ true _ HT).mono ?_; rintro e w1 ⟨rfl, hb⟩)
        go_roundw
        case rel => exact ⟨k + 1, by omega, by go_num, Lib.hid (fun j hj => by
          by_cases e : j = k
          · subst e; exact HX.out
          · exact hno.out j (by omega)), belT hB hb⟩
        case measure => simp [intOf]; omega
      · have HE : Hid (t = false) := Lib.hid (by
          rw [← ht.out]
          refine valid_no0 ?_
          unfold validC
          rw [show outs ps = true from List.any_eq_true.2 ⟨k, List.mem_range.2 hlt, HX.out⟩]
          simp)
        go_wp2_with (go_at_call 28; refine (may_any _ _ false _ HT).mono ?_; rintro e w1 ⟨rfl, hb⟩)
        go_ret
        exact ⟨ret_bool HE.out.symm, belT hB hb⟩
    · have hkn : k = ps.length := by omega
      have HV : Hid (AllV ps) := Lib.hid (fun j hj => (outB_iff _ _).1 (hno.out j (by omega)))
      clear hno
      go_wp2_with fail
      go_loopw [5] (fun i wr => ∃ k : Nat, k ≤ ps.length ∧ i = .int .i64 k ∧ Hid (∀ i, i < k → oriE ps i ≠ 0 ∧ ∀ m, m < ps.length → meetB ps i m = false) ∧ Below w.heap.size w wr) (fun i _ => ps.length - (intOf i).toNat)
      case atStart => exact ⟨0, Nat.zero_le _, rfl, Lib.hid (fun j hj => by omega), hB⟩
      case round =>
        clear hB
        obtain ⟨i, hi, rfl, HF, hB⟩ := hrel
        by_cases hlt : i < ps.length
        · obtain ⟨j, hj⟩ : ∃ j, nx ps.length i = j := ⟨_, rfl⟩
          have hjl : j < ps.length := by rw [← hj]; exact nx_lt' hlt
          obtain ⟨q, hq⟩ : ∃ q, nx ps.length j = q := ⟨_, rfl⟩
          have hql : q < ps.length := by rw [← hq]; exact nx_lt' hjl
          have hii : (i : Int) < ps.length := by omega
          obtain ⟨i1, i2⟩ := HV.out i hlt
          obtain ⟨i3, i4⟩ := HV.out j hjl
          obtain ⟨i5, i6⟩ := HV.out q hql
          obtain ⟨d, hd⟩ : ∃ d, det (cx ps i) (cy ps i) (cx ps j) (cy ps j) (cx ps q) (cy ps q) = d := ⟨_, rfl⟩
          have HO : Hid (oriE ps i = 0 ↔ d = 0) := Lib.hid (by
            have := ori_zero (cx ps i) (cy ps i) (cx ps j) (cy ps j) (cx ps q) (cy ps q)
            unfold oriE
            rw [hj, hq]
            rw [hd, Bool.eq_iff_iff, beq_iff_eq, decide_eq_true_eq] at this
            exact this)
          have HI : Hid (i % ps.length = i) := Lib.hid (Nat.mod_eq_of_lt hlt)
          have HJ : Hid ((i + 1) % ps.length = j) := Lib.hid hj
          have HQ : Hid ((i + 2) % ps.length = q) := Lib.hid (by rw [← hq, ← hj]; unfold nx; rw [Nat.mod_add_mod])
          have HS : Hid (∀ k, segE ps i k = segB (cx ps i) (cy ps i) (cx ps j) (cy ps j) (cx ps k) (cy ps k) (cx ps (nx ps.length k)) (cy ps (nx ps.length k))) := Lib.hid (fun k => by unfold segE; rw [hj])
          obtain ⟨x1, hx1⟩ : ∃ x, cx ps i = x := ⟨_, rfl⟩
          obtain ⟨y1, hy1⟩ : ∃ x, cy ps i = x := ⟨_, rfl⟩
          obtain ⟨x2, hx2⟩ : ∃ x, cx ps j = x := ⟨_, rfl⟩
          obtain ⟨y2, hy2⟩ : ∃ x, cy ps j = x := ⟨_, rfl⟩
          obtain ⟨x3, hx3⟩ : ∃ x, cx ps q = x := ⟨_, rfl⟩
          obtain ⟨y3, hy3⟩ : ∃ x, cy ps q = x := ⟨_, rfl⟩
          rw [hx1, hy1, hx2, hy2, hx3, hy3] at hd
          rw [hx1, hy1, hx2, hy2] at HS
          rw [hx1] at i1
          rw [hy1] at i2
          rw [hx2] at i3
          rw [hy2] at i4
          rw [hx3] at i5
          rw [hy3] at i6
          have HD := Lib.hid hd
          have HX1 := Lib.hid hx1
          have HY1 := Lib.hid hy1
          have HX2 := Lib.hid hx2
          have HY2 := Lib.hid hy2
          have HX3 := Lib.hid hx3
          have HY3 := Lib.hid hy3
          clear hx1 hy1 hx2 hy2 hx3 hy3 hd hj hq
          go_wp2_with fail
          refine (vat_at ao _ cap i i (i : Int) ps x1 y1 _ rfl rfl h0 (by omega) (by omega) HI HX1 HY1 (prow_below HP.out hB)).mono ?_; rintro e w1 ⟨rfl, hb⟩
          replace hB := belT hB hb
          clear hb
          go_wp2_with fail
          refine (vat_at ao _ cap (i + 1) j ((i : Int) + 1) ps x2 y2 _ (by omega) rfl h0 (by omega) (by omega) HJ HX2 HY2 (prow_below HP.out hB)).mono ?_; rintro e w2 ⟨rfl, hb⟩
          replace hB := belT hB hb
          clear hb
          go_wp2_with fail
          refine (vat_at ao _ cap (i + 2) q ((i : Int) + 2) ps x3 y3 _ (by omega) rfl h0 (by omega) (by omega) HQ HX3 HY3 (prow_below HP.out hB)).mono ?_; rintro e w3 ⟨rfl, hb⟩
          replace hB := belT hB hb
          clear hb
          go_wp2_with fail
          refine (vcross_is x1 y1 x2 y2 x3 y3 d _ i1 i2 i3 i4 i5 i6 HD).mono ?_; rintro e w4 ⟨rfl, hb⟩
          replace hB := belT hB hb
          clear hb i5 i6 HD HX3 HY3 HQ
          by_cases d0 : d = 0
          · have HE : Hid (t = false) := Lib.hid (by rw [← ht.out]; exact valid_no1 hlt (HO.out.2 d0))
            subst d0
            go_wp2_with fail
            go_ret
            exact ⟨ret_bool HE.out.symm, hB⟩
          · have hd0 : (d == 0) = false := by rw [beq_eq_false_iff_ne]; exact d0
            have HO2 : Hid (oriE ps i ≠ 0) := Lib.hid (fun h => d0 (HO.out.1 h))
            clear HO
            go_wp2_with fail
            go_loopw [6] (fun kv wr => ∃ k : Nat, i + 2 ≤ k ∧ (k ≤ ps.length ∨ k = i + 2) ∧ kv = .int .i64 k ∧ Hid (∀ m, m < k → meetB ps i m = false) ∧ Below w.heap.size w wr) (fun kv _ => ps.length - (intOf kv).toNat)
            case atStart => exact ⟨i + 2, Nat.le_refl _, .inr rfl, by go_num, Lib.hid (fun m hm => meet_small (by omega)), hB⟩
            case round =>
              clear hB
              obtain ⟨k, hk1, hk2, rfl, HM, hB⟩ := hrel
              have hk12 : k ≤ 14 := by omega
              by_cases hkl : k < ps.length
              · have hkli : (k : Int) < ps.length := by omega
                by_cases hz : i = 0 ∧ k + 1 = ps.length
                · have e1 : ((i : Int) != 0) = false := by rw [bne_eq_false_iff_eq]; omega
                  have e2 : ((k : Int) != (ps.length : Int) - 1) = false := by rw [bne_eq_false_iff_eq]; omega
                  have HMK : Hid (meetB ps i k = false) := Lib.hid (meet_skip (by unfold nx; rw [hz.2, Nat.mod_self, hz.1]))
                  clear hz
                  go_wp2_with fail
                  go_roundw
                  case rel => exact ⟨k + 1, by omega, by omega, by go_num, Lib.hid (fun m hm => by
                    by_cases e : m = k
                    · subst e; exact HMK.out
                    · exact HM.out m (by omega)), hB⟩
                  case measure => simp [intOf]; omega
                · obtain ⟨l, hl⟩ : ∃ l, nx ps.length k = l := ⟨_, rfl⟩
                  have hll : l < ps.length := by rw [← hl]; exact nx_lt' hkl
                  obtain ⟨j1, j2⟩ := HV.out k hkl
                  obtain ⟨j3, j4⟩ := HV.out l hll
                  obtain ⟨s, hs⟩ : ∃ s, meetB ps i k = s := ⟨_, rfl⟩
                  have hne : nx ps.length k ≠ i := by
                    intro e
                    by_cases g : k + 1 = ps.length
                    · unfold nx at e; rw [g, Nat.mod_self] at e; exact hz ⟨e.symm, g⟩
                    · unfold nx at e; rw [Nat.mod_eq_of_lt (by omega)] at e; omega
                  have HG : Hid (segB x1 y1 x2 y2 (cx ps k) (cy ps k) (cx ps l) (cy ps l) = s) := Lib.hid (by rw [← hs, meet_seg (by omega) hne, HS.out k, hl])
                  have HMS := Lib.hid hs
                  have HK : Hid (k % ps.length = k) := Lib.hid (Nat.mod_eq_of_lt hkl)
                  have HL : Hid ((k + 1) % ps.length = l) := Lib.hid hl
                  obtain ⟨x4, hx4⟩ : ∃ x, cx ps k = x := ⟨_, rfl⟩
                  obtain ⟨y4, hy4⟩ : ∃ x, cy ps k = x := ⟨_, rfl⟩
                  obtain ⟨x5, hx5⟩ : ∃ x, cx ps l = x := ⟨_, rfl⟩
                  obtain ⟨y5, hy5⟩ : ∃ x, cy ps l = x := ⟨_, rfl⟩
                  rw [hx4, hy4, hx5, hy5] at HG
                  rw [hx4] at j1
                  rw [hy4] at j2
                  rw [hx5] at j3
                  rw [hy5] at j4
                  have HX4 := Lib.hid hx4
                  have HY4 := Lib.hid hy4
                  have HX5 := Lib.hid hx5
                  have HY5 := Lib.hid hy5
                  have hg : ((i : Int) != 0) = true ∨ (((i : Int) != 0) = false ∧ ((k : Int) != (ps.length : Int) - 1) = true) := by
                    by_cases g : i = 0
                    · right
                      refine ⟨by rw [bne_eq_false_iff_eq]; omega, ?_⟩
                      rw [bne_iff_ne]; intro e; exact hz ⟨g, by omega⟩
                    · left; rw [bne_iff_ne]; omega
                  clear hx4 hy4 hx5 hy5 hs hl hne hz HS
                  rcases hg with e1 | ⟨e1, e2⟩
                  all_goals
                    go_wp2_with fail
                    refine (vat_at ao _ cap i i (i : Int) ps x1 y1 _ rfl rfl h0 (by omega) (by omega) HI HX1 HY1 (prow_below HP.out hB)).mono ?_; rintro e w1 ⟨rfl, hb⟩
                    replace hB := belT hB hb
                    clear hb
                    go_wp2_with fail
                    refine (vat_at ao _ cap (i + 1) j ((i : Int) + 1) ps x2 y2 _ (by omega) rfl h0 (by omega) (by omega) HJ HX2 HY2 (prow_below HP.out hB)).mono ?_; rintro e w2 ⟨rfl, hb⟩
                    replace hB := belT hB hb
                    clear hb
                    go_wp2_with fail
                    refine (vat_at ao _ cap k k (k : Int) ps x4 y4 _ rfl rfl h0 (by omega) (by omega) HK HX4 HY4 (prow_below HP.out hB)).mono ?_; rintro e w3 ⟨rfl, hb⟩
                    replace hB := belT hB hb
                    clear hb
                    go_wp2_with fail
                    refine (vat_at ao _ cap (k + 1) l ((k : Int) + 1) ps x5 y5 _ (by omega) rfl h0 (by omega) (by omega) HL HX5 HY5 (prow_below HP.out hB)).mono ?_; rintro e w4 ⟨rfl, hb⟩
                    replace hB := belT hB hb
                    clear hb
                    go_wp2_with fail
                    refine (vcut_is x1 y1 x2 y2 x4 y4 x5 y5 s _ i1 i2 i3 i4 j1 j2 j3 j4 HG).mono ?_; rintro e w5 ⟨rfl, hb⟩
                    replace hB := belT hB hb
                    clear hb
                    cases s
                    · go_wp2_with fail
                      go_roundw
                      case rel => exact ⟨k + 1, by omega, by omega, by go_num, Lib.hid (fun m hm => by
                        by_cases e : m = k
                        · subst e; exact HMS.out
                        · exact HM.out m (by omega)), hB⟩
                      case measure => simp [intOf]; omega
                    · have HE : Hid (t = false) := Lib.hid (by rw [← ht.out]; exact valid_no2 hlt hkl HMS.out)
                      go_wp2_with fail
                      go_ret
                      exact ⟨ret_bool HE.out.symm, hB⟩
              · have hkli : ¬ (k : Int) < ps.length := by omega
                go_wp2_with fail
                have HFN : Hid (∀ i', i' < i + 1 → oriE ps i' ≠ 0 ∧ ∀ m, m < ps.length → meetB ps i' m = false) := Lib.hid (fun i' hi' => by
                  by_cases e : i' = i
                  · subst e; exact ⟨HO2.out, fun m hm => HM.out m (by omega)⟩
                  · exact HF.out i' (by omega))
                clear HM HF
                go_roundw
                case rel => first | exact ⟨i + 1, by omega, by go_num, HFN, hB⟩ | exact ⟨i + 1, by omega, by omega, HFN⟩
                case measure => simp [intOf]; omega
        · have hin : i = ps.length := by omega
          subst hin
          obtain ⟨v, hv⟩ : ∃ v, area2 ps = v := ⟨_, rfl⟩
          have HA := Lib.hid hv
          have HE : Hid (t = decide (0 < v)) := Lib.hid (by rw [← ht.out, ← hv]; exact valid_area h3 h12 HV.out HF.out)
          clear hv HF
          go_wp2_with fail
          refine (varea_is ao _ cap ps v _ rfl HA h0 h12 (prow_below HP.out hB) HV.out).mono ?_; rintro e w1 ⟨rfl, hb⟩
          replace hB := belT hB hb
          clear hb
          go_wp2_with fail
          go_ret
          exact ⟨ret_bool HE.out.symm, hB⟩
theorem right_is (ao : Option Addr) (n cap : Nat) (ps : List (Int × Int)) (t : Bool) (w : World) (hn : ps.length = n) (ht : Hid (validP ps = t)) (hle : ps.length ≤ 9223372036854775807) (hP : PRow w ao ps) :
    Calls Tryz.prog 7 #[.slice ao n cap] w fun e w' => e = .returned (.bool t) ∧ Below w.heap.size w w' := by
  subst hn
  by_cases h3 : ps.length < 3
  · have HE : Hid (t = false) := Lib.hid (by
      rw [← ht.out]
      refine valid_no0 ?_
      unfold validC
      rw [decide_eq_false (by omega)]; rfl)
    have h3i : (ps.length : Int) < 3 := by omega
    go_enter Tryz.func7, Tryz.ntmps7
    go_wp2
    go_ret
    exact ⟨ret_bool HE.out.symm, Below.refl _ _⟩
  · by_cases h12 : ps.length ≤ 12
    · exact right_core ao cap ps t ht (by omega) h12 hP
    · have HE : Hid (t = false) := Lib.hid (by
        rw [← ht.out]
        refine valid_no0 ?_
        unfold validC
        rw [decide_eq_false (p := ps.length ≤ 12) (by omega)]; simp)
      have h3f : decide ((ps.length : Int) < 3) = false := decide_eq_false (by omega)
      have h12i : 12 < (ps.length : Int) := by omega
      go_enter Tryz.func7, Tryz.ntmps7
      go_wp2
      go_ret
      exact ⟨ret_bool HE.out.symm, Below.refl _ _⟩

end Go.Proofs.YtalhkcmlacppjaaGreatDoor


namespace Go.Proofs.YtalhkcmlacppjaaGreatDoor
open Go.ChangeShapes Go.WideShapes Go.ChangeAt Go.RowKit
set_option linter.unusedVariables false
set_option linter.unusedSimpArgs false

theorem prow_flat {w : World} {g o : Nat} {l : List (Int × Int)} (h : PRow w (some ⟨g, o, none⟩) l) : ∀ j u, (flat l)[j]? = some u → w.cell? ((⟨g, o, none⟩ : Addr).add j) = some u := fun j u hu => by
  have hj : j < (flat l).length := by
    rcases Nat.lt_or_ge j (flat l).length with k | k
    · exact k
    · rw [List.getElem?_eq_none k] at hu; cases hu
  rw [flat_len] at hj
  have ad : (⟨g, o, none⟩ : Addr).add j = ⟨g, o + j, none⟩ := by
    unfold Addr.add
    split
    · rename_i e; subst e; rfl
    · rfl
  rw [ad]
  obtain ⟨i, hi⟩ : ∃ i, i = j / 2 := ⟨_, rfl⟩
  obtain ⟨b, o', e, c1, c2⟩ := h i (by omega)
  cases e
  have fg := flat_get l i (by omega)
  by_cases k : j = i * 2
  · subst k
    rw [fg.1] at hu
    rw [c1]; exact hu
  · obtain rfl : j = i * 2 + 1 := by omega
    rw [fg.2] at hu
    rw [show o + (i * 2 + 1) = o + i * 2 + 1 by omega, c2]; exact hu
theorem flat_one (u : List (Int × Int)) : ∀ x ∈ flat u, x.oneCell' = true := by
  intro x hx
  unfold flat at hx
  obtain ⟨p, _, hp⟩ := List.mem_flatMap.1 hx
  simp at hp
  rcases hp with rfl | rfl <;> rfl
end Go.Proofs.YtalhkcmlacppjaaGreatDoor



