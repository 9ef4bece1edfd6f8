/- Contracts of the reference ambidexterref03: Cross, sign, between, On, Cut, At, Area2. The coordinates are bounded. -/
import Derived.Test.YthmcejeeohlafaaDoorPolP
import Derived.Test.YthmcejeeohlafaaDoorPolK
import Derived.Test.YthmcejeeohlafaaDoorPolX
import Derived.Test.YthmcejeeohlafaaDoorGeoM
namespace Go.Proofs.YthmcejeeohlafaaDoor
open Go.ChangeShapes Go.WideShapes Go.ChangeAt Go.RowKit
set_option linter.unusedVariables false
set_option linter.unusedSimpArgs false

theorem vdif {x y : Int} (hx : InV x) (hy : InV y) : -878800000 ≤ x - y ∧ x - y ≤ 878800000 := by unfold InV at *; omega
theorem vprod {x y : Int} (hx : -878800000 ≤ x ∧ x ≤ 878800000) (hy : -878800000 ≤ y ∧ y ≤ 878800000) : -772289440000000000 ≤ x * y ∧ x * y ≤ 772289440000000000 := by
  have := mul_bd hx hy
  omega
theorem ori_cmp (a b c d p q : Int) : ori a b c d p q = cmpI (det a b c d p q) 0 := by
  unfold ori det
  exact cmpI_same (by omega)

set_option maxHeartbeats 1000000 in
theorem vcross_is (a b c d p q n : Int) (w : World) (ka : InV a) (kb : InV b) (kc : InV c) (kd : InV d) (kp : InV p) (kq : InV q) (h : Hid (det a b c d p q = n)) :
    Calls Tryd.prog 45 #[.agg #[.int .i64 a, .int .i64 b], .agg #[.int .i64 c, .int .i64 d], .agg #[.int .i64 p, .int .i64 q]] w fun e w' => e = .returned (.int .i64 n) ∧ Below w.heap.size w w' := by
  have d1 := vdif kc ka
  have d2 := vdif kd kb
  have d3 := vdif kp ka
  have d4 := vdif kq kb
  obtain ⟨m1, m2⟩ := vprod d1 d4
  obtain ⟨m3, m4⟩ := vprod d2 d3
  obtain ⟨d11, d12⟩ := d1
  obtain ⟨d21, d22⟩ := d2
  obtain ⟨d31, d32⟩ := d3
  obtain ⟨d41, d42⟩ := d4
  clear ka kb kc kd kp kq
  go_enter Tryd.func45, Tryd.ntmps45
  go_wp2
  go_ret
  exact ⟨ret_int (by rw [← h.out]; rfl), belA (belA (belA (Below.refl _ _) _) _) _⟩

theorem sign_is (n v : Int) (w : World) (h : Hid (cmpI n 0 = v)) :
    Calls Tryd.prog 55 #[.int .i64 n] w fun e w' => e = .returned (.int .i64 v) ∧ Below w.heap.size w w' := by
  rcases Int.lt_trichotomy n 0 with g | g | g
  · have e : Hid (v = -1) := Lib.hid (by rw [← h.out]; exact cmpI_lt g)
    have g2 : decide (0 < n) = false := decide_eq_false (by omega)
    go_enter Tryd.func55, Tryd.ntmps55
    go_wp2
    go_ret
    exact ⟨ret_int e.out.symm, Below.refl _ _⟩
  · have e : Hid (v = 0) := Lib.hid (by rw [← h.out]; exact cmpI_eq g)
    subst g
    go_enter Tryd.func55, Tryd.ntmps55
    go_wp2
    go_ret
    exact ⟨ret_int e.out.symm, Below.refl _ _⟩
  · have e : Hid (v = 1) := Lib.hid (by rw [← h.out]; exact cmpI_gt g)
    go_enter Tryd.func55, Tryd.ntmps55
    go_wp2
    go_ret
    exact ⟨ret_int e.out.symm, Below.refl _ _⟩

theorem vbetween_is (a b x : Int) (t : Bool) (w : World) (h : Hid ((decide (mnI a b ≤ x) && decide (x ≤ mxI a b)) = t)) :
    Calls Tryd.prog 58 #[.int .i64 a, .int .i64 b, .int .i64 x] w fun e w' => e = .returned (.bool t) ∧ w = w' := by
  have E : Hid (t = ((decide (a ≤ x) && decide (x ≤ b)) || (decide (b ≤ x) && decide (x ≤ a)))) := Lib.hid (by
    rw [← h.out, Bool.eq_iff_iff, Bool.and_eq_true, decide_eq_true_eq, decide_eq_true_eq, btw_iff]; unfold Btw; simp)
  clear h
  obtain ⟨t1, h1⟩ : ∃ u, decide (a ≤ x) = u := ⟨_, rfl⟩
  obtain ⟨t2, h2⟩ : ∃ u, decide (x ≤ b) = u := ⟨_, rfl⟩
  obtain ⟨t3, h3⟩ : ∃ u, decide (b ≤ x) = u := ⟨_, rfl⟩
  obtain ⟨t4, h4⟩ : ∃ u, decide (x ≤ a) = u := ⟨_, rfl⟩
  rw [h1, h2, h3, h4] at E
  cases t1 <;> cases t2 <;> cases t3 <;> cases t4
  all_goals
    go_enter Tryd.func58, Tryd.ntmps58
    go_wp2
    go_ret
    exact ⟨ret_bool (by rw [E.out]; simp [*]), rfl⟩

set_option maxHeartbeats 2000000 in
theorem von_is (a b c d p q : Int) (t : Bool) (w : World) (ka : InV a) (kb : InV b) (kc : InV c) (kd : InV d) (kp : InV p) (kq : InV q) (h : Hid (onB a b c d p q = t)) :
    Calls Tryd.prog 54 #[.agg #[.int .i64 a, .int .i64 b], .agg #[.int .i64 c, .int .i64 d], .agg #[.int .i64 p, .int .i64 q]] w fun e w' => e = .returned (.bool t) ∧ Below w.heap.size w w' := by
  obtain ⟨n, hn⟩ : ∃ n, det a b c d p q = n := ⟨_, rfl⟩
  obtain ⟨x, hx⟩ : ∃ x, (decide (mnI a c ≤ p) && decide (p ≤ mxI a c)) = x := ⟨_, rfl⟩
  obtain ⟨y, hy⟩ : ∃ y, (decide (mnI b d ≤ q) && decide (q ≤ mxI b d)) = y := ⟨_, rfl⟩
  have E : Hid (t = (decide (n = 0) && x && y)) := Lib.hid (by
    rw [← h.out]
    unfold onB
    rw [ori_zero, hn, ← hx, ← hy]
    cases decide (mnI a c ≤ p) <;> cases decide (p ≤ mxI a c) <;> cases decide (mnI b d ≤ q) <;> cases decide (q ≤ mxI b d) <;> cases decide (n = 0) <;> rfl)
  have HC := Lib.hid (fun w => vcross_is a b c d p q n w ka kb kc kd kp kq (Lib.hid hn))
  have H1 := Lib.hid (fun w => vbetween_is a c p x w (Lib.hid hx))
  have H2 := Lib.hid (fun w => vbetween_is b d q y w (Lib.hid hy))
  clear hn hx hy ka kb kc kd kp kq h
  by_cases h0 : n = 0
  · subst h0
    cases x
    · have hB : Below w.heap.size w w := Below.refl _ _
      go_enter Tryd.func54, Tryd.ntmps54
      go_wp2_with fail
      refine (HC.out _).mono ?_; rintro e w1 ⟨rfl, hb⟩
      have k1 : w1.cell? ⟨w.heap.size, 0, none⟩ = some (.int .i64 a) := cell_call (cell_alloc (cell_alloc (cbx w #[.int .i64 a, .int .i64 b] 25 (w.heap.size) 0 (.int .i64 a) (by simp) rfl) _) _) hb
      have k2 : w1.cell? ⟨w.heap.size, 1, none⟩ = some (.int .i64 b) := cell_call (cell_alloc (cell_alloc (cbx w #[.int .i64 a, .int .i64 b] 25 (w.heap.size) 1 (.int .i64 b) (by simp) rfl) _) _) hb
      have k3 : w1.cell? ⟨w.heap.size + 1, 0, none⟩ = some (.int .i64 c) := cell_call (cell_alloc (cbx (w.alloc (.cells #[.int .i64 a, .int .i64 b] 25)) #[.int .i64 c, .int .i64 d] 25 (w.heap.size + 1) 0 (.int .i64 c) (by simp) rfl) _) hb
      have k4 : w1.cell? ⟨w.heap.size + 1, 1, none⟩ = some (.int .i64 d) := cell_call (cell_alloc (cbx (w.alloc (.cells #[.int .i64 a, .int .i64 b] 25)) #[.int .i64 c, .int .i64 d] 25 (w.heap.size + 1) 1 (.int .i64 d) (by simp) rfl) _) hb
      have k5 : w1.cell? ⟨w.heap.size + 1 + 1, 0, none⟩ = some (.int .i64 p) := cell_call (cbx ((w.alloc (.cells #[.int .i64 a, .int .i64 b] 25)).alloc (.cells #[.int .i64 c, .int .i64 d] 25)) #[.int .i64 p, .int .i64 q] 25 (w.heap.size + 1 + 1) 0 (.int .i64 p) (by simp) rfl) hb
      have k6 : w1.cell? ⟨w.heap.size + 1 + 1, 1, none⟩ = some (.int .i64 q) := cell_call (cbx ((w.alloc (.cells #[.int .i64 a, .int .i64 b] 25)).alloc (.cells #[.int .i64 c, .int .i64 d] 25)) #[.int .i64 p, .int .i64 q] 25 (w.heap.size + 1 + 1) 1 (.int .i64 q) (by simp) rfl) hb
      replace hB := belT (belA (belA (belA hB _) _) _) hb
      clear hb
      have zk1 : w.heap.size < w1.heap.size := World.block_lt_of_cell? w1 _ k1
      have zk3 : w.heap.size + 1 < w1.heap.size := World.block_lt_of_cell? w1 _ k3
      have zk5 : w.heap.size + 1 + 1 < w1.heap.size := World.block_lt_of_cell? w1 _ k5
      go_wp2_with fail
      refine (H1.out _).mono ?_; rintro e w' ⟨rfl, rfl⟩
      go_wp2_with fail
      go_ret
      exact ⟨ret_bool (by rw [E.out]; simp [*]), hB⟩
    · cases y
      · have hB : Below w.heap.size w w := Below.refl _ _
        go_enter Tryd.func54, Tryd.ntmps54
        go_wp2_with fail
        refine (HC.out _).mono ?_; rintro e w1 ⟨rfl, hb⟩
        have k1 : w1.cell? ⟨w.heap.size, 0, none⟩ = some (.int .i64 a) := cell_call (cell_alloc (cell_alloc (cbx w #[.int .i64 a, .int .i64 b] 25 (w.heap.size) 0 (.int .i64 a) (by simp) rfl) _) _) hb
        have k2 : w1.cell? ⟨w.heap.size, 1, none⟩ = some (.int .i64 b) := cell_call (cell_alloc (cell_alloc (cbx w #[.int .i64 a, .int .i64 b] 25 (w.heap.size) 1 (.int .i64 b) (by simp) rfl) _) _) hb
        have k3 : w1.cell? ⟨w.heap.size + 1, 0, none⟩ = some (.int .i64 c) := cell_call (cell_alloc (cbx (w.alloc (.cells #[.int .i64 a, .int .i64 b] 25)) #[.int .i64 c, .int .i64 d] 25 (w.heap.size + 1) 0 (.int .i64 c) (by simp) rfl) _) hb
        have k4 : w1.cell? ⟨w.heap.size + 1, 1, none⟩ = some (.int .i64 d) := cell_call (cell_alloc (cbx (w.alloc (.cells #[.int .i64 a, .int .i64 b] 25)) #[.int .i64 c, .int .i64 d] 25 (w.heap.size + 1) 1 (.int .i64 d) (by simp) rfl) _) hb
        have k5 : w1.cell? ⟨w.heap.size + 1 + 1, 0, none⟩ = some (.int .i64 p) := cell_call (cbx ((w.alloc (.cells #[.int .i64 a, .int .i64 b] 25)).alloc (.cells #[.int .i64 c, .int .i64 d] 25)) #[.int .i64 p, .int .i64 q] 25 (w.heap.size + 1 + 1) 0 (.int .i64 p) (by simp) rfl) hb
        have k6 : w1.cell? ⟨w.heap.size + 1 + 1, 1, none⟩ = some (.int .i64 q) := cell_call (cbx ((w.alloc (.cells #[.int .i64 a, .int .i64 b] 25)).alloc (.cells #[.int .i64 c, .int .i64 d] 25)) #[.int .i64 p, .int .i64 q] 25 (w.heap.size + 1 + 1) 1 (.int .i64 q) (by simp) rfl) hb
        replace hB := belT (belA (belA (belA hB _) _) _) hb
        clear hb
        have zk1 : w.heap.size < w1.heap.size := World.block_lt_of_cell? w1 _ k1
        have zk3 : w.heap.size + 1 < w1.heap.size := World.block_lt_of_cell? w1 _ k3
        have zk5 : w.heap.size + 1 + 1 < w1.heap.size := World.block_lt_of_cell? w1 _ k5
        go_wp2_with fail
        refine (H1.out _).mono ?_; rintro e w' ⟨rfl, rfl⟩
        go_wp2_with fail
        refine (H2.out _).mono ?_; rintro e w' ⟨rfl, rfl⟩
        go_wp2_with fail
        go_ret
        exact ⟨ret_bool (by rw [E.out]; simp [*]), hB⟩
      · have hB : Below w.heap.size w w := Below.refl _ _
        go_enter Tryd.func54, Tryd.ntmps54
        go_wp2_with fail
        refine (HC.out _).mono ?_; rintro e w1 ⟨rfl, hb⟩
        have k1 : w1.cell? ⟨w.heap.size, 0, none⟩ = some (.int .i64 a) := cell_call (cell_alloc (cell_alloc (cbx w #[.int .i64 a, .int .i64 b] 25 (w.heap.size) 0 (.int .i64 a) (by simp) rfl) _) _) hb
        have k2 : w1.cell? ⟨w.heap.size, 1, none⟩ = some (.int .i64 b) := cell_call (cell_alloc (cell_alloc (cbx w #[.int .i64 a, .int .i64 b] 25 (w.heap.size) 1 (.int .i64 b) (by simp) rfl) _) _) hb
        have k3 : w1.cell? ⟨w.heap.size + 1, 0, none⟩ = some (.int .i64 c) := cell_call (cell_alloc (cbx (w.alloc (.cells #[.int .i64 a, .int .i64 b] 25)) #[.int .i64 c, .int .i64 d] 25 (w.heap.size + 1) 0 (.int .i64 c) (by simp) rfl) _) hb
        have k4 : w1.cell? ⟨w.heap.size + 1, 1, none⟩ = some (.int .i64 d) := cell_call (cell_alloc (cbx (w.alloc (.cells #[.int .i64 a, .int .i64 b] 25)) #[.int .i64 c, .int .i64 d] 25 (w.heap.size + 1) 1 (.int .i64 d) (by simp) rfl) _) hb
        have k5 : w1.cell? ⟨w.heap.size + 1 + 1, 0, none⟩ = some (.int .i64 p) := cell_call (cbx ((w.alloc (.cells #[.int .i64 a, .int .i64 b] 25)).alloc (.cells #[.int .i64 c, .int .i64 d] 25)) #[.int .i64 p, .int .i64 q] 25 (w.heap.size + 1 + 1) 0 (.int .i64 p) (by simp) rfl) hb
        have k6 : w1.cell? ⟨w.heap.size + 1 + 1, 1, none⟩ = some (.int .i64 q) := cell_call (cbx ((w.alloc (.cells #[.int .i64 a, .int .i64 b] 25)).alloc (.cells #[.int .i64 c, .int .i64 d] 25)) #[.int .i64 p, .int .i64 q] 25 (w.heap.size + 1 + 1) 1 (.int .i64 q) (by simp) rfl) hb
        replace hB := belT (belA (belA (belA hB _) _) _) hb
        clear hb
        have zk1 : w.heap.size < w1.heap.size := World.block_lt_of_cell? w1 _ k1
        have zk3 : w.heap.size + 1 < w1.heap.size := World.block_lt_of_cell? w1 _ k3
        have zk5 : w.heap.size + 1 + 1 < w1.heap.size := World.block_lt_of_cell? w1 _ k5
        go_wp2_with fail
        refine (H1.out _).mono ?_; rintro e w' ⟨rfl, rfl⟩
        go_wp2_with fail
        refine (H2.out _).mono ?_; rintro e w' ⟨rfl, rfl⟩
        go_wp2_with fail
        go_ret
        exact ⟨ret_bool (by rw [E.out]; simp [*]), hB⟩
  · have hB : Below w.heap.size w w := Below.refl _ _
    go_enter Tryd.func54, Tryd.ntmps54
    go_wp2_with fail
    refine (HC.out _).mono ?_; rintro e w1 ⟨rfl, hb⟩
    have k1 : w1.cell? ⟨w.heap.size, 0, none⟩ = some (.int .i64 a) := cell_call (cell_alloc (cell_alloc (cbx w #[.int .i64 a, .int .i64 b] 25 (w.heap.size) 0 (.int .i64 a) (by simp) rfl) _) _) hb
    have k2 : w1.cell? ⟨w.heap.size, 1, none⟩ = some (.int .i64 b) := cell_call (cell_alloc (cell_alloc (cbx w #[.int .i64 a, .int .i64 b] 25 (w.heap.size) 1 (.int .i64 b) (by simp) rfl) _) _) hb
    have k3 : w1.cell? ⟨w.heap.size + 1, 0, none⟩ = some (.int .i64 c) := cell_call (cell_alloc (cbx (w.alloc (.cells #[.int .i64 a, .int .i64 b] 25)) #[.int .i64 c, .int .i64 d] 25 (w.heap.size + 1) 0 (.int .i64 c) (by simp) rfl) _) hb
    have k4 : w1.cell? ⟨w.heap.size + 1, 1, none⟩ = some (.int .i64 d) := cell_call (cell_alloc (cbx (w.alloc (.cells #[.int .i64 a, .int .i64 b] 25)) #[.int .i64 c, .int .i64 d] 25 (w.heap.size + 1) 1 (.int .i64 d) (by simp) rfl) _) hb
    have k5 : w1.cell? ⟨w.heap.size + 1 + 1, 0, none⟩ = some (.int .i64 p) := cell_call (cbx ((w.alloc (.cells #[.int .i64 a, .int .i64 b] 25)).alloc (.cells #[.int .i64 c, .int .i64 d] 25)) #[.int .i64 p, .int .i64 q] 25 (w.heap.size + 1 + 1) 0 (.int .i64 p) (by simp) rfl) hb
    have k6 : w1.cell? ⟨w.heap.size + 1 + 1, 1, none⟩ = some (.int .i64 q) := cell_call (cbx ((w.alloc (.cells #[.int .i64 a, .int .i64 b] 25)).alloc (.cells #[.int .i64 c, .int .i64 d] 25)) #[.int .i64 p, .int .i64 q] 25 (w.heap.size + 1 + 1) 1 (.int .i64 q) (by simp) rfl) hb
    replace hB := belT (belA (belA (belA hB _) _) _) hb
    clear hb
    have zk1 : w.heap.size < w1.heap.size := World.block_lt_of_cell? w1 _ k1
    have zk3 : w.heap.size + 1 < w1.heap.size := World.block_lt_of_cell? w1 _ k3
    have zk5 : w.heap.size + 1 + 1 < w1.heap.size := World.block_lt_of_cell? w1 _ k5
    go_wp2_with fail
    go_ret
    exact ⟨ret_bool (by rw [E.out]; simp [*]), hB⟩

set_option maxRecDepth 100000 in
set_option maxHeartbeats 8000000 in
theorem vcut_is (a b c d p q r s : Int) (t : Bool) (w : World) (ka : InV a) (kb : InV b) (kc : InV c) (kd : InV d) (kp : InV p) (kq : InV q) (kr : InV r) (ks : InV s) (h : Hid (segB a b c d p q r s = t)) :
    Calls Tryd.prog 47 #[.agg #[.int .i64 a, .int .i64 b], .agg #[.int .i64 c, .int .i64 d], .agg #[.int .i64 p, .int .i64 q], .agg #[.int .i64 r, .int .i64 s]] w fun e w' => e = .returned (.bool t) ∧ Below w.heap.size w w' := by
  obtain ⟨e1, h1⟩ : ∃ x, onB a b c d p q = x := ⟨_, rfl⟩
  obtain ⟨e2, h2⟩ : ∃ x, onB a b c d r s = x := ⟨_, rfl⟩
  obtain ⟨e3, h3⟩ : ∃ x, onB p q r s a b = x := ⟨_, rfl⟩
  obtain ⟨e4, h4⟩ : ∃ x, onB p q r s c d = x := ⟨_, rfl⟩
  obtain ⟨n1, g1⟩ : ∃ x, det a b c d p q = x := ⟨_, rfl⟩
  obtain ⟨o1, s1⟩ : ∃ x, cmpI n1 0 = x := ⟨_, rfl⟩
  have b1 : -1 ≤ o1 ∧ o1 ≤ 1 := by rw [← s1]; exact cmpI_bd _ _
  obtain ⟨n2, g2⟩ : ∃ x, det a b c d r s = x := ⟨_, rfl⟩
  obtain ⟨o2, s2⟩ : ∃ x, cmpI n2 0 = x := ⟨_, rfl⟩
  have b2 : -1 ≤ o2 ∧ o2 ≤ 1 := by rw [← s2]; exact cmpI_bd _ _
  obtain ⟨n3, g3⟩ : ∃ x, det p q r s a b = x := ⟨_, rfl⟩
  obtain ⟨o3, s3⟩ : ∃ x, cmpI n3 0 = x := ⟨_, rfl⟩
  have b3 : -1 ≤ o3 ∧ o3 ≤ 1 := by rw [← s3]; exact cmpI_bd _ _
  obtain ⟨n4, g4⟩ : ∃ x, det p q r s c d = x := ⟨_, rfl⟩
  obtain ⟨o4, s4⟩ : ∃ x, cmpI n4 0 = x := ⟨_, rfl⟩
  have b4 : -1 ≤ o4 ∧ o4 ≤ 1 := by rw [← s4]; exact cmpI_bd _ _
  obtain ⟨m, hm⟩ : ∃ x, o1 * o2 = x := ⟨_, rfl⟩
  obtain ⟨n, hn⟩ : ∃ x, o3 * o4 = x := ⟨_, rfl⟩
  have M1 : IntKind.i64.wrap (o1 * o2) = m := by rw [← hm]; have := mul_bd b1 b2; exact IntWalk.i64_in _ (by omega)
  have M2 : IntKind.i64.wrap (o3 * o4) = n := by rw [← hn]; have := mul_bd b3 b4; exact IntWalk.i64_in _ (by omega)
  have E : Hid (t = ((e1 || e2) || (e3 || e4) || (decide (m < 0) && decide (n < 0)))) := Lib.hid (by rw [← h.out]; unfold segB oppB; rw [ori_cmp, ori_cmp, ori_cmp, ori_cmp, h1, h2, h3, h4, g1, g2, g3, g4, s1, s2, s3, s4, hm, hn])
  have H1 := Lib.hid h1
  have G1 := Lib.hid g1
  have S1 := Lib.hid s1
  have H2 := Lib.hid h2
  have G2 := Lib.hid g2
  have S2 := Lib.hid s2
  have H3 := Lib.hid h3
  have G3 := Lib.hid g3
  have S3 := Lib.hid s3
  have H4 := Lib.hid h4
  have G4 := Lib.hid g4
  have S4 := Lib.hid s4
  clear h h1 h2 h3 h4 g1 g2 g3 g4 s1 s2 s3 s4 hm hn b1 b2 b3 b4
  cases e1
  · cases e2
    · cases e3
      · cases e4
        · have hB : Below w.heap.size w w := Below.refl _ _
          go_enter Tryd.func47, Tryd.ntmps47
          go_wp2_with fail
          refine (von_is a b c d p q false _ ka kb kc kd kp kq H1).mono ?_; rintro e w1 ⟨rfl, hb⟩
          have k1 : w1.cell? ⟨w.heap.size, 0, none⟩ = some (.int .i64 a) := cell_call (cell_alloc (cell_alloc (cell_alloc (cbx w #[.int .i64 a, .int .i64 b] 25 (w.heap.size) 0 (.int .i64 a) (by simp) rfl) _) _) _) hb
          have k2 : w1.cell? ⟨w.heap.size, 1, none⟩ = some (.int .i64 b) := cell_call (cell_alloc (cell_alloc (cell_alloc (cbx w #[.int .i64 a, .int .i64 b] 25 (w.heap.size) 1 (.int .i64 b) (by simp) rfl) _) _) _) hb
          have k3 : w1.cell? ⟨w.heap.size + 1, 0, none⟩ = some (.int .i64 c) := cell_call (cell_alloc (cell_alloc (cbx (w.alloc (.cells #[.int .i64 a, .int .i64 b] 25)) #[.int .i64 c, .int .i64 d] 25 (w.heap.size + 1) 0 (.int .i64 c) (by simp) rfl) _) _) hb
          have k4 : w1.cell? ⟨w.heap.size + 1, 1, none⟩ = some (.int .i64 d) := cell_call (cell_alloc (cell_alloc (cbx (w.alloc (.cells #[.int .i64 a, .int .i64 b] 25)) #[.int .i64 c, .int .i64 d] 25 (w.heap.size + 1) 1 (.int .i64 d) (by simp) rfl) _) _) hb
          have k5 : w1.cell? ⟨w.heap.size + 1 + 1, 0, none⟩ = some (.int .i64 p) := cell_call (cell_alloc (cbx ((w.alloc (.cells #[.int .i64 a, .int .i64 b] 25)).alloc (.cells #[.int .i64 c, .int .i64 d] 25)) #[.int .i64 p, .int .i64 q] 25 (w.heap.size + 1 + 1) 0 (.int .i64 p) (by simp) rfl) _) hb
          have k6 : w1.cell? ⟨w.heap.size + 1 + 1, 1, none⟩ = some (.int .i64 q) := cell_call (cell_alloc (cbx ((w.alloc (.cells #[.int .i64 a, .int .i64 b] 25)).alloc (.cells #[.int .i64 c, .int .i64 d] 25)) #[.int .i64 p, .int .i64 q] 25 (w.heap.size + 1 + 1) 1 (.int .i64 q) (by simp) rfl) _) hb
          have k7 : w1.cell? ⟨w.heap.size + 1 + 1 + 1, 0, none⟩ = some (.int .i64 r) := cell_call (cbx (((w.alloc (.cells #[.int .i64 a, .int .i64 b] 25)).alloc (.cells #[.int .i64 c, .int .i64 d] 25)).alloc (.cells #[.int .i64 p, .int .i64 q] 25)) #[.int .i64 r, .int .i64 s] 25 (w.heap.size + 1 + 1 + 1) 0 (.int .i64 r) (by simp) rfl) hb
          have k8 : w1.cell? ⟨w.heap.size + 1 + 1 + 1, 1, none⟩ = some (.int .i64 s) := cell_call (cbx (((w.alloc (.cells #[.int .i64 a, .int .i64 b] 25)).alloc (.cells #[.int .i64 c, .int .i64 d] 25)).alloc (.cells #[.int .i64 p, .int .i64 q] 25)) #[.int .i64 r, .int .i64 s] 25 (w.heap.size + 1 + 1 + 1) 1 (.int .i64 s) (by simp) rfl) hb
          replace hB := belT (belA (belA (belA (belA hB _) _) _) _) hb
          clear hb
          have zk1 : w.heap.size < w1.heap.size := World.block_lt_of_cell? w1 _ k1
          have zk3 : w.heap.size + 1 < w1.heap.size := World.block_lt_of_cell? w1 _ k3
          have zk5 : w.heap.size + 1 + 1 < w1.heap.size := World.block_lt_of_cell? w1 _ k5
          have zk7 : w.heap.size + 1 + 1 + 1 < w1.heap.size := World.block_lt_of_cell? w1 _ k7
          go_wp2_with fail
          refine (von_is a b c d r s false _ ka kb kc kd kr ks H2).mono ?_; rintro e w2 ⟨rfl, hb⟩
          replace k1 : w2.cell? ⟨w.heap.size, 0, none⟩ = some (.int .i64 a) := cell_call k1 hb
          replace k2 : w2.cell? ⟨w.heap.size, 1, none⟩ = some (.int .i64 b) := cell_call k2 hb
          replace k3 : w2.cell? ⟨w.heap.size + 1, 0, none⟩ = some (.int .i64 c) := cell_call k3 hb
          replace k4 : w2.cell? ⟨w.heap.size + 1, 1, none⟩ = some (.int .i64 d) := cell_call k4 hb
          replace k5 : w2.cell? ⟨w.heap.size + 1 + 1, 0, none⟩ = some (.int .i64 p) := cell_call k5 hb
          replace k6 : w2.cell? ⟨w.heap.size + 1 + 1, 1, none⟩ = some (.int .i64 q) := cell_call k6 hb
          replace k7 : w2.cell? ⟨w.heap.size + 1 + 1 + 1, 0, none⟩ = some (.int .i64 r) := cell_call k7 hb
          replace k8 : w2.cell? ⟨w.heap.size + 1 + 1 + 1, 1, none⟩ = some (.int .i64 s) := cell_call k8 hb
          replace hB := belT hB hb
          clear hb
          replace zk1 : w.heap.size < w2.heap.size := World.block_lt_of_cell? w2 _ k1
          replace zk3 : w.heap.size + 1 < w2.heap.size := World.block_lt_of_cell? w2 _ k3
          replace zk5 : w.heap.size + 1 + 1 < w2.heap.size := World.block_lt_of_cell? w2 _ k5
          replace zk7 : w.heap.size + 1 + 1 + 1 < w2.heap.size := World.block_lt_of_cell? w2 _ k7
          go_wp2_with fail
          refine (von_is p q r s a b false _ kp kq kr ks ka kb H3).mono ?_; rintro e w3 ⟨rfl, hb⟩
          replace k1 : w3.cell? ⟨w.heap.size, 0, none⟩ = some (.int .i64 a) := cell_call k1 hb
          replace k2 : w3.cell? ⟨w.heap.size, 1, none⟩ = some (.int .i64 b) := cell_call k2 hb
          replace k3 : w3.cell? ⟨w.heap.size + 1, 0, none⟩ = some (.int .i64 c) := cell_call k3 hb
          replace k4 : w3.cell? ⟨w.heap.size + 1, 1, none⟩ = some (.int .i64 d) := cell_call k4 hb
          replace k5 : w3.cell? ⟨w.heap.size + 1 + 1, 0, none⟩ = some (.int .i64 p) := cell_call k5 hb
          replace k6 : w3.cell? ⟨w.heap.size + 1 + 1, 1, none⟩ = some (.int .i64 q) := cell_call k6 hb
          replace k7 : w3.cell? ⟨w.heap.size + 1 + 1 + 1, 0, none⟩ = some (.int .i64 r) := cell_call k7 hb
          replace k8 : w3.cell? ⟨w.heap.size + 1 + 1 + 1, 1, none⟩ = some (.int .i64 s) := cell_call k8 hb
          replace hB := belT hB hb
          clear hb
          replace zk1 : w.heap.size < w3.heap.size := World.block_lt_of_cell? w3 _ k1
          replace zk3 : w.heap.size + 1 < w3.heap.size := World.block_lt_of_cell? w3 _ k3
          replace zk5 : w.heap.size + 1 + 1 < w3.heap.size := World.block_lt_of_cell? w3 _ k5
          replace zk7 : w.heap.size + 1 + 1 + 1 < w3.heap.size := World.block_lt_of_cell? w3 _ k7
          go_wp2_with fail
          refine (von_is p q r s c d false _ kp kq kr ks kc kd H4).mono ?_; rintro e w4 ⟨rfl, hb⟩
          replace k1 : w4.cell? ⟨w.heap.size, 0, none⟩ = some (.int .i64 a) := cell_call k1 hb
          replace k2 : w4.cell? ⟨w.heap.size, 1, none⟩ = some (.int .i64 b) := cell_call k2 hb
          replace k3 : w4.cell? ⟨w.heap.size + 1, 0, none⟩ = some (.int .i64 c) := cell_call k3 hb
          replace k4 : w4.cell? ⟨w.heap.size + 1, 1, none⟩ = some (.int .i64 d) := cell_call k4 hb
          replace k5 : w4.cell? ⟨w.heap.size + 1 + 1, 0, none⟩ = some (.int .i64 p) := cell_call k5 hb
          replace k6 : w4.cell? ⟨w.heap.size + 1 + 1, 1, none⟩ = some (.int .i64 q) := cell_call k6 hb
          replace k7 : w4.cell? ⟨w.heap.size + 1 + 1 + 1, 0, none⟩ = some (.int .i64 r) := cell_call k7 hb
          replace k8 : w4.cell? ⟨w.heap.size + 1 + 1 + 1, 1, none⟩ = some (.int .i64 s) := cell_call k8 hb
          replace hB := belT hB hb
          clear hb
          replace zk1 : w.heap.size < w4.heap.size := World.block_lt_of_cell? w4 _ k1
          replace zk3 : w.heap.size + 1 < w4.heap.size := World.block_lt_of_cell? w4 _ k3
          replace zk5 : w.heap.size + 1 + 1 < w4.heap.size := World.block_lt_of_cell? w4 _ k5
          replace zk7 : w.heap.size + 1 + 1 + 1 < w4.heap.size := World.block_lt_of_cell? w4 _ k7
          go_upto_region 3 with fail
          obtain ⟨sp, hsp⟩ : ∃ sp : Told, sp = [none, none, none, none, none, none, none, none, none, some (.inl (.int .i64 m)), none, none, none, none, none, none, none, none, none, none, none, none, none, none, none, none, none, none, none, none, none, none, none, some (.inl (.agg #[.int .i64 a, .int .i64 b])), some (.inl (.agg #[.int .i64 c, .int .i64 d])), some (.inl (.agg #[.int .i64 p, .int .i64 q])), some (.inl (.int .i64 n1)), some (.inl (.int .i64 o1)), some (.inl (.agg #[.int .i64 a, .int .i64 b])), some (.inl (.agg #[.int .i64 c, .int .i64 d])), some (.inl (.agg #[.int .i64 r, .int .i64 s])), some (.inl (.int .i64 n2)), some (.inl (.int .i64 o2)), some (.inl (.int .i64 m))] := ⟨_, rfl⟩
          have s9 : sp.getD 9 none = some (.inl (.int .i64 m)) := by rw [hsp]; rfl
          have s33 : sp.getD 33 none = some (.inl (.agg #[.int .i64 a, .int .i64 b])) := by rw [hsp]; rfl
          have s34 : sp.getD 34 none = some (.inl (.agg #[.int .i64 c, .int .i64 d])) := by rw [hsp]; rfl
          have s35 : sp.getD 35 none = some (.inl (.agg #[.int .i64 p, .int .i64 q])) := by rw [hsp]; rfl
          have s36 : sp.getD 36 none = some (.inl (.int .i64 n1)) := by rw [hsp]; rfl
          have s37 : sp.getD 37 none = some (.inl (.int .i64 o1)) := by rw [hsp]; rfl
          have s38 : sp.getD 38 none = some (.inl (.agg #[.int .i64 a, .int .i64 b])) := by rw [hsp]; rfl
          have s39 : sp.getD 39 none = some (.inl (.agg #[.int .i64 c, .int .i64 d])) := by rw [hsp]; rfl
          have s40 : sp.getD 40 none = some (.inl (.agg #[.int .i64 r, .int .i64 s])) := by rw [hsp]; rfl
          have s41 : sp.getD 41 none = some (.inl (.int .i64 n2)) := by rw [hsp]; rfl
          have s42 : sp.getD 42 none = some (.inl (.int .i64 o2)) := by rw [hsp]; rfl
          have s43 : sp.getD 43 none = some (.inl (.int .i64 m)) := by rw [hsp]; rfl
          clear hsp
          refine region_obs sp (by kernel_rfl) (by kernel_rfl) ?_ ?_
          · rw [List.toList_toArray]
            refine obs_cons ?_ ?_
            · intro T wx K hB hF hD hK
              have g4 : T[4]? = some (.pointer (some ⟨w.heap.size, 0, none⟩)) := hF 4 (free_of (by kernel_rfl))
              refine ob_yes (wanted_none rfl) ?_
              clear hF hD
              have c0 := cell_call k1 hB
              have c1 := cell_call k2 hB
              go_simp
              exact hK _ _ (Below.refl _ _) (rt_eq s33)
            refine obs_cons ?_ ?_
            · intro T wx K hB hF hD hK
              have g5 : T[5]? = some (.pointer (some ⟨w.heap.size + 1, 0, none⟩)) := hF 5 (free_of (by kernel_rfl))
              refine ob_yes (wanted_none rfl) ?_
              clear hF hD
              have c0 := cell_call k3 hB
              have c1 := cell_call k4 hB
              go_simp
              exact hK _ _ (Below.refl _ _) (rt_eq s34)
            refine obs_cons ?_ ?_
            · intro T wx K hB hF hD hK
              have g6 : T[6]? = some (.pointer (some ⟨w.heap.size + 1 + 1, 0, none⟩)) := hF 6 (free_of (by kernel_rfl))
              refine ob_yes (wanted_none rfl) ?_
              clear hF hD
              have c0 := cell_call k5 hB
              have c1 := cell_call k6 hB
              go_simp
              exact hK _ _ (Below.refl _ _) (rt_eq s35)
            refine obs_cons ?_ ?_
            · intro T wx K hB hF hD hK
              have g33 := get_eq (hD 0 33 (by simp [Region.binds]) (by kernel_rfl)) s33
              have g34 := get_eq (hD 1 34 (by simp [Region.binds]) (by kernel_rfl)) s34
              have g35 := get_eq (hD 2 35 (by simp [Region.binds]) (by kernel_rfl)) s35
              refine ob_yes (wanted_none rfl) ?_
              clear hF hD
              go_simp
              refine (vcross_is a b c d p q n1 _ ka kb kc kd kp kq G1).mono ?_; rintro e w9 ⟨rfl, hb⟩
              exact hK _ _ hb (rt_eq s36)
            refine obs_cons ?_ ?_
            · intro T wx K hB hF hD hK
              have g36 := get_eq (hD 3 36 (by simp [Region.binds]) (by kernel_rfl)) s36
              refine ob_yes (wanted_none rfl) ?_
              clear hF hD
              go_simp
              refine (sign_is n1 o1 _ S1).mono ?_; rintro e w9 ⟨rfl, hb⟩
              exact hK _ _ hb (rt_eq s37)
            refine obs_cons ?_ ?_
            · intro T wx K hB hF hD hK
              have g4 : T[4]? = some (.pointer (some ⟨w.heap.size, 0, none⟩)) := hF 4 (free_of (by kernel_rfl))
              refine ob_yes (wanted_none rfl) ?_
              clear hF hD
              have c0 := cell_call k1 hB
              have c1 := cell_call k2 hB
              go_simp
              exact hK _ _ (Below.refl _ _) (rt_eq s38)
            refine obs_cons ?_ ?_
            · intro T wx K hB hF hD hK
              have g5 : T[5]? = some (.pointer (some ⟨w.heap.size + 1, 0, none⟩)) := hF 5 (free_of (by kernel_rfl))
              refine ob_yes (wanted_none rfl) ?_
              clear hF hD
              have c0 := cell_call k3 hB
              have c1 := cell_call k4 hB
              go_simp
              exact hK _ _ (Below.refl _ _) (rt_eq s39)
            refine obs_cons ?_ ?_
            · intro T wx K hB hF hD hK
              have g7 : T[7]? = some (.pointer (some ⟨w.heap.size + 1 + 1 + 1, 0, none⟩)) := hF 7 (free_of (by kernel_rfl))
              refine ob_yes (wanted_none rfl) ?_
              clear hF hD
              have c0 := cell_call k7 hB
              have c1 := cell_call k8 hB
              go_simp
              exact hK _ _ (Below.refl _ _) (rt_eq s40)
            refine obs_cons ?_ ?_
            · intro T wx K hB hF hD hK
              have g38 := get_eq (hD 5 38 (by simp [Region.binds]) (by kernel_rfl)) s38
              have g39 := get_eq (hD 6 39 (by simp [Region.binds]) (by kernel_rfl)) s39
              have g40 := get_eq (hD 7 40 (by simp [Region.binds]) (by kernel_rfl)) s40
              refine ob_yes (wanted_none rfl) ?_
              clear hF hD
              go_simp
              refine (vcross_is a b c d r s n2 _ ka kb kc kd kr ks G2).mono ?_; rintro e w9 ⟨rfl, hb⟩
              exact hK _ _ hb (rt_eq s41)
            refine obs_cons ?_ ?_
            · intro T wx K hB hF hD hK
              have g41 := get_eq (hD 8 41 (by simp [Region.binds]) (by kernel_rfl)) s41
              refine ob_yes (wanted_none rfl) ?_
              clear hF hD
              go_simp
              refine (sign_is n2 o2 _ S2).mono ?_; rintro e w9 ⟨rfl, hb⟩
              exact hK _ _ hb (rt_eq s42)
            refine obs_cons ?_ ?_
            · intro T wx K hB hF hD hK
              have g37 := get_eq (hD 4 37 (by simp [Region.binds]) (by kernel_rfl)) s37
              have g42 := get_eq (hD 9 42 (by simp [Region.binds]) (by kernel_rfl)) s42
              refine ob_yes (wanted_none rfl) ?_
              clear hF hD
              go_simp
              exact hK _ _ (Below.refl _ _) (rt_eq s43)
            refine obs_cons ?_ ?_
            · intro T wx K hB hF hD hK
              have g43 := get_eq (hD 10 43 (by simp [Region.binds]) (by kernel_rfl)) s43
              refine ob_yes (wanted_none rfl) ?_
              clear hF hD
              go_simp
              exact hK _ _ (Below.refl _ _) (rt_eq s9)
            exact obs_nil
          · intro T v5 hb hF hs hD
            have g33 := get_eq (hD 0 33 (by kernel_rfl)) s33
            have g34 := get_eq (hD 1 34 (by kernel_rfl)) s34
            have g35 := get_eq (hD 2 35 (by kernel_rfl)) s35
            have g36 := get_eq (hD 3 36 (by kernel_rfl)) s36
            have g37 := get_eq (hD 4 37 (by kernel_rfl)) s37
            have g38 := get_eq (hD 5 38 (by kernel_rfl)) s38
            have g39 := get_eq (hD 6 39 (by kernel_rfl)) s39
            have g40 := get_eq (hD 7 40 (by kernel_rfl)) s40
            have g41 := get_eq (hD 8 41 (by kernel_rfl)) s41
            have g42 := get_eq (hD 9 42 (by kernel_rfl)) s42
            have g43 := get_eq (hD 10 43 (by kernel_rfl)) s43
            have g9 := get_eq (hD 11 9 (by kernel_rfl)) s9
            have hT := concF [(33, .agg #[.int .i64 a, .int .i64 b]), (34, .agg #[.int .i64 c, .int .i64 d]), (35, .agg #[.int .i64 p, .int .i64 q]), (36, .int .i64 n1), (37, .int .i64 o1), (38, .agg #[.int .i64 a, .int .i64 b]), (39, .agg #[.int .i64 c, .int .i64 d]), (40, .agg #[.int .i64 r, .int .i64 s]), (41, .int .i64 n2), (42, .int .i64 o2), (43, .int .i64 m), (9, .int .i64 m)] hs hF (by simp only [List.forall_mem_cons]; exact ⟨g33, g34, g35, g36, g37, g38, g39, g40, g41, g42, g43, g9, fun p hp => absurd hp List.not_mem_nil⟩) (by kernel_rfl)
            simp only [List.foldl, List.setIfInBounds_toArray, List.set_cons_succ, List.set_cons_zero] at hT
            subst hT
            clear hF hD hs g33 g34 g35 g36 g37 g38 g39 g40 g41 g42 g43 g9 s33 s34 s35 s36 s37 s38 s39 s40 s41 s42 s43 s9
            replace k1 : v5.cell? ⟨w.heap.size, 0, none⟩ = some (.int .i64 a) := cell_call k1 hb
            replace k2 : v5.cell? ⟨w.heap.size, 1, none⟩ = some (.int .i64 b) := cell_call k2 hb
            replace k3 : v5.cell? ⟨w.heap.size + 1, 0, none⟩ = some (.int .i64 c) := cell_call k3 hb
            replace k4 : v5.cell? ⟨w.heap.size + 1, 1, none⟩ = some (.int .i64 d) := cell_call k4 hb
            replace k5 : v5.cell? ⟨w.heap.size + 1 + 1, 0, none⟩ = some (.int .i64 p) := cell_call k5 hb
            replace k6 : v5.cell? ⟨w.heap.size + 1 + 1, 1, none⟩ = some (.int .i64 q) := cell_call k6 hb
            replace k7 : v5.cell? ⟨w.heap.size + 1 + 1 + 1, 0, none⟩ = some (.int .i64 r) := cell_call k7 hb
            replace k8 : v5.cell? ⟨w.heap.size + 1 + 1 + 1, 1, none⟩ = some (.int .i64 s) := cell_call k8 hb
            replace hB := belT hB hb
            clear hb
            clear zk1
            clear zk3
            clear zk5
            clear zk7
            have zk1 : w.heap.size < v5.heap.size := World.block_lt_of_cell? v5 _ k1
            have zk3 : w.heap.size + 1 < v5.heap.size := World.block_lt_of_cell? v5 _ k3
            have zk5 : w.heap.size + 1 + 1 < v5.heap.size := World.block_lt_of_cell? v5 _ k5
            have zk7 : w.heap.size + 1 + 1 + 1 < v5.heap.size := World.block_lt_of_cell? v5 _ k7
            go_upto_region 4 with fail
            obtain ⟨sp, hsp⟩ : ∃ sp : Told, sp = [none, none, none, none, none, none, none, none, none, none, some (.inl (.int .i64 n)), none, none, none, none, none, none, none, none, none, none, none, none, none, none, none, none, none, none, none, none, none, none, none, none, none, none, none, none, none, none, none, none, none, some (.inl (.agg #[.int .i64 p, .int .i64 q])), some (.inl (.agg #[.int .i64 r, .int .i64 s])), some (.inl (.agg #[.int .i64 a, .int .i64 b])), some (.inl (.int .i64 n3)), some (.inl (.int .i64 o3)), some (.inl (.agg #[.int .i64 p, .int .i64 q])), some (.inl (.agg #[.int .i64 r, .int .i64 s])), some (.inl (.agg #[.int .i64 c, .int .i64 d])), some (.inl (.int .i64 n4)), some (.inl (.int .i64 o4)), some (.inl (.int .i64 n))] := ⟨_, rfl⟩
            have s10 : sp.getD 10 none = some (.inl (.int .i64 n)) := by rw [hsp]; rfl
            have s44 : sp.getD 44 none = some (.inl (.agg #[.int .i64 p, .int .i64 q])) := by rw [hsp]; rfl
            have s45 : sp.getD 45 none = some (.inl (.agg #[.int .i64 r, .int .i64 s])) := by rw [hsp]; rfl
            have s46 : sp.getD 46 none = some (.inl (.agg #[.int .i64 a, .int .i64 b])) := by rw [hsp]; rfl
            have s47 : sp.getD 47 none = some (.inl (.int .i64 n3)) := by rw [hsp]; rfl
            have s48 : sp.getD 48 none = some (.inl (.int .i64 o3)) := by rw [hsp]; rfl
            have s49 : sp.getD 49 none = some (.inl (.agg #[.int .i64 p, .int .i64 q])) := by rw [hsp]; rfl
            have s50 : sp.getD 50 none = some (.inl (.agg #[.int .i64 r, .int .i64 s])) := by rw [hsp]; rfl
            have s51 : sp.getD 51 none = some (.inl (.agg #[.int .i64 c, .int .i64 d])) := by rw [hsp]; rfl
            have s52 : sp.getD 52 none = some (.inl (.int .i64 n4)) := by rw [hsp]; rfl
            have s53 : sp.getD 53 none = some (.inl (.int .i64 o4)) := by rw [hsp]; rfl
            have s54 : sp.getD 54 none = some (.inl (.int .i64 n)) := by rw [hsp]; rfl
            clear hsp
            refine region_obs sp (by kernel_rfl) (by kernel_rfl) ?_ ?_
            · rw [List.toList_toArray]
              refine obs_cons ?_ ?_
              · intro T wx K hB hF hD hK
                have g6 : T[6]? = some (.pointer (some ⟨w.heap.size + 1 + 1, 0, none⟩)) := hF 6 (free_of (by kernel_rfl))
                refine ob_yes (wanted_none rfl) ?_
                clear hF hD
                have c0 := cell_call k5 hB
                have c1 := cell_call k6 hB
                go_simp
                exact hK _ _ (Below.refl _ _) (rt_eq s44)
              refine obs_cons ?_ ?_
              · intro T wx K hB hF hD hK
                have g7 : T[7]? = some (.pointer (some ⟨w.heap.size + 1 + 1 + 1, 0, none⟩)) := hF 7 (free_of (by kernel_rfl))
                refine ob_yes (wanted_none rfl) ?_
                clear hF hD
                have c0 := cell_call k7 hB
                have c1 := cell_call k8 hB
                go_simp
                exact hK _ _ (Below.refl _ _) (rt_eq s45)
              refine obs_cons ?_ ?_
              · intro T wx K hB hF hD hK
                have g4 : T[4]? = some (.pointer (some ⟨w.heap.size, 0, none⟩)) := hF 4 (free_of (by kernel_rfl))
                refine ob_yes (wanted_none rfl) ?_
                clear hF hD
                have c0 := cell_call k1 hB
                have c1 := cell_call k2 hB
                go_simp
                exact hK _ _ (Below.refl _ _) (rt_eq s46)
              refine obs_cons ?_ ?_
              · intro T wx K hB hF hD hK
                have g44 := get_eq (hD 0 44 (by simp [Region.binds]) (by kernel_rfl)) s44
                have g45 := get_eq (hD 1 45 (by simp [Region.binds]) (by kernel_rfl)) s45
                have g46 := get_eq (hD 2 46 (by simp [Region.binds]) (by kernel_rfl)) s46
                refine ob_yes (wanted_none rfl) ?_
                clear hF hD
                go_simp
                refine (vcross_is p q r s a b n3 _ kp kq kr ks ka kb G3).mono ?_; rintro e w9 ⟨rfl, hb⟩
                exact hK _ _ hb (rt_eq s47)
              refine obs_cons ?_ ?_
              · intro T wx K hB hF hD hK
                have g47 := get_eq (hD 3 47 (by simp [Region.binds]) (by kernel_rfl)) s47
                refine ob_yes (wanted_none rfl) ?_
                clear hF hD
                go_simp
                refine (sign_is n3 o3 _ S3).mono ?_; rintro e w9 ⟨rfl, hb⟩
                exact hK _ _ hb (rt_eq s48)
              refine obs_cons ?_ ?_
              · intro T wx K hB hF hD hK
                have g6 : T[6]? = some (.pointer (some ⟨w.heap.size + 1 + 1, 0, none⟩)) := hF 6 (free_of (by kernel_rfl))
                refine ob_yes (wanted_none rfl) ?_
                clear hF hD
                have c0 := cell_call k5 hB
                have c1 := cell_call k6 hB
                go_simp
                exact hK _ _ (Below.refl _ _) (rt_eq s49)
              refine obs_cons ?_ ?_
              · intro T wx K hB hF hD hK
                have g7 : T[7]? = some (.pointer (some ⟨w.heap.size + 1 + 1 + 1, 0, none⟩)) := hF 7 (free_of (by kernel_rfl))
                refine ob_yes (wanted_none rfl) ?_
                clear hF hD
                have c0 := cell_call k7 hB
                have c1 := cell_call k8 hB
                go_simp
                exact hK _ _ (Below.refl _ _) (rt_eq s50)
              refine obs_cons ?_ ?_
              · intro T wx K hB hF hD hK
                have g5 : T[5]? = some (.pointer (some ⟨w.heap.size + 1, 0, none⟩)) := hF 5 (free_of (by kernel_rfl))
                refine ob_yes (wanted_none rfl) ?_
                clear hF hD
                have c0 := cell_call k3 hB
                have c1 := cell_call k4 hB
                go_simp
                exact hK _ _ (Below.refl _ _) (rt_eq s51)
              refine obs_cons ?_ ?_
              · intro T wx K hB hF hD hK
                have g49 := get_eq (hD 5 49 (by simp [Region.binds]) (by kernel_rfl)) s49
                have g50 := get_eq (hD 6 50 (by simp [Region.binds]) (by kernel_rfl)) s50
                have g51 := get_eq (hD 7 51 (by simp [Region.binds]) (by kernel_rfl)) s51
                refine ob_yes (wanted_none rfl) ?_
                clear hF hD
                go_simp
                refine (vcross_is p q r s c d n4 _ kp kq kr ks kc kd G4).mono ?_; rintro e w9 ⟨rfl, hb⟩
                exact hK _ _ hb (rt_eq s52)
              refine obs_cons ?_ ?_
              · intro T wx K hB hF hD hK
                have g52 := get_eq (hD 8 52 (by simp [Region.binds]) (by kernel_rfl)) s52
                refine ob_yes (wanted_none rfl) ?_
                clear hF hD
                go_simp
                refine (sign_is n4 o4 _ S4).mono ?_; rintro e w9 ⟨rfl, hb⟩
                exact hK _ _ hb (rt_eq s53)
              refine obs_cons ?_ ?_
              · intro T wx K hB hF hD hK
                have g48 := get_eq (hD 4 48 (by simp [Region.binds]) (by kernel_rfl)) s48
                have g53 := get_eq (hD 9 53 (by simp [Region.binds]) (by kernel_rfl)) s53
                refine ob_yes (wanted_none rfl) ?_
                clear hF hD
                go_simp
                exact hK _ _ (Below.refl _ _) (rt_eq s54)
              refine obs_cons ?_ ?_
              · intro T wx K hB hF hD hK
                have g54 := get_eq (hD 10 54 (by simp [Region.binds]) (by kernel_rfl)) s54
                refine ob_yes (wanted_none rfl) ?_
                clear hF hD
                go_simp
                exact hK _ _ (Below.refl _ _) (rt_eq s10)
              exact obs_nil
            · intro T v6 hb hF hs hD
              have g44 := get_eq (hD 0 44 (by kernel_rfl)) s44
              have g45 := get_eq (hD 1 45 (by kernel_rfl)) s45
              have g46 := get_eq (hD 2 46 (by kernel_rfl)) s46
              have g47 := get_eq (hD 3 47 (by kernel_rfl)) s47
              have g48 := get_eq (hD 4 48 (by kernel_rfl)) s48
              have g49 := get_eq (hD 5 49 (by kernel_rfl)) s49
              have g50 := get_eq (hD 6 50 (by kernel_rfl)) s50
              have g51 := get_eq (hD 7 51 (by kernel_rfl)) s51
              have g52 := get_eq (hD 8 52 (by kernel_rfl)) s52
              have g53 := get_eq (hD 9 53 (by kernel_rfl)) s53
              have g54 := get_eq (hD 10 54 (by kernel_rfl)) s54
              have g10 := get_eq (hD 11 10 (by kernel_rfl)) s10
              have hT := concF [(44, .agg #[.int .i64 p, .int .i64 q]), (45, .agg #[.int .i64 r, .int .i64 s]), (46, .agg #[.int .i64 a, .int .i64 b]), (47, .int .i64 n3), (48, .int .i64 o3), (49, .agg #[.int .i64 p, .int .i64 q]), (50, .agg #[.int .i64 r, .int .i64 s]), (51, .agg #[.int .i64 c, .int .i64 d]), (52, .int .i64 n4), (53, .int .i64 o4), (54, .int .i64 n), (10, .int .i64 n)] hs hF (by simp only [List.forall_mem_cons]; exact ⟨g44, g45, g46, g47, g48, g49, g50, g51, g52, g53, g54, g10, fun p hp => absurd hp List.not_mem_nil⟩) (by kernel_rfl)
              simp only [List.foldl, List.setIfInBounds_toArray, List.set_cons_succ, List.set_cons_zero] at hT
              subst hT
              clear hF hD hs g44 g45 g46 g47 g48 g49 g50 g51 g52 g53 g54 g10 s44 s45 s46 s47 s48 s49 s50 s51 s52 s53 s54 s10
              replace k1 : v6.cell? ⟨w.heap.size, 0, none⟩ = some (.int .i64 a) := cell_call k1 hb
              replace k2 : v6.cell? ⟨w.heap.size, 1, none⟩ = some (.int .i64 b) := cell_call k2 hb
              replace k3 : v6.cell? ⟨w.heap.size + 1, 0, none⟩ = some (.int .i64 c) := cell_call k3 hb
              replace k4 : v6.cell? ⟨w.heap.size + 1, 1, none⟩ = some (.int .i64 d) := cell_call k4 hb
              replace k5 : v6.cell? ⟨w.heap.size + 1 + 1, 0, none⟩ = some (.int .i64 p) := cell_call k5 hb
              replace k6 : v6.cell? ⟨w.heap.size + 1 + 1, 1, none⟩ = some (.int .i64 q) := cell_call k6 hb
              replace k7 : v6.cell? ⟨w.heap.size + 1 + 1 + 1, 0, none⟩ = some (.int .i64 r) := cell_call k7 hb
              replace k8 : v6.cell? ⟨w.heap.size + 1 + 1 + 1, 1, none⟩ = some (.int .i64 s) := cell_call k8 hb
              replace hB := belT hB hb
              clear hb
              clear zk1
              clear zk3
              clear zk5
              clear zk7
              have zk1 : w.heap.size < v6.heap.size := World.block_lt_of_cell? v6 _ k1
              have zk3 : w.heap.size + 1 < v6.heap.size := World.block_lt_of_cell? v6 _ k3
              have zk5 : w.heap.size + 1 + 1 < v6.heap.size := World.block_lt_of_cell? v6 _ k5
              have zk7 : w.heap.size + 1 + 1 + 1 < v6.heap.size := World.block_lt_of_cell? v6 _ k7
              by_cases x1 : m < 0
              · by_cases x2 : n < 0
                · go_wp2_with fail
                  go_ret
                  exact ⟨ret_bool (by rw [E.out]; simp [*]), hB⟩
                · have dn : decide (n < 0) = false := by simpa using x2
                  go_wp2_with fail
                  go_ret
                  exact ⟨ret_bool (by rw [E.out]; simp [*]), hB⟩
              · have dm : decide (m < 0) = false := by simpa using x1
                go_wp2_with fail
                go_ret
                exact ⟨ret_bool (by rw [E.out]; simp [*]), hB⟩
        · have hB : Below w.heap.size w w := Below.refl _ _
          clear M1 M2
          go_enter Tryd.func47, Tryd.ntmps47
          go_wp2_with fail
          refine (von_is a b c d p q false _ ka kb kc kd kp kq H1).mono ?_; rintro e w1 ⟨rfl, hb⟩
          have k1 : w1.cell? ⟨w.heap.size, 0, none⟩ = some (.int .i64 a) := cell_call (cell_alloc (cell_alloc (cell_alloc (cbx w #[.int .i64 a, .int .i64 b] 25 (w.heap.size) 0 (.int .i64 a) (by simp) rfl) _) _) _) hb
          have k2 : w1.cell? ⟨w.heap.size, 1, none⟩ = some (.int .i64 b) := cell_call (cell_alloc (cell_alloc (cell_alloc (cbx w #[.int .i64 a, .int .i64 b] 25 (w.heap.size) 1 (.int .i64 b) (by simp) rfl) _) _) _) hb
          have k3 : w1.cell? ⟨w.heap.size + 1, 0, none⟩ = some (.int .i64 c) := cell_call (cell_alloc (cell_alloc (cbx (w.alloc (.cells #[.int .i64 a, .int .i64 b] 25)) #[.int .i64 c, .int .i64 d] 25 (w.heap.size + 1) 0 (.int .i64 c) (by simp) rfl) _) _) hb
          have k4 : w1.cell? ⟨w.heap.size + 1, 1, none⟩ = some (.int .i64 d) := cell_call (cell_alloc (cell_alloc (cbx (w.alloc (.cells #[.int .i64 a, .int .i64 b] 25)) #[.int .i64 c, .int .i64 d] 25 (w.heap.size + 1) 1 (.int .i64 d) (by simp) rfl) _) _) hb
          have k5 : w1.cell? ⟨w.heap.size + 1 + 1, 0, none⟩ = some (.int .i64 p) := cell_call (cell_alloc (cbx ((w.alloc (.cells #[.int .i64 a, .int .i64 b] 25)).alloc (.cells #[.int .i64 c, .int .i64 d] 25)) #[.int .i64 p, .int .i64 q] 25 (w.heap.size + 1 + 1) 0 (.int .i64 p) (by simp) rfl) _) hb
          have k6 : w1.cell? ⟨w.heap.size + 1 + 1, 1, none⟩ = some (.int .i64 q) := cell_call (cell_alloc (cbx ((w.alloc (.cells #[.int .i64 a, .int .i64 b] 25)).alloc (.cells #[.int .i64 c, .int .i64 d] 25)) #[.int .i64 p, .int .i64 q] 25 (w.heap.size + 1 + 1) 1 (.int .i64 q) (by simp) rfl) _) hb
          have k7 : w1.cell? ⟨w.heap.size + 1 + 1 + 1, 0, none⟩ = some (.int .i64 r) := cell_call (cbx (((w.alloc (.cells #[.int .i64 a, .int .i64 b] 25)).alloc (.cells #[.int .i64 c, .int .i64 d] 25)).alloc (.cells #[.int .i64 p, .int .i64 q] 25)) #[.int .i64 r, .int .i64 s] 25 (w.heap.size + 1 + 1 + 1) 0 (.int .i64 r) (by simp) rfl) hb
          have k8 : w1.cell? ⟨w.heap.size + 1 + 1 + 1, 1, none⟩ = some (.int .i64 s) := cell_call (cbx (((w.alloc (.cells #[.int .i64 a, .int .i64 b] 25)).alloc (.cells #[.int .i64 c, .int .i64 d] 25)).alloc (.cells #[.int .i64 p, .int .i64 q] 25)) #[.int .i64 r, .int .i64 s] 25 (w.heap.size + 1 + 1 + 1) 1 (.int .i64 s) (by simp) rfl) hb
          replace hB := belT (belA (belA (belA (belA hB _) _) _) _) hb
          clear hb
          have zk1 : w.heap.size < w1.heap.size := World.block_lt_of_cell? w1 _ k1
          have zk3 : w.heap.size + 1 < w1.heap.size := World.block_lt_of_cell? w1 _ k3
          have zk5 : w.heap.size + 1 + 1 < w1.heap.size := World.block_lt_of_cell? w1 _ k5
          have zk7 : w.heap.size + 1 + 1 + 1 < w1.heap.size := World.block_lt_of_cell? w1 _ k7
          go_wp2_with fail
          refine (von_is a b c d r s false _ ka kb kc kd kr ks H2).mono ?_; rintro e w2 ⟨rfl, hb⟩
          replace k1 : w2.cell? ⟨w.heap.size, 0, none⟩ = some (.int .i64 a) := cell_call k1 hb
          replace k2 : w2.cell? ⟨w.heap.size, 1, none⟩ = some (.int .i64 b) := cell_call k2 hb
          replace k3 : w2.cell? ⟨w.heap.size + 1, 0, none⟩ = some (.int .i64 c) := cell_call k3 hb
          replace k4 : w2.cell? ⟨w.heap.size + 1, 1, none⟩ = some (.int .i64 d) := cell_call k4 hb
          replace k5 : w2.cell? ⟨w.heap.size + 1 + 1, 0, none⟩ = some (.int .i64 p) := cell_call k5 hb
          replace k6 : w2.cell? ⟨w.heap.size + 1 + 1, 1, none⟩ = some (.int .i64 q) := cell_call k6 hb
          replace k7 : w2.cell? ⟨w.heap.size + 1 + 1 + 1, 0, none⟩ = some (.int .i64 r) := cell_call k7 hb
          replace k8 : w2.cell? ⟨w.heap.size + 1 + 1 + 1, 1, none⟩ = some (.int .i64 s) := cell_call k8 hb
          replace hB := belT hB hb
          clear hb
          replace zk1 : w.heap.size < w2.heap.size := World.block_lt_of_cell? w2 _ k1
          replace zk3 : w.heap.size + 1 < w2.heap.size := World.block_lt_of_cell? w2 _ k3
          replace zk5 : w.heap.size + 1 + 1 < w2.heap.size := World.block_lt_of_cell? w2 _ k5
          replace zk7 : w.heap.size + 1 + 1 + 1 < w2.heap.size := World.block_lt_of_cell? w2 _ k7
          go_wp2_with fail
          refine (von_is p q r s a b false _ kp kq kr ks ka kb H3).mono ?_; rintro e w3 ⟨rfl, hb⟩
          replace k1 : w3.cell? ⟨w.heap.size, 0, none⟩ = some (.int .i64 a) := cell_call k1 hb
          replace k2 : w3.cell? ⟨w.heap.size, 1, none⟩ = some (.int .i64 b) := cell_call k2 hb
          replace k3 : w3.cell? ⟨w.heap.size + 1, 0, none⟩ = some (.int .i64 c) := cell_call k3 hb
          replace k4 : w3.cell? ⟨w.heap.size + 1, 1, none⟩ = some (.int .i64 d) := cell_call k4 hb
          replace k5 : w3.cell? ⟨w.heap.size + 1 + 1, 0, none⟩ = some (.int .i64 p) := cell_call k5 hb
          replace k6 : w3.cell? ⟨w.heap.size + 1 + 1, 1, none⟩ = some (.int .i64 q) := cell_call k6 hb
          replace k7 : w3.cell? ⟨w.heap.size + 1 + 1 + 1, 0, none⟩ = some (.int .i64 r) := cell_call k7 hb
          replace k8 : w3.cell? ⟨w.heap.size + 1 + 1 + 1, 1, none⟩ = some (.int .i64 s) := cell_call k8 hb
          replace hB := belT hB hb
          clear hb
          replace zk1 : w.heap.size < w3.heap.size := World.block_lt_of_cell? w3 _ k1
          replace zk3 : w.heap.size + 1 < w3.heap.size := World.block_lt_of_cell? w3 _ k3
          replace zk5 : w.heap.size + 1 + 1 < w3.heap.size := World.block_lt_of_cell? w3 _ k5
          replace zk7 : w.heap.size + 1 + 1 + 1 < w3.heap.size := World.block_lt_of_cell? w3 _ k7
          go_wp2_with fail
          refine (von_is p q r s c d true _ kp kq kr ks kc kd H4).mono ?_; rintro e w4 ⟨rfl, hb⟩
          replace k1 : w4.cell? ⟨w.heap.size, 0, none⟩ = some (.int .i64 a) := cell_call k1 hb
          replace k2 : w4.cell? ⟨w.heap.size, 1, none⟩ = some (.int .i64 b) := cell_call k2 hb
          replace k3 : w4.cell? ⟨w.heap.size + 1, 0, none⟩ = some (.int .i64 c) := cell_call k3 hb
          replace k4 : w4.cell? ⟨w.heap.size + 1, 1, none⟩ = some (.int .i64 d) := cell_call k4 hb
          replace k5 : w4.cell? ⟨w.heap.size + 1 + 1, 0, none⟩ = some (.int .i64 p) := cell_call k5 hb
          replace k6 : w4.cell? ⟨w.heap.size + 1 + 1, 1, none⟩ = some (.int .i64 q) := cell_call k6 hb
          replace k7 : w4.cell? ⟨w.heap.size + 1 + 1 + 1, 0, none⟩ = some (.int .i64 r) := cell_call k7 hb
          replace k8 : w4.cell? ⟨w.heap.size + 1 + 1 + 1, 1, none⟩ = some (.int .i64 s) := cell_call k8 hb
          replace hB := belT hB hb
          clear hb
          replace zk1 : w.heap.size < w4.heap.size := World.block_lt_of_cell? w4 _ k1
          replace zk3 : w.heap.size + 1 < w4.heap.size := World.block_lt_of_cell? w4 _ k3
          replace zk5 : w.heap.size + 1 + 1 < w4.heap.size := World.block_lt_of_cell? w4 _ k5
          replace zk7 : w.heap.size + 1 + 1 + 1 < w4.heap.size := World.block_lt_of_cell? w4 _ k7
          go_wp2_with fail
          go_ret
          exact ⟨ret_bool (by rw [E.out]; simp), hB⟩
      · have hB : Below w.heap.size w w := Below.refl _ _
        clear M1 M2
        go_enter Tryd.func47, Tryd.ntmps47
        go_wp2_with fail
        refine (von_is a b c d p q false _ ka kb kc kd kp kq H1).mono ?_; rintro e w1 ⟨rfl, hb⟩
        have k1 : w1.cell? ⟨w.heap.size, 0, none⟩ = some (.int .i64 a) := cell_call (cell_alloc (cell_alloc (cell_alloc (cbx w #[.int .i64 a, .int .i64 b] 25 (w.heap.size) 0 (.int .i64 a) (by simp) rfl) _) _) _) hb
        have k2 : w1.cell? ⟨w.heap.size, 1, none⟩ = some (.int .i64 b) := cell_call (cell_alloc (cell_alloc (cell_alloc (cbx w #[.int .i64 a, .int .i64 b] 25 (w.heap.size) 1 (.int .i64 b) (by simp) rfl) _) _) _) hb
        have k3 : w1.cell? ⟨w.heap.size + 1, 0, none⟩ = some (.int .i64 c) := cell_call (cell_alloc (cell_alloc (cbx (w.alloc (.cells #[.int .i64 a, .int .i64 b] 25)) #[.int .i64 c, .int .i64 d] 25 (w.heap.size + 1) 0 (.int .i64 c) (by simp) rfl) _) _) hb
        have k4 : w1.cell? ⟨w.heap.size + 1, 1, none⟩ = some (.int .i64 d) := cell_call (cell_alloc (cell_alloc (cbx (w.alloc (.cells #[.int .i64 a, .int .i64 b] 25)) #[.int .i64 c, .int .i64 d] 25 (w.heap.size + 1) 1 (.int .i64 d) (by simp) rfl) _) _) hb
        have k5 : w1.cell? ⟨w.heap.size + 1 + 1, 0, none⟩ = some (.int .i64 p) := cell_call (cell_alloc (cbx ((w.alloc (.cells #[.int .i64 a, .int .i64 b] 25)).alloc (.cells #[.int .i64 c, .int .i64 d] 25)) #[.int .i64 p, .int .i64 q] 25 (w.heap.size + 1 + 1) 0 (.int .i64 p) (by simp) rfl) _) hb
        have k6 : w1.cell? ⟨w.heap.size + 1 + 1, 1, none⟩ = some (.int .i64 q) := cell_call (cell_alloc (cbx ((w.alloc (.cells #[.int .i64 a, .int .i64 b] 25)).alloc (.cells #[.int .i64 c, .int .i64 d] 25)) #[.int .i64 p, .int .i64 q] 25 (w.heap.size + 1 + 1) 1 (.int .i64 q) (by simp) rfl) _) hb
        have k7 : w1.cell? ⟨w.heap.size + 1 + 1 + 1, 0, none⟩ = some (.int .i64 r) := cell_call (cbx (((w.alloc (.cells #[.int .i64 a, .int .i64 b] 25)).alloc (.cells #[.int .i64 c, .int .i64 d] 25)).alloc (.cells #[.int .i64 p, .int .i64 q] 25)) #[.int .i64 r, .int .i64 s] 25 (w.heap.size + 1 + 1 + 1) 0 (.int .i64 r) (by simp) rfl) hb
        have k8 : w1.cell? ⟨w.heap.size + 1 + 1 + 1, 1, none⟩ = some (.int .i64 s) := cell_call (cbx (((w.alloc (.cells #[.int .i64 a, .int .i64 b] 25)).alloc (.cells #[.int .i64 c, .int .i64 d] 25)).alloc (.cells #[.int .i64 p, .int .i64 q] 25)) #[.int .i64 r, .int .i64 s] 25 (w.heap.size + 1 + 1 + 1) 1 (.int .i64 s) (by simp) rfl) hb
        replace hB := belT (belA (belA (belA (belA hB _) _) _) _) hb
        clear hb
        have zk1 : w.heap.size < w1.heap.size := World.block_lt_of_cell? w1 _ k1
        have zk3 : w.heap.size + 1 < w1.heap.size := World.block_lt_of_cell? w1 _ k3
        have zk5 : w.heap.size + 1 + 1 < w1.heap.size := World.block_lt_of_cell? w1 _ k5
        have zk7 : w.heap.size + 1 + 1 + 1 < w1.heap.size := World.block_lt_of_cell? w1 _ k7
        go_wp2_with fail
        refine (von_is a b c d r s false _ ka kb kc kd kr ks H2).mono ?_; rintro e w2 ⟨rfl, hb⟩
        replace k1 : w2.cell? ⟨w.heap.size, 0, none⟩ = some (.int .i64 a) := cell_call k1 hb
        replace k2 : w2.cell? ⟨w.heap.size, 1, none⟩ = some (.int .i64 b) := cell_call k2 hb
        replace k3 : w2.cell? ⟨w.heap.size + 1, 0, none⟩ = some (.int .i64 c) := cell_call k3 hb
        replace k4 : w2.cell? ⟨w.heap.size + 1, 1, none⟩ = some (.int .i64 d) := cell_call k4 hb
        replace k5 : w2.cell? ⟨w.heap.size + 1 + 1, 0, none⟩ = some (.int .i64 p) := cell_call k5 hb
        replace k6 : w2.cell? ⟨w.heap.size + 1 + 1, 1, none⟩ = some (.int .i64 q) := cell_call k6 hb
        replace k7 : w2.cell? ⟨w.heap.size + 1 + 1 + 1, 0, none⟩ = some (.int .i64 r) := cell_call k7 hb
        replace k8 : w2.cell? ⟨w.heap.size + 1 + 1 + 1, 1, none⟩ = some (.int .i64 s) := cell_call k8 hb
        replace hB := belT hB hb
        clear hb
        replace zk1 : w.heap.size < w2.heap.size := World.block_lt_of_cell? w2 _ k1
        replace zk3 : w.heap.size + 1 < w2.heap.size := World.block_lt_of_cell? w2 _ k3
        replace zk5 : w.heap.size + 1 + 1 < w2.heap.size := World.block_lt_of_cell? w2 _ k5
        replace zk7 : w.heap.size + 1 + 1 + 1 < w2.heap.size := World.block_lt_of_cell? w2 _ k7
        go_wp2_with fail
        refine (von_is p q r s a b true _ kp kq kr ks ka kb H3).mono ?_; rintro e w3 ⟨rfl, hb⟩
        replace k1 : w3.cell? ⟨w.heap.size, 0, none⟩ = some (.int .i64 a) := cell_call k1 hb
        replace k2 : w3.cell? ⟨w.heap.size, 1, none⟩ = some (.int .i64 b) := cell_call k2 hb
        replace k3 : w3.cell? ⟨w.heap.size + 1, 0, none⟩ = some (.int .i64 c) := cell_call k3 hb
        replace k4 : w3.cell? ⟨w.heap.size + 1, 1, none⟩ = some (.int .i64 d) := cell_call k4 hb
        replace k5 : w3.cell? ⟨w.heap.size + 1 + 1, 0, none⟩ = some (.int .i64 p) := cell_call k5 hb
        replace k6 : w3.cell? ⟨w.heap.size + 1 + 1, 1, none⟩ = some (.int .i64 q) := cell_call k6 hb
        replace k7 : w3.cell? ⟨w.heap.size + 1 + 1 + 1, 0, none⟩ = some (.int .i64 r) := cell_call k7 hb
        replace k8 : w3.cell? ⟨w.heap.size + 1 + 1 + 1, 1, none⟩ = some (.int .i64 s) := cell_call k8 hb
        replace hB := belT hB hb
        clear hb
        replace zk1 : w.heap.size < w3.heap.size := World.block_lt_of_cell? w3 _ k1
        replace zk3 : w.heap.size + 1 < w3.heap.size := World.block_lt_of_cell? w3 _ k3
        replace zk5 : w.heap.size + 1 + 1 < w3.heap.size := World.block_lt_of_cell? w3 _ k5
        replace zk7 : w.heap.size + 1 + 1 + 1 < w3.heap.size := World.block_lt_of_cell? w3 _ k7
        go_wp2_with fail
        go_ret
        exact ⟨ret_bool (by rw [E.out]; simp), hB⟩
    · have hB : Below w.heap.size w w := Below.refl _ _
      clear M1 M2
      go_enter Tryd.func47, Tryd.ntmps47
      go_wp2_with fail
      refine (von_is a b c d p q false _ ka kb kc kd kp kq H1).mono ?_; rintro e w1 ⟨rfl, hb⟩
      have k1 : w1.cell? ⟨w.heap.size, 0, none⟩ = some (.int .i64 a) := cell_call (cell_alloc (cell_alloc (cell_alloc (cbx w #[.int .i64 a, .int .i64 b] 25 (w.heap.size) 0 (.int .i64 a) (by simp) rfl) _) _) _) hb
      have k2 : w1.cell? ⟨w.heap.size, 1, none⟩ = some (.int .i64 b) := cell_call (cell_alloc (cell_alloc (cell_alloc (cbx w #[.int .i64 a, .int .i64 b] 25 (w.heap.size) 1 (.int .i64 b) (by simp) rfl) _) _) _) hb
      have k3 : w1.cell? ⟨w.heap.size + 1, 0, none⟩ = some (.int .i64 c) := cell_call (cell_alloc (cell_alloc (cbx (w.alloc (.cells #[.int .i64 a, .int .i64 b] 25)) #[.int .i64 c, .int .i64 d] 25 (w.heap.size + 1) 0 (.int .i64 c) (by simp) rfl) _) _) hb
      have k4 : w1.cell? ⟨w.heap.size + 1, 1, none⟩ = some (.int .i64 d) := cell_call (cell_alloc (cell_alloc (cbx (w.alloc (.cells #[.int .i64 a, .int .i64 b] 25)) #[.int .i64 c, .int .i64 d] 25 (w.heap.size + 1) 1 (.int .i64 d) (by simp) rfl) _) _) hb
      have k5 : w1.cell? ⟨w.heap.size + 1 + 1, 0, none⟩ = some (.int .i64 p) := cell_call (cell_alloc (cbx ((w.alloc (.cells #[.int .i64 a, .int .i64 b] 25)).alloc (.cells #[.int .i64 c, .int .i64 d] 25)) #[.int .i64 p, .int .i64 q] 25 (w.heap.size + 1 + 1) 0 (.int .i64 p) (by simp) rfl) _) hb
      have k6 : w1.cell? ⟨w.heap.size + 1 + 1, 1, none⟩ = some (.int .i64 q) := cell_call (cell_alloc (cbx ((w.alloc (.cells #[.int .i64 a, .int .i64 b] 25)).alloc (.cells #[.int .i64 c, .int .i64 d] 25)) #[.int .i64 p, .int .i64 q] 25 (w.heap.size + 1 + 1) 1 (.int .i64 q) (by simp) rfl) _) hb
      have k7 : w1.cell? ⟨w.heap.size + 1 + 1 + 1, 0, none⟩ = some (.int .i64 r) := cell_call (cbx (((w.alloc (.cells #[.int .i64 a, .int .i64 b] 25)).alloc (.cells #[.int .i64 c, .int .i64 d] 25)).alloc (.cells #[.int .i64 p, .int .i64 q] 25)) #[.int .i64 r, .int .i64 s] 25 (w.heap.size + 1 + 1 + 1) 0 (.int .i64 r) (by simp) rfl) hb
      have k8 : w1.cell? ⟨w.heap.size + 1 + 1 + 1, 1, none⟩ = some (.int .i64 s) := cell_call (cbx (((w.alloc (.cells #[.int .i64 a, .int .i64 b] 25)).alloc (.cells #[.int .i64 c, .int .i64 d] 25)).alloc (.cells #[.int .i64 p, .int .i64 q] 25)) #[.int .i64 r, .int .i64 s] 25 (w.heap.size + 1 + 1 + 1) 1 (.int .i64 s) (by simp) rfl) hb
      replace hB := belT (belA (belA (belA (belA hB _) _) _) _) hb
      clear hb
      have zk1 : w.heap.size < w1.heap.size := World.block_lt_of_cell? w1 _ k1
      have zk3 : w.heap.size + 1 < w1.heap.size := World.block_lt_of_cell? w1 _ k3
      have zk5 : w.heap.size + 1 + 1 < w1.heap.size := World.block_lt_of_cell? w1 _ k5
      have zk7 : w.heap.size + 1 + 1 + 1 < w1.heap.size := World.block_lt_of_cell? w1 _ k7
      go_wp2_with fail
      refine (von_is a b c d r s true _ ka kb kc kd kr ks H2).mono ?_; rintro e w2 ⟨rfl, hb⟩
      replace k1 : w2.cell? ⟨w.heap.size, 0, none⟩ = some (.int .i64 a) := cell_call k1 hb
      replace k2 : w2.cell? ⟨w.heap.size, 1, none⟩ = some (.int .i64 b) := cell_call k2 hb
      replace k3 : w2.cell? ⟨w.heap.size + 1, 0, none⟩ = some (.int .i64 c) := cell_call k3 hb
      replace k4 : w2.cell? ⟨w.heap.size + 1, 1, none⟩ = some (.int .i64 d) := cell_call k4 hb
      replace k5 : w2.cell? ⟨w.heap.size + 1 + 1, 0, none⟩ = some (.int .i64 p) := cell_call k5 hb
      replace k6 : w2.cell? ⟨w.heap.size + 1 + 1, 1, none⟩ = some (.int .i64 q) := cell_call k6 hb
      replace k7 : w2.cell? ⟨w.heap.size + 1 + 1 + 1, 0, none⟩ = some (.int .i64 r) := cell_call k7 hb
      replace k8 : w2.cell? ⟨w.heap.size + 1 + 1 + 1, 1, none⟩ = some (.int .i64 s) := cell_call k8 hb
      replace hB := belT hB hb
      clear hb
      replace zk1 : w.heap.size < w2.heap.size := World.block_lt_of_cell? w2 _ k1
      replace zk3 : w.heap.size + 1 < w2.heap.size := World.block_lt_of_cell? w2 _ k3
      replace zk5 : w.heap.size + 1 + 1 < w2.heap.size := World.block_lt_of_cell? w2 _ k5
      replace zk7 : w.heap.size + 1 + 1 + 1 < w2.heap.size := World.block_lt_of_cell? w2 _ k7
      go_wp2_with fail
      go_ret
      exact ⟨ret_bool (by rw [E.out]; simp), hB⟩
  · have hB : Below w.heap.size w w := Below.refl _ _
    clear M1 M2
    go_enter Tryd.func47, Tryd.ntmps47
    go_wp2_with fail
    refine (von_is a b c d p q true _ ka kb kc kd kp kq H1).mono ?_; rintro e w1 ⟨rfl, hb⟩
    have k1 : w1.cell? ⟨w.heap.size, 0, none⟩ = some (.int .i64 a) := cell_call (cell_alloc (cell_alloc (cell_alloc (cbx w #[.int .i64 a, .int .i64 b] 25 (w.heap.size) 0 (.int .i64 a) (by simp) rfl) _) _) _) hb
    have k2 : w1.cell? ⟨w.heap.size, 1, none⟩ = some (.int .i64 b) := cell_call (cell_alloc (cell_alloc (cell_alloc (cbx w #[.int .i64 a, .int .i64 b] 25 (w.heap.size) 1 (.int .i64 b) (by simp) rfl) _) _) _) hb
    have k3 : w1.cell? ⟨w.heap.size + 1, 0, none⟩ = some (.int .i64 c) := cell_call (cell_alloc (cell_alloc (cbx (w.alloc (.cells #[.int .i64 a, .int .i64 b] 25)) #[.int .i64 c, .int .i64 d] 25 (w.heap.size + 1) 0 (.int .i64 c) (by simp) rfl) _) _) hb
    have k4 : w1.cell? ⟨w.heap.size + 1, 1, none⟩ = some (.int .i64 d) := cell_call (cell_alloc (cell_alloc (cbx (w.alloc (.cells #[.int .i64 a, .int .i64 b] 25)) #[.int .i64 c, .int .i64 d] 25 (w.heap.size + 1) 1 (.int .i64 d) (by simp) rfl) _) _) hb
    have k5 : w1.cell? ⟨w.heap.size + 1 + 1, 0, none⟩ = some (.int .i64 p) := cell_call (cell_alloc (cbx ((w.alloc (.cells #[.int .i64 a, .int .i64 b] 25)).alloc (.cells #[.int .i64 c, .int .i64 d] 25)) #[.int .i64 p, .int .i64 q] 25 (w.heap.size + 1 + 1) 0 (.int .i64 p) (by simp) rfl) _) hb
    have k6 : w1.cell? ⟨w.heap.size + 1 + 1, 1, none⟩ = some (.int .i64 q) := cell_call (cell_alloc (cbx ((w.alloc (.cells #[.int .i64 a, .int .i64 b] 25)).alloc (.cells #[.int .i64 c, .int .i64 d] 25)) #[.int .i64 p, .int .i64 q] 25 (w.heap.size + 1 + 1) 1 (.int .i64 q) (by simp) rfl) _) hb
    have k7 : w1.cell? ⟨w.heap.size + 1 + 1 + 1, 0, none⟩ = some (.int .i64 r) := cell_call (cbx (((w.alloc (.cells #[.int .i64 a, .int .i64 b] 25)).alloc (.cells #[.int .i64 c, .int .i64 d] 25)).alloc (.cells #[.int .i64 p, .int .i64 q] 25)) #[.int .i64 r, .int .i64 s] 25 (w.heap.size + 1 + 1 + 1) 0 (.int .i64 r) (by simp) rfl) hb
    have k8 : w1.cell? ⟨w.heap.size + 1 + 1 + 1, 1, none⟩ = some (.int .i64 s) := cell_call (cbx (((w.alloc (.cells #[.int .i64 a, .int .i64 b] 25)).alloc (.cells #[.int .i64 c, .int .i64 d] 25)).alloc (.cells #[.int .i64 p, .int .i64 q] 25)) #[.int .i64 r, .int .i64 s] 25 (w.heap.size + 1 + 1 + 1) 1 (.int .i64 s) (by simp) rfl) hb
    replace hB := belT (belA (belA (belA (belA hB _) _) _) _) hb
    clear hb
    have zk1 : w.heap.size < w1.heap.size := World.block_lt_of_cell? w1 _ k1
    have zk3 : w.heap.size + 1 < w1.heap.size := World.block_lt_of_cell? w1 _ k3
    have zk5 : w.heap.size + 1 + 1 < w1.heap.size := World.block_lt_of_cell? w1 _ k5
    have zk7 : w.heap.size + 1 + 1 + 1 < w1.heap.size := World.block_lt_of_cell? w1 _ k7
    go_wp2_with fail
    go_ret
    exact ⟨ret_bool (by rw [E.out]; simp), hB⟩

theorem vat_is (ao : Option Addr) (n cap i j : Nat) (ps : List (Int × Int)) (x y : Int) (w : World) (hn : ps.length = n) (h0 : 0 < n) (hle : n ≤ 1000000) (hi : i ≤ 1000000) (hj : Hid (i % n = j)) (hx : Hid (cx ps j = x)) (hy : Hid (cy ps j = y)) (hP : PRow w ao ps) :
    Calls Tryd.prog 46 #[.slice ao n cap, .int .i64 (i : Int)] w fun e w' => e = .returned (.agg #[.int .i64 x, .int .i64 y]) ∧ Below w.heap.size w w' := by
  have hjl : j < ps.length := by rw [hn, ← hj.out]; exact Nat.mod_lt _ h0
  obtain ⟨b, o, rfl, c1, c2⟩ := prow_at hP hjl
  rw [hx.out] at c1
  rw [hy.out] at c2
  have htm : (i : Int).tmod (n : Int) = (j : Int) := by rw [← hj.out, Int.tmod_eq_emod_of_nonneg (by omega)]; simp
  have hjn : (j : Int) < n := by omega
  have hn0 : (n : Int) ≠ 0 := by omega
  have zb : b < w.heap.size := World.block_lt_of_cell? w _ c1
  clear hP hjl hx hy hj hn
  go_enter Tryd.func46, Tryd.ntmps46
  go_wp2
  go_returns
  exact ⟨rfl, by go_grown⟩
end Go.Proofs.YthmcejeeohlafaaDoor
