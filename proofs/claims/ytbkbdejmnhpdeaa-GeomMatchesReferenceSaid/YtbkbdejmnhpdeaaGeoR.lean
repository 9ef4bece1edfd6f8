/- Contracts of the reference ambidexterref02: Cross, Side, between, On. The coordinates are bounded. -/
import Derived.Test.YtbkbdejmnhpdeaaGeoL
namespace Go.Proofs.Ytbkbdejmnhpdeaa
open Go.ChangeShapes Go.WideShapes Go.ChangeAt Go.RowKit

theorem rdif {x y : Int} (hx : InY x) (hy : InY y) : -878800000 ≤ x - y ∧ x - y ≤ 878800000 := by unfold InY at *; omega
theorem rprod {x y : Int} (hx : -878800000 ≤ x ∧ x ≤ 878800000) (hy : -878800000 ≤ y ∧ y ≤ 878800000) : -772289440000000000 ≤ x * y ∧ x * y ≤ 772289440000000000 := by
  have := mul_bd hx hy
  omega

set_option maxHeartbeats 1000000 in
theorem rcross_any (a b c d p q : Int) (w : World) (ka : InY a) (kb : InY b) (kc : InY c) (kd : InY d) (kp : InY p) (kq : InY q) :
    Calls Try.prog 37 #[.agg #[.int .i64 a, .int .i64 b], .agg #[.int .i64 c, .int .i64 d], .agg #[.int .i64 p, .int .i64 q]] w fun e w' => e = .returned (.int .i64 ((c - a) * (q - b) - (d - b) * (p - a))) ∧ Below w.heap.size w w' := by
  have d1 := rdif kc ka
  have d2 := rdif kd kb
  have d3 := rdif kp ka
  have d4 := rdif kq kb
  obtain ⟨m1, m2⟩ := rprod d1 d4
  obtain ⟨m3, m4⟩ := rprod d2 d3
  obtain ⟨d11, d12⟩ := d1
  obtain ⟨d21, d22⟩ := d2
  obtain ⟨d31, d32⟩ := d3
  obtain ⟨d41, d42⟩ := d4
  clear ka kb kc kd kp kq
  go_enter Try.func37, Try.ntmps37
  go_wp2
  go_ret
  exact ⟨rfl, belA (belA (belA (Below.refl _ _) _) _) _⟩

set_option maxHeartbeats 1000000 in
theorem rside_any (a b c d p q : Int) (w : World) (ka : InY a) (kb : InY b) (kc : InY c) (kd : InY d) (kp : InY p) (kq : InY q) :
    Calls Try.prog 20 #[.agg #[.int .i64 a, .int .i64 b], .agg #[.int .i64 c, .int .i64 d], .agg #[.int .i64 p, .int .i64 q]] w fun e w' => e = .returned (.int .i64 (ori a b c d p q)) ∧ Below w.heap.size w w' := by
  obtain ⟨n, hn⟩ : ∃ n, (c - a) * (q - b) - (d - b) * (p - a) = n := ⟨_, rfl⟩
  have C := fun w => rcross_any a b c d p q w ka kb kc kd kp kq
  rw [hn] at C
  have HC := Lib.hid C
  have E : Hid (ori a b c d p q = cmpI n 0) := Lib.hid (cmpI_same (by omega))
  clear C hn ka kb kc kd kp kq
  rcases Int.lt_trichotomy n 0 with h | h | h
  all_goals
    go_enter Try.func20, Try.ntmps20
    go_wp2_with fail
    refine (HC.out _).mono ?_; rintro e w1 ⟨rfl, hb⟩
    have hB := belT (belA (belA (belA (Below.refl w.heap.size w) _) _) _) hb
    clear hb HC
    go_wp2
    go_ret
    exact ⟨ret_int (by rw [E.out]; first | rw [cmpI_lt h] | rw [cmpI_eq h] | rw [cmpI_gt h]), hB⟩

theorem rbetween_any (a b x : Int) (w : World) :
    Calls Try.prog 38 #[.int .i64 a, .int .i64 b, .int .i64 x] w fun e w' => e = .returned (.bool (decide (mnI a b ≤ x) && decide (x ≤ mxI a b))) ∧ w = w' := by
  have m1 := run_min2 a b
  have m2 := run_max2 a b
  obtain ⟨u, hu⟩ : ∃ u, mnI a b = u := ⟨_, rfl⟩
  obtain ⟨v, hv⟩ : ∃ v, mxI a b = v := ⟨_, rfl⟩
  rw [hu] at m1 ⊢
  rw [hv] at m2 ⊢
  clear hu hv
  go_enter Try.func38, Try.ntmps38
  go_wp2
  all_goals
    go_ret
    exact ⟨ret_bool (by simp [*]; try (intros; omega)), rfl⟩

set_option maxHeartbeats 1000000 in
theorem ron_any (a b c d p q : Int) (w : World) (ka : InY a) (kb : InY b) (kc : InY c) (kd : InY d) (kp : InY p) (kq : InY q) :
    Calls Try.prog 22 #[.agg #[.int .i64 a, .int .i64 b], .agg #[.int .i64 c, .int .i64 d], .agg #[.int .i64 p, .int .i64 q]] w fun e w' => e = .returned (.bool (onB a b c d p q)) ∧ Below w.heap.size w w' := by
  obtain ⟨n, hn⟩ : ∃ n, ori a b c d p q = n := ⟨_, rfl⟩
  have C := fun w => rside_any a b c d p q w ka kb kc kd kp kq
  have B1 := fun w => rbetween_any a c p w
  have B2 := fun w => rbetween_any b d q w
  obtain ⟨x, hx⟩ : ∃ x, (decide (mnI a c ≤ p) && decide (p ≤ mxI a c)) = x := ⟨_, rfl⟩
  obtain ⟨y, hy⟩ : ∃ y, (decide (mnI b d ≤ q) && decide (q ≤ mxI b d)) = y := ⟨_, rfl⟩
  rw [hn] at C
  rw [hx] at B1
  rw [hy] at B2
  have E : Hid (onB a b c d p q = ((n == 0) && x && y)) := Lib.hid (by
    unfold onB
    rw [hn, ← hx, ← hy]
    cases decide (mnI a c ≤ p) <;> cases decide (p ≤ mxI a c) <;> cases decide (mnI b d ≤ q) <;> cases decide (q ≤ mxI b d) <;> cases (n == 0) <;> rfl)
  have HC := Lib.hid C
  have H1 := Lib.hid B1
  have H2 := Lib.hid B2
  clear C B1 B2 hn hx hy ka kb kc kd kp kq
  by_cases h0 : n = 0
  · subst h0
    cases x
    · have hB : Below w.heap.size w w := Below.refl _ _
      go_enter Try.func22, Try.ntmps22
      go_wp2_with fail
      refine (HC.out _).mono ?_; rintro e w1 ⟨rfl, hb⟩
      have k1 : w1.cell? ⟨w.heap.size, 0, none⟩ = some (.int .i64 a) := cell_call (cell_alloc (cell_alloc (cbx w #[.int .i64 a, .int .i64 b] 23 (w.heap.size) 0 (.int .i64 a) (by simp) rfl) _) _) hb
      have k2 : w1.cell? ⟨w.heap.size, 1, none⟩ = some (.int .i64 b) := cell_call (cell_alloc (cell_alloc (cbx w #[.int .i64 a, .int .i64 b] 23 (w.heap.size) 1 (.int .i64 b) (by simp) rfl) _) _) hb
      have k3 : w1.cell? ⟨w.heap.size + 1, 0, none⟩ = some (.int .i64 c) := cell_call (cell_alloc (cbx (w.alloc (.cells #[.int .i64 a, .int .i64 b] 23)) #[.int .i64 c, .int .i64 d] 23 (w.heap.size + 1) 0 (.int .i64 c) (by simp) rfl) _) hb
      have k4 : w1.cell? ⟨w.heap.size + 1, 1, none⟩ = some (.int .i64 d) := cell_call (cell_alloc (cbx (w.alloc (.cells #[.int .i64 a, .int .i64 b] 23)) #[.int .i64 c, .int .i64 d] 23 (w.heap.size + 1) 1 (.int .i64 d) (by simp) rfl) _) hb
      have k5 : w1.cell? ⟨w.heap.size + 1 + 1, 0, none⟩ = some (.int .i64 p) := cell_call (cbx ((w.alloc (.cells #[.int .i64 a, .int .i64 b] 23)).alloc (.cells #[.int .i64 c, .int .i64 d] 23)) #[.int .i64 p, .int .i64 q] 23 (w.heap.size + 1 + 1) 0 (.int .i64 p) (by simp) rfl) hb
      have k6 : w1.cell? ⟨w.heap.size + 1 + 1, 1, none⟩ = some (.int .i64 q) := cell_call (cbx ((w.alloc (.cells #[.int .i64 a, .int .i64 b] 23)).alloc (.cells #[.int .i64 c, .int .i64 d] 23)) #[.int .i64 p, .int .i64 q] 23 (w.heap.size + 1 + 1) 1 (.int .i64 q) (by simp) rfl) hb
      replace hB := belT (belA (belA (belA hB _) _) _) hb
      clear hb
      have zk1 : w.heap.size < w1.heap.size := World.block_lt_of_cell? w1 _ k1
      have zk3 : w.heap.size + 1 < w1.heap.size := World.block_lt_of_cell? w1 _ k3
      have zk5 : w.heap.size + 1 + 1 < w1.heap.size := World.block_lt_of_cell? w1 _ k5
      go_wp2_with fail
      refine (H1.out _).mono ?_; rintro e w' ⟨rfl, rfl⟩
      go_wp2_with fail
      go_ret
      exact ⟨ret_bool (by rw [E.out]; simp [*]), hB⟩
    · cases y
      · have hB : Below w.heap.size w w := Below.refl _ _
        go_enter Try.func22, Try.ntmps22
        go_wp2_with fail
        refine (HC.out _).mono ?_; rintro e w1 ⟨rfl, hb⟩
        have k1 : w1.cell? ⟨w.heap.size, 0, none⟩ = some (.int .i64 a) := cell_call (cell_alloc (cell_alloc (cbx w #[.int .i64 a, .int .i64 b] 23 (w.heap.size) 0 (.int .i64 a) (by simp) rfl) _) _) hb
        have k2 : w1.cell? ⟨w.heap.size, 1, none⟩ = some (.int .i64 b) := cell_call (cell_alloc (cell_alloc (cbx w #[.int .i64 a, .int .i64 b] 23 (w.heap.size) 1 (.int .i64 b) (by simp) rfl) _) _) hb
        have k3 : w1.cell? ⟨w.heap.size + 1, 0, none⟩ = some (.int .i64 c) := cell_call (cell_alloc (cbx (w.alloc (.cells #[.int .i64 a, .int .i64 b] 23)) #[.int .i64 c, .int .i64 d] 23 (w.heap.size + 1) 0 (.int .i64 c) (by simp) rfl) _) hb
        have k4 : w1.cell? ⟨w.heap.size + 1, 1, none⟩ = some (.int .i64 d) := cell_call (cell_alloc (cbx (w.alloc (.cells #[.int .i64 a, .int .i64 b] 23)) #[.int .i64 c, .int .i64 d] 23 (w.heap.size + 1) 1 (.int .i64 d) (by simp) rfl) _) hb
        have k5 : w1.cell? ⟨w.heap.size + 1 + 1, 0, none⟩ = some (.int .i64 p) := cell_call (cbx ((w.alloc (.cells #[.int .i64 a, .int .i64 b] 23)).alloc (.cells #[.int .i64 c, .int .i64 d] 23)) #[.int .i64 p, .int .i64 q] 23 (w.heap.size + 1 + 1) 0 (.int .i64 p) (by simp) rfl) hb
        have k6 : w1.cell? ⟨w.heap.size + 1 + 1, 1, none⟩ = some (.int .i64 q) := cell_call (cbx ((w.alloc (.cells #[.int .i64 a, .int .i64 b] 23)).alloc (.cells #[.int .i64 c, .int .i64 d] 23)) #[.int .i64 p, .int .i64 q] 23 (w.heap.size + 1 + 1) 1 (.int .i64 q) (by simp) rfl) hb
        replace hB := belT (belA (belA (belA hB _) _) _) hb
        clear hb
        have zk1 : w.heap.size < w1.heap.size := World.block_lt_of_cell? w1 _ k1
        have zk3 : w.heap.size + 1 < w1.heap.size := World.block_lt_of_cell? w1 _ k3
        have zk5 : w.heap.size + 1 + 1 < w1.heap.size := World.block_lt_of_cell? w1 _ k5
        go_wp2_with fail
        refine (H1.out _).mono ?_; rintro e w' ⟨rfl, rfl⟩
        go_wp2_with fail
        refine (H2.out _).mono ?_; rintro e w' ⟨rfl, rfl⟩
        go_wp2_with fail
        go_ret
        exact ⟨ret_bool (by rw [E.out]; simp [*]), hB⟩
      · have hB : Below w.heap.size w w := Below.refl _ _
        go_enter Try.func22, Try.ntmps22
        go_wp2_with fail
        refine (HC.out _).mono ?_; rintro e w1 ⟨rfl, hb⟩
        have k1 : w1.cell? ⟨w.heap.size, 0, none⟩ = some (.int .i64 a) := cell_call (cell_alloc (cell_alloc (cbx w #[.int .i64 a, .int .i64 b] 23 (w.heap.size) 0 (.int .i64 a) (by simp) rfl) _) _) hb
        have k2 : w1.cell? ⟨w.heap.size, 1, none⟩ = some (.int .i64 b) := cell_call (cell_alloc (cell_alloc (cbx w #[.int .i64 a, .int .i64 b] 23 (w.heap.size) 1 (.int .i64 b) (by simp) rfl) _) _) hb
        have k3 : w1.cell? ⟨w.heap.size + 1, 0, none⟩ = some (.int .i64 c) := cell_call (cell_alloc (cbx (w.alloc (.cells #[.int .i64 a, .int .i64 b] 23)) #[.int .i64 c, .int .i64 d] 23 (w.heap.size + 1) 0 (.int .i64 c) (by simp) rfl) _) hb
        have k4 : w1.cell? ⟨w.heap.size + 1, 1, none⟩ = some (.int .i64 d) := cell_call (cell_alloc (cbx (w.alloc (.cells #[.int .i64 a, .int .i64 b] 23)) #[.int .i64 c, .int .i64 d] 23 (w.heap.size + 1) 1 (.int .i64 d) (by simp) rfl) _) hb
        have k5 : w1.cell? ⟨w.heap.size + 1 + 1, 0, none⟩ = some (.int .i64 p) := cell_call (cbx ((w.alloc (.cells #[.int .i64 a, .int .i64 b] 23)).alloc (.cells #[.int .i64 c, .int .i64 d] 23)) #[.int .i64 p, .int .i64 q] 23 (w.heap.size + 1 + 1) 0 (.int .i64 p) (by simp) rfl) hb
        have k6 : w1.cell? ⟨w.heap.size + 1 + 1, 1, none⟩ = some (.int .i64 q) := cell_call (cbx ((w.alloc (.cells #[.int .i64 a, .int .i64 b] 23)).alloc (.cells #[.int .i64 c, .int .i64 d] 23)) #[.int .i64 p, .int .i64 q] 23 (w.heap.size + 1 + 1) 1 (.int .i64 q) (by simp) rfl) hb
        replace hB := belT (belA (belA (belA hB _) _) _) hb
        clear hb
        have zk1 : w.heap.size < w1.heap.size := World.block_lt_of_cell? w1 _ k1
        have zk3 : w.heap.size + 1 < w1.heap.size := World.block_lt_of_cell? w1 _ k3
        have zk5 : w.heap.size + 1 + 1 < w1.heap.size := World.block_lt_of_cell? w1 _ k5
        go_wp2_with fail
        refine (H1.out _).mono ?_; rintro e w' ⟨rfl, rfl⟩
        go_wp2_with fail
        refine (H2.out _).mono ?_; rintro e w' ⟨rfl, rfl⟩
        go_wp2_with fail
        go_ret
        exact ⟨ret_bool (by rw [E.out]; simp [*]), hB⟩
  · have hB : Below w.heap.size w w := Below.refl _ _
    go_enter Try.func22, Try.ntmps22
    go_wp2_with fail
    refine (HC.out _).mono ?_; rintro e w1 ⟨rfl, hb⟩
    have k1 : w1.cell? ⟨w.heap.size, 0, none⟩ = some (.int .i64 a) := cell_call (cell_alloc (cell_alloc (cbx w #[.int .i64 a, .int .i64 b] 23 (w.heap.size) 0 (.int .i64 a) (by simp) rfl) _) _) hb
    have k2 : w1.cell? ⟨w.heap.size, 1, none⟩ = some (.int .i64 b) := cell_call (cell_alloc (cell_alloc (cbx w #[.int .i64 a, .int .i64 b] 23 (w.heap.size) 1 (.int .i64 b) (by simp) rfl) _) _) hb
    have k3 : w1.cell? ⟨w.heap.size + 1, 0, none⟩ = some (.int .i64 c) := cell_call (cell_alloc (cbx (w.alloc (.cells #[.int .i64 a, .int .i64 b] 23)) #[.int .i64 c, .int .i64 d] 23 (w.heap.size + 1) 0 (.int .i64 c) (by simp) rfl) _) hb
    have k4 : w1.cell? ⟨w.heap.size + 1, 1, none⟩ = some (.int .i64 d) := cell_call (cell_alloc (cbx (w.alloc (.cells #[.int .i64 a, .int .i64 b] 23)) #[.int .i64 c, .int .i64 d] 23 (w.heap.size + 1) 1 (.int .i64 d) (by simp) rfl) _) hb
    have k5 : w1.cell? ⟨w.heap.size + 1 + 1, 0, none⟩ = some (.int .i64 p) := cell_call (cbx ((w.alloc (.cells #[.int .i64 a, .int .i64 b] 23)).alloc (.cells #[.int .i64 c, .int .i64 d] 23)) #[.int .i64 p, .int .i64 q] 23 (w.heap.size + 1 + 1) 0 (.int .i64 p) (by simp) rfl) hb
    have k6 : w1.cell? ⟨w.heap.size + 1 + 1, 1, none⟩ = some (.int .i64 q) := cell_call (cbx ((w.alloc (.cells #[.int .i64 a, .int .i64 b] 23)).alloc (.cells #[.int .i64 c, .int .i64 d] 23)) #[.int .i64 p, .int .i64 q] 23 (w.heap.size + 1 + 1) 1 (.int .i64 q) (by simp) rfl) hb
    replace hB := belT (belA (belA (belA hB _) _) _) hb
    clear hb
    have zk1 : w.heap.size < w1.heap.size := World.block_lt_of_cell? w1 _ k1
    have zk3 : w.heap.size + 1 < w1.heap.size := World.block_lt_of_cell? w1 _ k3
    have zk5 : w.heap.size + 1 + 1 < w1.heap.size := World.block_lt_of_cell? w1 _ k5
    go_wp2_with fail
    go_ret
    exact ⟨ret_bool (by rw [E.out]; simp [*]), hB⟩
end Go.Proofs.Ytbkbdejmnhpdeaa
