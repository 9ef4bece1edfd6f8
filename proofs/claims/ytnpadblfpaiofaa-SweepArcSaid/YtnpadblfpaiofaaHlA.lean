/- Contracts of the leaves of package hull, of cmp and of the reference: cross, next, previous, Side, isNaN, Compare, Or, compare. The coordinates are bounded. -/
import Derived.Test.YtnpadblfpaiofaaHw
import Derived.Test.YtnpadblfpaiofaaHs
namespace Go.Proofs.Ytnpadblfpaiofaa
open Go.ChangeShapes Go.WideShapes Go.ChangeAt Go.RowKit
set_option linter.unusedVariables false
set_option linter.unusedSimpArgs false

set_option maxHeartbeats 1000000 in
theorem cross_gr (a b c d p q n : Int) (w : World) (ka : InV a) (kb : InV b) (kc : InV c) (kd : InV d) (kp : InV p) (kq : InV q) (h : Hid (det a b c d p q = n)) :
    Calls Try.prog 62 #[.agg #[.int .i64 a, .int .i64 b], .agg #[.int .i64 c, .int .i64 d], .agg #[.int .i64 p, .int .i64 q]] w fun e w' => e = .returned (.int .i64 n) ∧ ∃ q os, w' = Sort.grow (w.drewN q) os := by
  have d1 := vdif kc ka
  have d2 := vdif kd kb
  have d3 := vdif kp ka
  have d4 := vdif kq kb
  obtain ⟨m1, m2⟩ := vprod d1 d4
  obtain ⟨m3, m4⟩ := vprod d2 d3
  obtain ⟨d11, d12⟩ := d1
  obtain ⟨d21, d22⟩ := d2
  obtain ⟨d31, d32⟩ := d3
  obtain ⟨d41, d42⟩ := d4
  clear ka kb kc kd kp kq
  go_enter Try.func62, Try.ntmps62
  go_wp2
  go_ret
  exact ⟨ret_int (by rw [← h.out]; rfl), 0, _, by rw [Sort.alloc_eq_grow, Sort.alloc_eq_grow, Sort.alloc_eq_grow, Sort.grow_grow, Sort.grow_grow]; rfl⟩
theorem hcross_is (a b c d p q n : Int) (w : World) (ka : InV a) (kb : InV b) (kc : InV c) (kd : InV d) (kp : InV p) (kq : InV q) (h : Hid (det a b c d p q = n)) :
    Calls Try.prog 62 #[.agg #[.int .i64 a, .int .i64 b], .agg #[.int .i64 c, .int .i64 d], .agg #[.int .i64 p, .int .i64 q]] w fun e w' => e = .returned (.int .i64 n) ∧ Below w.heap.size w w' :=
  (cross_gr a b c d p q n w ka kb kc kd kp kq h).mono fun e w' ⟨he, q, os, hw⟩ => ⟨he, by rw [hw]; exact below_gr w q os⟩

set_option maxHeartbeats 1000000 in
theorem side_gr (a b c d p q n : Int) (w : World) (ka : InV a) (kb : InV b) (kc : InV c) (kd : InV d) (kp : InV p) (kq : InV q) (h : Hid (det a b c d p q = n)) :
    Calls Try.prog 30 #[.agg #[.int .i64 a, .int .i64 b], .agg #[.int .i64 c, .int .i64 d], .agg #[.int .i64 p, .int .i64 q]] w fun e w' => e = .returned (.int .i64 n) ∧ ∃ q os, w' = Sort.grow (w.drewN q) os := by
  have d1 := vdif kc ka
  have d2 := vdif kd kb
  have d3 := vdif kp ka
  have d4 := vdif kq kb
  obtain ⟨m1, m2⟩ := vprod d1 d4
  obtain ⟨m3, m4⟩ := vprod d2 d3
  obtain ⟨d11, d12⟩ := d1
  obtain ⟨d21, d22⟩ := d2
  obtain ⟨d31, d32⟩ := d3
  obtain ⟨d41, d42⟩ := d4
  clear ka kb kc kd kp kq
  go_enter Try.func30, Try.ntmps30
  go_wp2
  go_ret
  exact ⟨ret_int (by rw [← h.out]; rfl), 0, _, by rw [Sort.alloc_eq_grow, Sort.alloc_eq_grow, Sort.alloc_eq_grow, Sort.grow_grow, Sort.grow_grow]; rfl⟩
theorem side_is (a b c d p q n : Int) (w : World) (ka : InV a) (kb : InV b) (kc : InV c) (kd : InV d) (kp : InV p) (kq : InV q) (h : Hid (det a b c d p q = n)) :
    Calls Try.prog 30 #[.agg #[.int .i64 a, .int .i64 b], .agg #[.int .i64 c, .int .i64 d], .agg #[.int .i64 p, .int .i64 q]] w fun e w' => e = .returned (.int .i64 n) ∧ Below w.heap.size w w' :=
  (side_gr a b c d p q n w ka kb kc kd kp kq h).mono fun e w' ⟨he, q, os, hw⟩ => ⟨he, by rw [hw]; exact below_gr w q os⟩

set_option maxHeartbeats 1000000 in
theorem hnext_is (ao : Option Addr) (n cap k j : Nat) (w : World) (hn : 0 < n) (hn' : n ≤ 1000000) (hk : k ≤ 1000000) (hj : Hid ((k + 1) % n = j)) :
    Calls Try.prog 64 #[.slice ao n cap, .int .i64 (k : Int)] w fun e w' => e = .returned (.int .i64 (j : Int)) ∧ w = w' := by
  have h0 : (n : Int) ≠ 0 := by omega
  have ht : ((k : Int) + 1).tmod (n : Int) = (j : Int) := by
    rw [← hj.out, Int.tmod_eq_emod_of_nonneg (by omega)]; simp
  go_enter Try.func64, Try.ntmps64
  go_wp2
  go_ret
  exact ⟨rfl, rfl⟩

set_option maxHeartbeats 1000000 in
theorem prev_is (ao : Option Addr) (n cap k j : Nat) (w : World) (hn : 0 < n) (hn' : n ≤ 1000000) (hk : k ≤ 1000000) (hj : Hid ((k + n - 1) % n = j)) :
    Calls Try.prog 75 #[.slice ao n cap, .int .i64 (k : Int)] w fun e w' => e = .returned (.int .i64 (j : Int)) ∧ w = w' := by
  have h0 : (n : Int) ≠ 0 := by omega
  have ht : ((k : Int) + (n : Int) - 1).tmod (n : Int) = (j : Int) := by
    rw [← hj.out, Int.tmod_eq_emod_of_nonneg (by omega)]; push_cast; rw [Int.natCast_sub (by omega)]; simp
  go_enter Try.func75, Try.ntmps75
  go_wp2
  go_ret
  exact ⟨rfl, rfl⟩

theorem nan_is (x : Int) (w : World) :
    Calls Try.prog 74 #[.int .i64 x] w fun e w' => e = .returned (.bool false) ∧ w = w' := by
  go_enter Try.func74, Try.ntmps74
  go_wp2
  go_ret
  exact ⟨ret_bool (by simp), rfl⟩

set_option maxHeartbeats 1000000 in
theorem cmp_is (x y v : Int) (w : World) (h : Hid (cmpI x y = v)) :
    Calls Try.prog 60 #[.int .i64 x, .int .i64 y] w fun e w' => e = .returned (.int .i64 v) ∧ w = w' := by
  rcases Int.lt_trichotomy x y with g | g | g
  · have e : Hid (v = -1) := Lib.hid (by rw [← h.out]; exact cmpI_lt g)
    go_enter Try.func60, Try.ntmps60
    go_wp2_with (first | (go_at_call 74; refine (nan_is _ _).mono ?_; rintro e w1 ⟨rfl, rfl⟩))
    go_ret
    exact ⟨ret_int e.out.symm, rfl⟩
  · have e : Hid (v = 0) := Lib.hid (by rw [← h.out]; exact cmpI_eq g)
    subst g
    go_enter Try.func60, Try.ntmps60
    go_wp2_with (first | (go_at_call 74; refine (nan_is _ _).mono ?_; rintro e w1 ⟨rfl, rfl⟩))
    go_ret
    exact ⟨ret_int e.out.symm, rfl⟩
  · have e : Hid (v = 1) := Lib.hid (by rw [← h.out]; exact cmpI_gt g)
    have g2 : decide (x < y) = false := decide_eq_false (by omega)
    go_enter Try.func60, Try.ntmps60
    go_wp2_with (first | (go_at_call 74; refine (nan_is _ _).mono ?_; rintro e w1 ⟨rfl, rfl⟩))
    go_ret
    exact ⟨ret_int e.out.symm, rfl⟩

set_option maxHeartbeats 1000000 in
theorem or_is (b c : Nat) (x y v : Int) (w : World) (h : Hid ((if x = 0 then y else x) = v)) (c1 : w.cell? ⟨b, 0, none⟩ = some (.int .i64 x)) (c2 : w.cell? ⟨b, 1, none⟩ = some (.int .i64 y)) :
    Calls Try.prog 59 #[.slice (some ⟨b, 0, none⟩) 2 c] w fun e w' => e = .returned (.int .i64 v) ∧ w = w' := by
  go_enter Try.func59, Try.ntmps59
  go_wp2
  go_loopw [8] (fun i wr => wr = w ∧ ((i = .int .i64 0) ∨ (x = 0 ∧ i = .int .i64 1) ∨ (x = 0 ∧ y = 0 ∧ i = .int .i64 2))) (fun i _ => 2 - (intOf i).toNat)
  case atStart => exact ⟨rfl, .inl rfl⟩
  case round =>
    obtain ⟨rfl, rfl | ⟨hx, rfl⟩ | ⟨hx, hy, rfl⟩⟩ := hrel
    · by_cases hx : x = 0
      · go_wp2
        go_roundw
        case rel => exact ⟨trivial, .inr (.inl ⟨hx, by go_num⟩)⟩
        case measure => simp [intOf]
      · go_wp2
        go_ret
        exact ⟨ret_int (by rw [← h.out, if_neg hx]), rfl⟩
    · by_cases hy : y = 0
      · go_wp2
        go_roundw
        case rel => exact ⟨trivial, .inr (.inr ⟨hx, hy, by go_num⟩)⟩
        case measure => simp [intOf]
      · go_wp2
        go_ret
        exact ⟨ret_int (by rw [← h.out, if_pos hx]), rfl⟩
    · go_wp2
      go_ret
      exact ⟨ret_int (by rw [← h.out, if_pos hx, hy]), rfl⟩
end Go.Proofs.Ytnpadblfpaiofaa
