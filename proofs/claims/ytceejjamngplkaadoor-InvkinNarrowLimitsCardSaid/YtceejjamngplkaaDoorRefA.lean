/- Contracts of the reference ambidexterref01: mod, Of, Opp, Pow, Right, Add. No condition on memory. -/
import Derived.Test.YtceejjamngplkaaDoorDirs
namespace Go.Proofs.YtceejjamngplkaaDoor
open Go.ChangeShapes Go.WideShapes Go.ChangeAt Go.RowKit

theorem mod_any (q : Int) (w : World) (h : -9223372036854775808 ≤ q ∧ q ≤ 9223372036854775807) :
    Calls Tryd.prog 59 #[.int .i64 q] w fun e w' => e = .returned (.int .i64 (q % 36)) ∧ w = w' := by
  have H := Lib.hid (wrap_tmod q h)
  obtain ⟨h1, h2⟩ := h
  go_enter Tryd.func59, Tryd.ntmps59
  go_wp2
  go_ret
  exact ⟨ret_int H.out, rfl⟩

theorem list_c (k : Nat) (h : k < 9) : [Value.int .i64 65, .int .i64 63, .int .i64 60, .int .i64 56, .int .i64 52, .int .i64 39, .int .i64 33, .int .i64 25, .int .i64 16][k]? = some (.int .i64 (crow k)) := by
  have : k = 0 ∨ k = 1 ∨ k = 2 ∨ k = 3 ∨ k = 4 ∨ k = 5 ∨ k = 6 ∨ k = 7 ∨ k = 8 := by omega
  rcases this with rfl | rfl | rfl | rfl | rfl | rfl | rfl | rfl | rfl <;> rfl
theorem list_s (k : Nat) (h : k < 9) : [Value.int .i64 0, .int .i64 16, .int .i64 25, .int .i64 33, .int .i64 39, .int .i64 52, .int .i64 56, .int .i64 60, .int .i64 63][k]? = some (.int .i64 (srow k)) := by
  have : k = 0 ∨ k = 1 ∨ k = 2 ∨ k = 3 ∨ k = 4 ∨ k = 5 ∨ k = 6 ∨ k = 7 ∨ k = 8 := by omega
  rcases this with rfl | rfl | rfl | rfl | rfl | rfl | rfl | rfl | rfl <;> rfl

set_option maxHeartbeats 400000 in
theorem of_any (q : Int) (w : World) (h : -9223372036854775808 ≤ q ∧ q ≤ 9223372036854775807) :
    Calls Tryd.prog 57 #[.int .i64 q] w fun e w' => e = .returned (.tuple #[.int .i64 (csF (q % 36).toNat).1, .int .i64 (csF (q % 36).toNat).2]) ∧ Below w.heap.size w w' := by
  obtain ⟨b1, b2, b3, b4⟩ := row_bd (q % 9).toNat
  have hz : 0 ≤ q % 36 / 9 := by omega
  have hz2 : q % 36 / 9 ≤ 3 := by omega
  have l1 := list_c (q % 9).toNat (by omega)
  have l2 := list_s (q % 9).toNat (by omega)
  go_enter Tryd.func57, Tryd.ntmps57
  go_wp2_with (go_at_call 59; refine (mod_any _ _ h).mono ?_; rintro e w' ⟨rfl, rfl⟩)
  go_loop [7, 8, 9] (fun c s i => ∃ k : Nat, (k : Int) ≤ q % 36 / 9 ∧ i = .int .i64 k ∧ c = .int .i64 (rotk k (crow (q % 9).toNat, srow (q % 9).toNat)).1 ∧ s = .int .i64 (rotk k (crow (q % 9).toNat, srow (q % 9).toNat)).2) (fun _ _ i => (q % 36 / 9 - intOf i).toNat)
  case atStart => exact ⟨0, by omega, rfl, rfl, rfl⟩
  case round =>
    obtain ⟨k, hk, rfl, rfl, rfl⟩ := hrel
    obtain ⟨⟨c1, c2⟩, c3, c4⟩ := rotk_bd k (crow (q % 9).toNat) (srow (q % 9).toNat) (by omega) (by omega)
    clear l1 l2
    by_cases hlt : (k : Int) < q % 36 / 9
    · go_wp2
      go_round
      case rel => exact ⟨k + 1, by omega, by go_num, rfl, rfl⟩
      case measure => simp [intOf]; omega
    · have e := Lib.hid (csF_of q k (by omega))
      go_wp2
      go_ret2
      exact ⟨ret_twoR (by rw [e.out]) (by rw [e.out]), ((Below.refl _ _).alloc (Nat.le_refl _) _).alloc (by simp) _⟩

theorem pow_any (n : Int) (w : World) (h0 : 0 ≤ n) (h : n ≤ 9) :
    Calls Tryd.prog 46 #[.int .i64 n] w fun e w' => e = .returned (.int .i64 (p65 n)) ∧ w = w' := by
  obtain ⟨m, rfl⟩ := Int.eq_ofNat_of_zero_le h0
  go_enter Tryd.func46, Tryd.ntmps46
  go_wp2
  go_loop [3, 4] (fun p i => ∃ k : Nat, k ≤ m ∧ i = .int .i64 k ∧ p = .int .i64 (65 ^ k)) (fun _ i => m - (intOf i).toNat)
  case atStart => exact ⟨0, by omega, rfl, rfl⟩
  case round =>
    obtain ⟨k, hk, rfl, rfl⟩ := hrel
    obtain ⟨c1, c2⟩ := pow_le k (by omega)
    by_cases hlt : k < m
    · go_wp2
      go_round
      case rel => exact ⟨k + 1, by omega, by go_num, by rw [Int.pow_succ, Int.mul_comm]⟩
      case measure => simp [intOf]; omega
    · have e : Hid (k = m) := Lib.hid (by omega)
      go_wp2
      go_ret
      exact ⟨ret_int (by unfold p65; rw [e.out]; rfl), rfl⟩

set_option maxHeartbeats 400000 in
theorem right_any (X Y N : Int) (w : World) :
    Calls Tryd.prog 33 #[.agg #[.int .i64 X, .int .i64 Y, .int .i64 N]] w fun e w' => e = .returned (.bool (vdB X Y N)) ∧ Below w.heap.size w w' := by
  by_cases h1 : 0 ≤ N
  · by_cases h2 : N ≤ 3
    · obtain ⟨b1, b2⟩ := p65_bd N h1 h2
      obtain ⟨p1, p2⟩ := sq_bd (x := p65 N) (B := 274625) (by omega)
      have e2 := p65_two N h1 h2
      by_cases h3 : -p65 N ≤ X
      · by_cases h3' : X ≤ p65 N
        · by_cases h4 : -p65 N ≤ Y
          · by_cases h4' : Y ≤ p65 N
            · obtain ⟨d1, d2⟩ := sq_bd (x := X) (B := 274625) (by omega)
              obtain ⟨d3, d4⟩ := sq_bd (x := Y) (B := 274625) (by omega)
              have H : Hid (vdB X Y N = (X * X + Y * Y == p65 N * p65 N)) := Lib.hid (by simp [vdB, withinB, h1, h2, h3, h3', h4, h4', e2])
              clear e2
              go_enter Tryd.func33, Tryd.ntmps33
              go_wp2_with (go_at_call 46; refine (pow_any _ _ (by omega) (by omega)).mono ?_; rintro e w' ⟨rfl, rfl⟩)
              go_ret
              exact ⟨ret_bool H.out.symm, (Below.refl _ _).alloc (Nat.le_refl _) _⟩
            · have H : Hid (vdB X Y N = false) := Lib.hid (by simp [vdB, withinB, h4'])
              clear e2
              go_enter Tryd.func33, Tryd.ntmps33
              go_wp2_with (go_at_call 46; refine (pow_any _ _ (by omega) (by omega)).mono ?_; rintro e w' ⟨rfl, rfl⟩)
              go_ret
              exact ⟨ret_bool H.out.symm, (Below.refl _ _).alloc (Nat.le_refl _) _⟩
          · have H : Hid (vdB X Y N = false) := Lib.hid (by simp [vdB, withinB, h4])
            clear e2
            go_enter Tryd.func33, Tryd.ntmps33
            go_wp2_with (go_at_call 46; refine (pow_any _ _ (by omega) (by omega)).mono ?_; rintro e w' ⟨rfl, rfl⟩)
            go_ret
            exact ⟨ret_bool H.out.symm, (Below.refl _ _).alloc (Nat.le_refl _) _⟩
        · have H : Hid (vdB X Y N = false) := Lib.hid (by simp [vdB, withinB, h3'])
          clear e2
          go_enter Tryd.func33, Tryd.ntmps33
          go_wp2_with (go_at_call 46; refine (pow_any _ _ (by omega) (by omega)).mono ?_; rintro e w' ⟨rfl, rfl⟩)
          go_ret
          exact ⟨ret_bool H.out.symm, (Below.refl _ _).alloc (Nat.le_refl _) _⟩
      · have H : Hid (vdB X Y N = false) := Lib.hid (by simp [vdB, withinB, h3])
        clear e2
        go_enter Tryd.func33, Tryd.ntmps33
        go_wp2_with (go_at_call 46; refine (pow_any _ _ (by omega) (by omega)).mono ?_; rintro e w' ⟨rfl, rfl⟩)
        go_ret
        exact ⟨ret_bool H.out.symm, (Below.refl _ _).alloc (Nat.le_refl _) _⟩
    · have H : Hid (vdB X Y N = false) := Lib.hid (by simp [vdB, h1, h2])
      go_enter Tryd.func33, Tryd.ntmps33
      go_wp2
      go_ret
      exact ⟨ret_bool H.out.symm, (Below.refl _ _).alloc (Nat.le_refl _) _⟩
  · have H : Hid (vdB X Y N = false) := Lib.hid (by simp [vdB, h1])
    go_enter Tryd.func33, Tryd.ntmps33
    go_wp2
    go_ret
    exact ⟨ret_bool H.out.symm, (Below.refl _ _).alloc (Nat.le_refl _) _⟩
end Go.Proofs.YtceejjamngplkaaDoor
