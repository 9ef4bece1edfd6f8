/- Contracts of package rotation over directions and points: ValidDirection, Compose, Offset, RotateQuarter, RotatePoint. Condition where they come to CosSin: the table lies as the program's text lays it. -/
import Derived.Test.YtceejjamngplkaaDoorRotA
namespace Go.Proofs.YtceejjamngplkaaDoor
open Go.ChangeShapes Go.WideShapes Go.ChangeAt Go.RowKit

def vdB (X Y N : Int) : Bool := decide (0 ≤ N) && (decide (N ≤ 3) && (withinB X (p65 N) && (withinB Y (p65 N) && (X * X + Y * Y == p65 (2 * N)))))

theorem p65_bd (n : Int) (h0 : 0 ≤ n) (h : n ≤ 3) : 1 ≤ p65 n ∧ p65 n ≤ 274625 := by
  have : n = 0 ∨ n = 1 ∨ n = 2 ∨ n = 3 := by omega
  rcases this with rfl | rfl | rfl | rfl <;> decide
theorem sq_bd {x B : Int} (hx : -B ≤ x ∧ x ≤ B) : 0 ≤ x * x ∧ x * x ≤ B * B := by
  obtain ⟨x1, x2⟩ := hx
  have a1 : 0 ≤ (B - x) * (B + x) := Int.mul_nonneg (by omega) (by omega)
  simp only [Int.mul_add, Int.sub_mul] at a1
  have e1 := Int.mul_comm B x
  refine ⟨?_, by omega⟩
  by_cases h : 0 ≤ x
  · exact Int.mul_nonneg h h
  · have := Int.mul_nonneg (show 0 ≤ -x by omega) (show 0 ≤ -x by omega)
    rwa [Int.neg_mul_neg] at this
theorem within_yes {x m : Int} (h : withinB x m = true) : -m ≤ x ∧ x ≤ m := by simpa [withinB] using h

theorem same_back {P : Program} {f : FuncId} {args : Array Value} {w : World} {v : Value} (h : Calls P f args w fun e w' => e = .returned v ∧ w = w') : Calls P f args w fun e w' => e = .returned v ∧ w' = w :=
  h.mono fun _ _ ⟨a, b⟩ => ⟨a, b.symm⟩

set_option maxHeartbeats 400000 in
theorem valid_any (X Y N : Int) (w : World) :
    Calls Tryd.prog 47 #[.agg #[.int .i64 X, .int .i64 Y, .int .i64 N]] w fun e w' => e = .returned (.bool (vdB X Y N)) ∧ Below w.heap.size w w' := by
  by_cases h1 : 0 ≤ N
  · by_cases h2 : N ≤ 3
    · obtain ⟨b1, b2⟩ := p65_bd N h1 h2
      have n1 : ¬ N < 0 := by omega
      have n2 : ¬ 3 < N := by omega
      by_cases h3 : withinB X (p65 N) = true
      · by_cases h4 : withinB Y (p65 N) = true
        · have H : Hid (vdB X Y N = (X * X + Y * Y == p65 (2 * N))) := Lib.hid (by simp [vdB, h1, h2, h3, h4])
          obtain ⟨c1, c2⟩ := within_yes h3
          obtain ⟨c3, c4⟩ := within_yes h4
          obtain ⟨d1, d2⟩ := sq_bd (x := X) (B := 274625) (by omega)
          obtain ⟨d3, d4⟩ := sq_bd (x := Y) (B := 274625) (by omega)
          have e1 : IntKind.i64.wrap (X * X) = X * X := IntWalk.i64_in _ (by omega)
          have e2 : IntKind.i64.wrap (Y * Y) = Y * Y := IntWalk.i64_in _ (by omega)
          have e3 : IntKind.i64.wrap (X * X + Y * Y) = X * X + Y * Y := IntWalk.i64_in _ (by omega)
          have e4 : IntKind.i64.wrap (2 * N) = 2 * N := IntWalk.i64_in _ (by omega)
          have g1 : 0 ≤ 2 * N := by omega
          have g2 : 2 * N ≤ 9 := by omega
          go_enter Tryd.func47, Tryd.ntmps47
          go_wp2_with (first | (go_at_call 48; refine (denom_any _).mono ?_; rintro e w' ⟨rfl, rfl⟩) | (go_at_call 56; refine (power_any _ _ (by omega) (by omega)).mono ?_; rintro e w' ⟨rfl, rfl⟩) | (go_at_call 55; refine (within_any _ _ _ (by omega) (by omega)).mono ?_; rintro e w' ⟨rfl, rfl⟩))
          go_quiet ((go_at_call 56; exact Calls.quiet_of_same (same_back (power_any _ _ g1 g2))))
          clear e1 e2 e3 e4
          go_wp2
          go_ret
          exact ⟨ret_bool H.out.symm, below_drewN ((Below.refl _ _).alloc (Nat.le_refl _) _) _⟩
        · have H : Hid (vdB X Y N = false) := Lib.hid (by simp [vdB, h1, h2, h3, h4])
          have h4' : withinB Y (p65 N) = false := by simpa using h4
          go_enter Tryd.func47, Tryd.ntmps47
          go_wp2_with (first | (go_at_call 48; refine (denom_any _).mono ?_; rintro e w' ⟨rfl, rfl⟩) | (go_at_call 56; refine (power_any _ _ (by omega) (by omega)).mono ?_; rintro e w' ⟨rfl, rfl⟩) | (go_at_call 55; refine (within_any _ _ _ (by omega) (by omega)).mono ?_; rintro e w' ⟨rfl, rfl⟩))
          go_ret
          exact ⟨ret_bool H.out.symm, (Below.refl _ _).alloc (Nat.le_refl _) _⟩
      · have H : Hid (vdB X Y N = false) := Lib.hid (by simp [vdB, h1, h2, h3])
        have h3' : withinB X (p65 N) = false := by simpa using h3
        go_enter Tryd.func47, Tryd.ntmps47
        go_wp2_with (first | (go_at_call 48; refine (denom_any _).mono ?_; rintro e w' ⟨rfl, rfl⟩) | (go_at_call 56; refine (power_any _ _ (by omega) (by omega)).mono ?_; rintro e w' ⟨rfl, rfl⟩) | (go_at_call 55; refine (within_any _ _ _ (by omega) (by omega)).mono ?_; rintro e w' ⟨rfl, rfl⟩))
        go_ret
        exact ⟨ret_bool H.out.symm, (Below.refl _ _).alloc (Nat.le_refl _) _⟩
    · have H : Hid (vdB X Y N = false) := Lib.hid (by simp [vdB, h1, h2])
      go_enter Tryd.func47, Tryd.ntmps47
      go_wp2
      go_ret
      exact ⟨ret_bool H.out.symm, (Below.refl _ _).alloc (Nat.le_refl _) _⟩
  · have H : Hid (vdB X Y N = false) := Lib.hid (by simp [vdB, h1])
    go_enter Tryd.func47, Tryd.ntmps47
    go_wp2
    go_ret
    exact ⟨ret_bool H.out.symm, (Below.refl _ _).alloc (Nat.le_refl _) _⟩
end Go.Proofs.YtceejjamngplkaaDoor
