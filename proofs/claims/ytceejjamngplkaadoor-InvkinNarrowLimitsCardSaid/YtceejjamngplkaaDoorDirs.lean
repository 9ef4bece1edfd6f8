/- Directions made by composing: what the laws on directions share. -/
import Derived.Test.YtceejjamngplkaaDoorLaw
namespace Go.Proofs.YtceejjamngplkaaDoor
open Go.ChangeShapes Go.WideShapes Go.ChangeAt Go.RowKit

theorem p65_two (N : Int) (h0 : 0 ≤ N) (h3 : N ≤ 3) : p65 (2 * N) = p65 N * p65 N := by
  have : N = 0 ∨ N = 1 ∨ N = 2 ∨ N = 3 := by omega
  rcases this with rfl | rfl | rfl | rfl <;> decide
theorem vd_of (X Y N : Int) (h0 : 0 ≤ N) (h3 : N ≤ 3) (h : X * X + Y * Y = p65 (2 * N)) : vdB X Y N = true := by
  obtain ⟨b1, b2⟩ := p65_bd N h0 h3
  have hx := sq_nnR X
  have hy := sq_nnR Y
  have e := h.trans (p65_two N h0 h3)
  have h1 := sq_le (c := X) (B := p65 N) (by omega) (by omega)
  have h2 := sq_le (c := Y) (B := p65 N) (by omega) (by omega)
  simp [vdB, withinB, h0, h3, h, h1.1, h1.2, h2.1, h2.2]
theorem vd_len {X Y N : Int} (h : vdB X Y N = true) : X * X + Y * Y = p65 (2 * N) := by
  simp only [vdB, Bool.and_eq_true, beq_iff_eq] at h
  exact h.2.2.2.2
theorem compose_is (X Y N q U V : Int) (w : World) (hT : Tab w) (h : vdB X Y N = true) (hN : N ≤ 2) (hq : -9223372036854775808 ≤ q ∧ q ≤ 9223372036854775807)
    (hU : Hid (X * (csF (q % 36).toNat).1 - Y * (csF (q % 36).toNat).2 = U)) (hV : Hid (X * (csF (q % 36).toNat).2 + Y * (csF (q % 36).toNat).1 = V)) :
    Calls Tryd.prog 44 #[.agg #[.int .i64 X, .int .i64 Y, .int .i64 N], .int .i64 q] w fun e w' => e = .returned (.agg #[.int .i64 U, .int .i64 V, .int .i64 (N + 1)]) ∧ Below w.heap.size w w' := by
  have := compose_ok X Y N q w hT h hN hq
  rw [hU.out, hV.out] at this
  exact this
/-- One rotation more keeps a direction valid. -/
theorem vd_step (X Y N c s : Int) (h : vdB X Y N = true) (hN : N ≤ 2) (hcs : c * c + s * s = 4225) : vdB (X * c - Y * s) (X * s + Y * c) (N + 1) = true := by
  have hb := vd_bd h
  have hl := vd_len h
  refine vd_of _ _ _ (by omega) (by omega) ?_
  have e : (X * c - Y * s) * (X * c - Y * s) + (X * s + Y * c) * (X * s + Y * c) = (X * X + Y * Y) * (c * c + s * s) := by grind
  rw [e, hl, hcs]
  have : N = 0 ∨ N = 1 ∨ N = 2 := by omega
  rcases this with rfl | rfl | rfl <;> decide
theorem inv_facts : ∀ k, k < 36 → (-17 ≤ invF (k : Nat) ∧ invF (k : Nat) ≤ 18) ∧ csF (invF (k : Nat) % 36).toNat = ((csF k).1, -(csF k).2) ∧ (invF (invF (k : Nat) % 36) - k) % 36 = 0 ∧ -17 ≤ invF (invF (k : Nat) % 36) ∧ invF (invF (k : Nat) % 36) ≤ 18 := by decide +kernel
end Go.Proofs.YtceejjamngplkaaDoor
