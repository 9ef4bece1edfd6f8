/- What the walks of the laws of layer 1 share. -/
import Derived.Test.YtceejjamngplkaaDoorRotC
import Derived.Test.YtceejjamngplkaaDoorBase
namespace Go.Proofs.YtceejjamngplkaaDoor
open Go.ChangeShapes Go.WideShapes Go.ChangeAt Go.RowKit

theorem max4 (a b c d : Int) (ha : a ≤ 65) (hb : b ≤ 65) (hc : c ≤ 65) (hd : d ≤ 65) : ∃ m, m ≤ 65 ∧ ∀ w : World, (Builtin.max_ #[3, 3, 3, 3] 3 #[.int .i64 a, .int .i64 b, .int .i64 c, .int .i64 d]).run Tryd.prog w = .ok (.int .i64 m) w := by
  refine ⟨_, ?_, fun w => by simp [Builtin.max_, Builtin.max2]; rfl⟩
  split <;> split <;> split <;> omega
theorem min4 (a b c d : Int) (ha : -65 ≤ a) (hb : -65 ≤ b) (hc : -65 ≤ c) (hd : -65 ≤ d) : ∃ m, -65 ≤ m ∧ ∀ w : World, (Builtin.min_ #[3, 3, 3, 3] 3 #[.int .i64 a, .int .i64 b, .int .i64 c, .int .i64 d]).run Tryd.prog w = .ok (.int .i64 m) w := by
  refine ⟨_, ?_, fun w => by simp [Builtin.min_, Builtin.min2]; rfl⟩
  split <;> split <;> split <;> omega

theorem cossin_is (q c s : Int) (w : World) (hT : Tab w) (h : -9223372036854775808 ≤ q ∧ q ≤ 9223372036854775807) (hc : Hid (csF (q % 36).toNat = (c, s))) :
    Calls Tryd.prog 58 #[.int .i64 q] w fun e w' => e = .returned (.tuple #[.int .i64 c, .int .i64 s]) ∧ Below w.heap.size w w' := by
  have := cossin_any q w hT h
  rw [hc.out] at this
  exact this

theorem wf8 {a : Int} (h : (Lit.int .i8 a).wf = true) : -128 ≤ a ∧ a ≤ 127 := by simp [Lit.wf, IntKind.min, IntKind.max, IntKind.bits, IntKind.signed] at h; omega
theorem wf16 {a : Int} (h : (Lit.int .i16 a).wf = true) : -32768 ≤ a ∧ a ≤ 32767 := by simp [Lit.wf, IntKind.min, IntKind.max, IntKind.bits, IntKind.signed] at h; omega
theorem wf32 {a : Int} (h : (Lit.int .i32 a).wf = true) : -2147483648 ≤ a ∧ a ≤ 2147483647 := by simp [Lit.wf, IntKind.min, IntKind.max, IntKind.bits, IntKind.signed] at h; omega
theorem wf64 {a : Int} (h : (Lit.int .i64 a).wf = true) : -9223372036854775808 ≤ a ∧ a ≤ 9223372036854775807 := by simp [Lit.wf, IntKind.min, IntKind.max, IntKind.bits, IntKind.signed] at h; omega
theorem len65 : ∀ k, k < 36 → (csF k).1 * (csF k).1 + (csF k).2 * (csF k).2 = 4225 := by decide +kernel
theorem sq_le {c B : Int} (hB : 0 ≤ B) (h : c * c ≤ B * B) : -B ≤ c ∧ c ≤ B := by
  constructor
  · false_or_by_contra
    have := Int.mul_nonneg (show 0 ≤ -c - (B + 1) by omega) (show 0 ≤ -c + (B + 1) by omega)
    grind
  · false_or_by_contra
    have := Int.mul_nonneg (show 0 ≤ c - (B + 1) by omega) (show 0 ≤ c + (B + 1) by omega)
    grind
theorem sq_nnR (s : Int) : 0 ≤ s * s := by
  rcases Int.le_total 0 s with hs | hs
  · exact Int.mul_nonneg hs hs
  · have := Int.mul_nonneg (show 0 ≤ -s by omega) (show 0 ≤ -s by omega)
    rwa [Int.neg_mul_neg] at this
end Go.Proofs.YtceejjamngplkaaDoor
