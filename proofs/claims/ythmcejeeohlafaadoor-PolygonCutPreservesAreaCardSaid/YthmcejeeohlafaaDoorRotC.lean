/- Contracts of package rotation: Compose, Offset, RotateQuarter, RotatePoint. Condition where they come to CosSin: the table lies as the program's text lays it. -/
import Derived.Test.YthmcejeeohlafaaDoorRotB
namespace Go.Proofs.YthmcejeeohlafaaDoor.Rot
open Go.ChangeShapes Go.WideShapes Go.ChangeAt Go.RowKit

theorem vd_bd {X Y N : Int} (h : vdB X Y N = true) : (0 ≤ N ∧ N ≤ 3) ∧ (-274625 ≤ X ∧ X ≤ 274625) ∧ (-274625 ≤ Y ∧ Y ≤ 274625) := by
  simp only [vdB, Bool.and_eq_true, decide_eq_true_eq] at h
  obtain ⟨h0, h3, hx, hy, _⟩ := h
  obtain ⟨b1, b2⟩ := p65_bd N h0 h3
  have := within_yes hx
  have := within_yes hy
  omega

theorem ret_agg3 {a b c d e f : Int} (h : a = b) (g : c = d) (i : e = f) : Ending.returned (.agg #[.int .i64 a, .int .i64 c, .int .i64 e]) = .returned (.agg #[.int .i64 b, .int .i64 d, .int .i64 f]) := by rw [h, g, i]
theorem ret_agg2 {a b c d : Int} (h : a = b) (g : c = d) : Ending.returned (.agg #[.int .i64 a, .int .i64 c]) = .returned (.agg #[.int .i64 b, .int .i64 d]) := by rw [h, g]

theorem unit_div (X N n : Int) (h0 : 0 ≤ N) (h3 : N ≤ 3) : (n * 4394000 * X).tdiv (p65 N) = n * 16 * p65 (3 - N) * X := by
  have e : n * 4394000 * X = p65 N * (n * 16 * p65 (3 - N) * X) := by
    have : N = 0 ∨ N = 1 ∨ N = 2 ∨ N = 3 := by omega
    rcases this with rfl | rfl | rfl | rfl <;> simp [p65] <;> grind
  rw [e]
  exact Int.mul_tdiv_cancel_left _ (by have := p65_bd N h0 h3; omega)

theorem mul_bd2 {x c B C : Int} (hx : -B ≤ x ∧ x ≤ B) (hc : -C ≤ c ∧ c ≤ C) : -(C * B) ≤ x * c ∧ x * c ≤ C * B := by
  obtain ⟨x1, x2⟩ := hx
  obtain ⟨c1, c2⟩ := hc
  have a1 : 0 ≤ (B - x) * (C - c) := Int.mul_nonneg (by omega) (by omega)
  have a2 : 0 ≤ (B - x) * (C + c) := Int.mul_nonneg (by omega) (by omega)
  have a3 : 0 ≤ (B + x) * (C - c) := Int.mul_nonneg (by omega) (by omega)
  have a4 : 0 ≤ (B + x) * (C + c) := Int.mul_nonneg (by omega) (by omega)
  simp only [Int.add_mul, Int.sub_mul, Int.mul_add, Int.mul_sub] at a1 a2 a3 a4
  have e1 := Int.mul_comm B C
  have e2 := Int.mul_comm x C
  omega

theorem turn_uv (x y q U V : Int) (w : World) (hT : Tab w) (hx : -1000000000000 ≤ x ∧ x ≤ 1000000000000) (hy : -1000000000000 ≤ y ∧ y ≤ 1000000000000) (h : -9223372036854775808 ≤ q ∧ q ≤ 9223372036854775807)
    (hU : x * (csF (q % 36).toNat).1 - y * (csF (q % 36).toNat).2 = U) (hV : x * (csF (q % 36).toNat).2 + y * (csF (q % 36).toNat).1 = V) :
    Calls Tryd.prog 49 #[.int .i64 x, .int .i64 y, .int .i64 q] w fun e w' => e = .returned (.tuple #[.int .i64 U, .int .i64 V]) ∧ Below w.heap.size w w' := by
  subst hU hV
  exact turn_any x y q w hT hx hy h

set_option maxHeartbeats 400000 in
theorem rotate_ok (x y q A B U V : Int) (w : World) (hT : Tab w) (hx : -1000000000000 ≤ x ∧ x ≤ 1000000000000) (hy : -1000000000000 ≤ y ∧ y ≤ 1000000000000) (hq : -9223372036854775808 ≤ q ∧ q ≤ 9223372036854775807)
    (hU : Hid (x * (csF (q % 36).toNat).1 - y * (csF (q % 36).toNat).2 = U)) (hV : Hid (x * (csF (q % 36).toNat).2 + y * (csF (q % 36).toNat).1 = V)) (g1 : Hid (U = 65 * A)) (g2 : Hid (V = 65 * B)) (hA : -1000000000000 ≤ A ∧ A ≤ 1000000000000) (hB : -1000000000000 ≤ B ∧ B ≤ 1000000000000) :
    Calls Tryd.prog 36 #[.agg #[.int .i64 x, .int .i64 y], .int .i64 q] w fun e w' => e = .returned (.tuple #[.agg #[.int .i64 A, .int .i64 B], .bool true]) ∧ Below w.heap.size w w' := by
  obtain ⟨a1, a2⟩ := hA
  obtain ⟨a3, a4⟩ := hB
  have m1 : U.tmod 65 = 0 := by rw [g1.out]; exact Int.mul_tmod_right _ _
  have m2 : V.tmod 65 = 0 := by rw [g2.out]; exact Int.mul_tmod_right _ _
  have d1 : U.tdiv 65 = A := by rw [g1.out]; exact Int.mul_tdiv_cancel_left _ (by decide)
  have d2 : V.tdiv 65 = B := by rw [g2.out]; exact Int.mul_tdiv_cancel_left _ (by decide)
  go_enter Tryd.func36, Tryd.ntmps36
  go_wp2_with ((go_at_call 49; refine (turn_uv x y q U V _ (Tab.alloc (Tab.alloc hT _) _) hx hy hq hU.out hV.out).mono ?_; rintro e w1 ⟨rfl, hb⟩; obtain ⟨hc, hf⟩ := bcell hb; have hz : w.heap.size + 1 < w1.heap.size := (by have := hb.size; simp at this; omega); have hy : w.heap.size < w1.heap.size := (by omega); have hB : Below w.heap.size w w1 := (((Below.refl _ _).alloc (Nat.le_refl _) _).alloc (by simp) _).trans (hb.mono (by simp; omega))))
  refine bodyPost_ret (v := .tuple #[.agg #[.int .i64 A, .int .i64 B], .bool true]) (by simp [results, Tryd.results36, go_sem, hc]) rfl ?_
  exact ⟨rfl, by go_grown⟩

set_option maxHeartbeats 400000 in
theorem rotate_no (x y q U V : Int) (w : World) (hT : Tab w) (hx : -1000000000000 ≤ x ∧ x ≤ 1000000000000) (hy : -1000000000000 ≤ y ∧ y ≤ 1000000000000) (hq : -9223372036854775808 ≤ q ∧ q ≤ 9223372036854775807)
    (hU : Hid (x * (csF (q % 36).toNat).1 - y * (csF (q % 36).toNat).2 = U)) (hV : Hid (x * (csF (q % 36).toNat).2 + y * (csF (q % 36).toNat).1 = V)) (g : ¬ (U % 65 = 0 ∧ V % 65 = 0)) :
    Calls Tryd.prog 36 #[.agg #[.int .i64 x, .int .i64 y], .int .i64 q] w fun e w' => e = .returned (.tuple #[.agg #[.int .i64 0, .int .i64 0], .bool false]) ∧ Below w.heap.size w w' := by
  have tm : ∀ z : Int, ¬ z % 65 = 0 → ¬ z.tmod 65 = 0 := fun z hz h0 => hz (Int.emod_eq_zero_of_dvd (Int.dvd_of_tmod_eq_zero h0))
  by_cases m1 : U % 65 = 0
  · have m2 : (V.tmod 65 == 0) = false := by simpa using tm V (fun h => g ⟨m1, h⟩)
    have m1' : U.tmod 65 = 0 := Int.tmod_eq_zero_of_dvd (Int.dvd_of_emod_eq_zero m1)
    clear tm g m1
    go_enter Tryd.func36, Tryd.ntmps36
    go_wp2_with ((go_at_call 49; refine (turn_uv x y q U V _ (Tab.alloc (Tab.alloc hT _) _) hx hy hq hU.out hV.out).mono ?_; rintro e w1 ⟨rfl, hb⟩; obtain ⟨hc, hf⟩ := bcell hb; have hz : w.heap.size + 1 < w1.heap.size := (by have := hb.size; simp at this; omega); have hy : w.heap.size < w1.heap.size := (by omega); have hB : Below w.heap.size w w1 := (((Below.refl _ _).alloc (Nat.le_refl _) _).alloc (by simp) _).trans (hb.mono (by simp; omega))))
    refine bodyPost_ret (v := .tuple #[.agg #[.int .i64 0, .int .i64 0], .bool false]) (by simp [results, Tryd.results36, go_sem, hc]) rfl ?_
    exact ⟨rfl, by go_grown⟩
  · have m1' : (U.tmod 65 != 0) = true := by simpa using tm U m1
    clear tm g m1
    go_enter Tryd.func36, Tryd.ntmps36
    go_wp2_with ((go_at_call 49; refine (turn_uv x y q U V _ (Tab.alloc (Tab.alloc hT _) _) hx hy hq hU.out hV.out).mono ?_; rintro e w1 ⟨rfl, hb⟩; obtain ⟨hc, hf⟩ := bcell hb; have hz : w.heap.size + 1 < w1.heap.size := (by have := hb.size; simp at this; omega); have hy : w.heap.size < w1.heap.size := (by omega); have hB : Below w.heap.size w w1 := (((Below.refl _ _).alloc (Nat.le_refl _) _).alloc (by simp) _).trans (hb.mono (by simp; omega))))
    refine bodyPost_ret (v := .tuple #[.agg #[.int .i64 0, .int .i64 0], .bool false]) (by simp [results, Tryd.results36, go_sem, hc]) rfl ?_
    exact ⟨rfl, by go_grown⟩
end Go.Proofs.YthmcejeeohlafaaDoor.Rot
