/- Contracts of package rotation: Compose, Offset, RotateQuarter, RotatePoint. Condition where they come to CosSin: the table lies as the program's text lays it. -/
import Derived.Test.YtceejjamngplkaaDoorRotB
namespace Go.Proofs.YtceejjamngplkaaDoor
open Go.ChangeShapes Go.WideShapes Go.ChangeAt Go.RowKit

theorem vd_bd {X Y N : Int} (h : vdB X Y N = true) : (0 ≤ N ∧ N ≤ 3) ∧ (-274625 ≤ X ∧ X ≤ 274625) ∧ (-274625 ≤ Y ∧ Y ≤ 274625) := by
  simp only [vdB, Bool.and_eq_true, decide_eq_true_eq] at h
  obtain ⟨h0, h3, hx, hy, _⟩ := h
  obtain ⟨b1, b2⟩ := p65_bd N h0 h3
  have := within_yes hx
  have := within_yes hy
  omega

set_option maxHeartbeats 400000 in
theorem compose_bad (X Y N q : Int) (w : World) (h : vdB X Y N = false) :
    Calls Tryd.prog 44 #[.agg #[.int .i64 X, .int .i64 Y, .int .i64 N], .int .i64 q] w fun e w' => e = .returned (.agg #[.int .i64 0, .int .i64 0, .int .i64 0]) ∧ Below w.heap.size w w' := by
  go_enter Tryd.func44, Tryd.ntmps44
  go_wp2_with ((go_at_call 47; refine (valid_any X Y N _).mono ?_; rintro e w1 ⟨rfl, hb⟩; obtain ⟨hc, hf⟩ := bcellR hb; have hz : w.heap.size + 1 < w1.heap.size := (by have := hb.size; simp at this; omega); have hy : w.heap.size < w1.heap.size := (by omega); have hB : Below w.heap.size w w1 := (((Below.refl _ _).alloc (Nat.le_refl _) _).alloc (by simp) _).trans (hb.mono (by simp; omega))))
  refine bodyPost_ret (v := .agg #[.int .i64 0, .int .i64 0, .int .i64 0]) (by simp [results, Tryd.results44, go_sem, hc]) rfl ?_
  exact ⟨rfl, by go_grown⟩

set_option maxHeartbeats 400000 in
theorem compose_end (X Y q : Int) (w : World) (h : vdB X Y 3 = true) :
    Calls Tryd.prog 44 #[.agg #[.int .i64 X, .int .i64 Y, .int .i64 3], .int .i64 q] w fun e w' => e = .returned (.agg #[.int .i64 0, .int .i64 0, .int .i64 0]) ∧ Below w.heap.size w w' := by
  go_enter Tryd.func44, Tryd.ntmps44
  go_wp2_with ((go_at_call 47; refine (valid_any X Y 3 _).mono ?_; rintro e w1 ⟨rfl, hb⟩; obtain ⟨hc, hf⟩ := bcellR hb; have hz : w.heap.size + 1 < w1.heap.size := (by have := hb.size; simp at this; omega); have hy : w.heap.size < w1.heap.size := (by omega); have hB : Below w.heap.size w w1 := (((Below.refl _ _).alloc (Nat.le_refl _) _).alloc (by simp) _).trans (hb.mono (by simp; omega))))
  refine bodyPost_ret (v := .agg #[.int .i64 0, .int .i64 0, .int .i64 0]) (by simp [results, Tryd.results44, go_sem, hc]) rfl ?_
  exact ⟨rfl, by go_grown⟩

theorem ret_agg3 {a b c d e f : Int} (h : a = b) (g : c = d) (i : e = f) : Ending.returned (.agg #[.int .i64 a, .int .i64 c, .int .i64 e]) = .returned (.agg #[.int .i64 b, .int .i64 d, .int .i64 f]) := by rw [h, g, i]
theorem ret_agg2R {a b c d : Int} (h : a = b) (g : c = d) : Ending.returned (.agg #[.int .i64 a, .int .i64 c]) = .returned (.agg #[.int .i64 b, .int .i64 d]) := by rw [h, g]

set_option maxHeartbeats 400000 in
theorem compose_ok (X Y N q : Int) (w : World) (hT : Tab w) (h : vdB X Y N = true) (hN : N ≤ 2) (hq : -9223372036854775808 ≤ q ∧ q ≤ 9223372036854775807) :
    Calls Tryd.prog 44 #[.agg #[.int .i64 X, .int .i64 Y, .int .i64 N], .int .i64 q] w fun e w' => e = .returned (.agg #[.int .i64 (X * (csF (q % 36).toNat).1 - Y * (csF (q % 36).toNat).2), .int .i64 (X * (csF (q % 36).toNat).2 + Y * (csF (q % 36).toNat).1), .int .i64 (N + 1)]) ∧ Below w.heap.size w w' := by
  obtain ⟨⟨c0, c1⟩, ⟨c2, c3⟩, c4, c5⟩ := vd_bd h
  have n3 : (N == 3) = false := by simp; omega
  go_enter Tryd.func44, Tryd.ntmps44
  go_wp2_with (first | ((go_at_call 47; refine (valid_any X Y N _).mono ?_; rintro e w1 ⟨rfl, hb⟩; obtain ⟨hc, hf⟩ := bcellR hb; have hz : w.heap.size + 1 < w1.heap.size := (by have := hb.size; simp at this; omega); have hy : w.heap.size < w1.heap.size := (by omega); have hB : Below w.heap.size w w1 := (((Below.refl _ _).alloc (Nat.le_refl _) _).alloc (by simp) _).trans (hb.mono (by simp; omega)))) | ((go_at_call 54; refine (turn_any _ _ _ _ (Tab.below (Tab.alloc (Tab.alloc hT _) _) hb) (by omega) (by omega) hq).mono ?_; rintro e w2 ⟨rfl, hb2⟩; obtain ⟨hc2, hf2⟩ := bcellR hb2; have hz2 : w.heap.size + 1 < w2.heap.size := Nat.lt_of_lt_of_le hz hb2.size; have hy2 : w.heap.size < w2.heap.size := (by omega); have hB2 : Below w.heap.size w w2 := hB.trans (hb2.mono (by omega)))))
  refine bodyPost_ret (v := .agg #[.int .i64 (X * (csF (q % 36).toNat).1 - Y * (csF (q % 36).toNat).2), .int .i64 (X * (csF (q % 36).toNat).2 + Y * (csF (q % 36).toNat).1), .int .i64 (N + 1)]) (by simp [results, Tryd.results44, go_sem, hc, hc2, hz]) rfl ?_
  exact ⟨rfl, by go_grown⟩

theorem unit_div (X N n : Int) (h0 : 0 ≤ N) (h3 : N ≤ 3) : (n * 4394000 * X).tdiv (p65 N) = n * 16 * p65 (3 - N) * X := by
  have e : n * 4394000 * X = p65 N * (n * 16 * p65 (3 - N) * X) := by
    have : N = 0 ∨ N = 1 ∨ N = 2 ∨ N = 3 := by omega
    rcases this with rfl | rfl | rfl | rfl <;> simp [p65] <;> grind
  rw [e]
  exact Int.mul_tdiv_cancel_left _ (by have := p65_bd N h0 h3; omega)

theorem mul_bd2 {x c B C : Int} (hx : -B ≤ x ∧ x ≤ B) (hc : -C ≤ c ∧ c ≤ C) : -(C * B) ≤ x * c ∧ x * c ≤ C * B := by
  obtain ⟨x1, x2⟩ := hx
  obtain ⟨c1, c2⟩ := hc
  have a1 : 0 ≤ (B - x) * (C - c) := Int.mul_nonneg (by omega) (by omega)
  have a2 : 0 ≤ (B - x) * (C + c) := Int.mul_nonneg (by omega) (by omega)
  have a3 : 0 ≤ (B + x) * (C - c) := Int.mul_nonneg (by omega) (by omega)
  have a4 : 0 ≤ (B + x) * (C + c) := Int.mul_nonneg (by omega) (by omega)
  simp only [Int.add_mul, Int.sub_mul, Int.mul_add, Int.mul_sub] at a1 a2 a3 a4
  have e1 := Int.mul_comm B C
  have e2 := Int.mul_comm x C
  omega

set_option maxHeartbeats 400000 in
theorem offset_ok (X Y N n : Int) (w : World) (h : vdB X Y N = true) (hn : -200 ≤ n ∧ n ≤ 200) :
    Calls Tryd.prog 35 #[.agg #[.int .i64 X, .int .i64 Y, .int .i64 N], .int .i64 n] w fun e w' => e = .returned (.agg #[.int .i64 (n * 16 * p65 (3 - N) * X), .int .i64 (n * 16 * p65 (3 - N) * Y)]) ∧ Below w.heap.size w w' := by
  obtain ⟨⟨c0, c1⟩, ⟨c2, c3⟩, c4, c5⟩ := vd_bd h
  obtain ⟨b1, b2⟩ := p65_bd N c0 c1
  have U1 := Lib.hid (unit_div X N n c0 c1)
  have U2 := Lib.hid (unit_div Y N n c0 c1)
  obtain ⟨m1, m2⟩ := mul_bd2 (x := n * 4394000) (c := X) (B := 878800000) (C := 274625) (by omega) ⟨c2, c3⟩
  obtain ⟨m3, m4⟩ := mul_bd2 (x := n * 4394000) (c := Y) (B := 878800000) (C := 274625) (by omega) ⟨c4, c5⟩
  go_enter Tryd.func35, Tryd.ntmps35
  go_wp2_with (first | ((go_at_call 47; refine (valid_any X Y N _).mono ?_; rintro e w1 ⟨rfl, hb⟩; obtain ⟨hc, hf⟩ := bcellR hb; have hz : w.heap.size + 1 < w1.heap.size := (by have := hb.size; simp at this; omega); have hy : w.heap.size < w1.heap.size := (by omega); have hB : Below w.heap.size w w1 := (((Below.refl _ _).alloc (Nat.le_refl _) _).alloc (by simp) _).trans (hb.mono (by simp; omega)))) | (go_at_call 48; refine (denom_any _).mono ?_; rintro e w' ⟨rfl, rfl⟩) | (go_at_call 56; refine (power_any _ _ (by omega) (by omega)).mono ?_; rintro e w' ⟨rfl, rfl⟩))
  go_region
  go_wp2
  refine bodyPost_ret (v := .agg #[.int .i64 ((n * 4394000 * X).tdiv (p65 N)), .int .i64 ((n * 4394000 * Y).tdiv (p65 N))]) (by simp [results, Tryd.results35, go_sem, hc]) rfl ?_
  exact ⟨ret_agg2R U1.out U2.out, by go_grown⟩

theorem turn_uv (x y q U V : Int) (w : World) (hT : Tab w) (hx : -1000000000000 ≤ x ∧ x ≤ 1000000000000) (hy : -1000000000000 ≤ y ∧ y ≤ 1000000000000) (h : -9223372036854775808 ≤ q ∧ q ≤ 9223372036854775807)
    (hU : x * (csF (q % 36).toNat).1 - y * (csF (q % 36).toNat).2 = U) (hV : x * (csF (q % 36).toNat).2 + y * (csF (q % 36).toNat).1 = V) :
    Calls Tryd.prog 54 #[.int .i64 x, .int .i64 y, .int .i64 q] w fun e w' => e = .returned (.tuple #[.int .i64 U, .int .i64 V]) ∧ Below w.heap.size w w' := by
  subst hU hV
  exact turn_any x y q w hT hx hy h

end Go.Proofs.YtceejjamngplkaaDoor
