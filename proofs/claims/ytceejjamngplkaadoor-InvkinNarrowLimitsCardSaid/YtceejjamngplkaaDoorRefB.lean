/- Contracts of the reference ambidexterref01: Add, Fine, Rot, Left, May; of the statements' own Point. No condition on memory. Written by wip/gen_ref.py. -/
import Derived.Test.YtceejjamngplkaaDoorRefA
namespace Go.Proofs.YtceejjamngplkaaDoor
open Go.ChangeShapes Go.WideShapes Go.ChangeAt Go.RowKit

theorem of_is (q c s : Int) (w : World) (h : -9223372036854775808 ≤ q ∧ q ≤ 9223372036854775807) (hc : Hid (csF (q % 36).toNat = (c, s))) :
    Calls Tryd.prog 57 #[.int .i64 q] w fun e w' => e = .returned (.tuple #[.int .i64 c, .int .i64 s]) ∧ Below w.heap.size w w' := by
  have := of_any q w h
  rw [hc.out] at this
  exact this

set_option maxHeartbeats 400000 in
theorem add_bad (X Y N q : Int) (w : World) (h : vdB X Y N = false) :
    Calls Tryd.prog 51 #[.agg #[.int .i64 X, .int .i64 Y, .int .i64 N], .int .i64 q] w fun e w' => e = .returned (.agg #[.int .i64 0, .int .i64 0, .int .i64 0]) ∧ Below w.heap.size w w' := by
  go_enter Tryd.func51, Tryd.ntmps51
  go_wp2_with ((go_at_call 33; refine (right_any X Y N _).mono ?_; rintro e w1 ⟨rfl, hb⟩; obtain ⟨hc, hf⟩ := bcellR hb; have hz : w.heap.size + 1 < w1.heap.size := (by have := hb.size; simp at this; omega); have hy : w.heap.size < w1.heap.size := (by omega); have hB : Below w.heap.size w w1 := (((Below.refl _ _).alloc (Nat.le_refl _) _).alloc (by simp) _).trans (hb.mono (by simp; omega))))
  refine bodyPost_ret (v := .agg #[.int .i64 0, .int .i64 0, .int .i64 0]) (by simp [results, Tryd.results51, go_sem, hc]) rfl ?_
  exact ⟨rfl, by go_grown⟩

set_option maxHeartbeats 400000 in
theorem add_end (X Y q : Int) (w : World) (h : vdB X Y 3 = true) :
    Calls Tryd.prog 51 #[.agg #[.int .i64 X, .int .i64 Y, .int .i64 3], .int .i64 q] w fun e w' => e = .returned (.agg #[.int .i64 0, .int .i64 0, .int .i64 0]) ∧ Below w.heap.size w w' := by
  go_enter Tryd.func51, Tryd.ntmps51
  go_wp2_with ((go_at_call 33; refine (right_any X Y 3 _).mono ?_; rintro e w1 ⟨rfl, hb⟩; obtain ⟨hc, hf⟩ := bcellR hb; have hz : w.heap.size + 1 < w1.heap.size := (by have := hb.size; simp at this; omega); have hy : w.heap.size < w1.heap.size := (by omega); have hB : Below w.heap.size w w1 := (((Below.refl _ _).alloc (Nat.le_refl _) _).alloc (by simp) _).trans (hb.mono (by simp; omega))))
  refine bodyPost_ret (v := .agg #[.int .i64 0, .int .i64 0, .int .i64 0]) (by simp [results, Tryd.results51, go_sem, hc]) rfl ?_
  exact ⟨rfl, by go_grown⟩

set_option maxHeartbeats 400000 in
theorem add_is (X Y N q c s : Int) (w : World) (h : vdB X Y N = true) (hN : N ≤ 2) (hq : -9223372036854775808 ≤ q ∧ q ≤ 9223372036854775807) (E : Hid (csF (q % 36).toNat = (c, s))) :
    Calls Tryd.prog 51 #[.agg #[.int .i64 X, .int .i64 Y, .int .i64 N], .int .i64 q] w fun e w' => e = .returned (.agg #[.int .i64 (X * c - Y * s), .int .i64 (X * s + Y * c), .int .i64 (N + 1)]) ∧ Below w.heap.size w w' := by
  obtain ⟨⟨c0, c1⟩, ⟨c2, c3⟩, c4, c5⟩ := vd_bd h
  have n3 : (N == 3) = false := by simp; omega
  obtain ⟨k1, k2⟩ := csF_bd (q % 36).toNat
  rw [E.out] at k1 k2
  simp only at k1 k2
  obtain ⟨p1, p2⟩ := mul_bdR (B := 274625) ⟨c2, c3⟩ k1
  obtain ⟨p3, p4⟩ := mul_bdR (B := 274625) ⟨c2, c3⟩ k2
  obtain ⟨p5, p6⟩ := mul_bdR (B := 274625) ⟨c4, c5⟩ k1
  obtain ⟨p7, p8⟩ := mul_bdR (B := 274625) ⟨c4, c5⟩ k2
  go_enter Tryd.func51, Tryd.ntmps51
  go_wp2_with (first | ((go_at_call 33; refine (right_any X Y N _).mono ?_; rintro e w1 ⟨rfl, hb⟩; obtain ⟨hc, hf⟩ := bcellR hb; have hz : w.heap.size + 1 < w1.heap.size := (by have := hb.size; simp at this; omega); have hy : w.heap.size < w1.heap.size := (by omega); have hB : Below w.heap.size w w1 := (((Below.refl _ _).alloc (Nat.le_refl _) _).alloc (by simp) _).trans (hb.mono (by simp; omega)))) | ((go_at_call 57; refine (of_is _ c s _ hq E).mono ?_; rintro e w2 ⟨rfl, hb2⟩; obtain ⟨hc2, hf2⟩ := bcellR hb2; have hz2 : w.heap.size + 1 < w2.heap.size := Nat.lt_of_lt_of_le hz hb2.size; have hy2 : w.heap.size < w2.heap.size := (by omega); have hB2 : Below w.heap.size w w2 := hB.trans (hb2.mono (by omega)))))
  refine bodyPost_ret (v := .agg #[.int .i64 (X * c - Y * s), .int .i64 (X * s + Y * c), .int .i64 (N + 1)]) (by simp [results, Tryd.results51, go_sem, hc, hc2, hz]) rfl ?_
  exact ⟨rfl, by go_grown⟩

set_option maxHeartbeats 400000 in
theorem may_yes (x y : Int) (w : World) (hx : -439400000 ≤ x ∧ x ≤ 439400000) (hy : -439400000 ≤ y ∧ y ≤ 439400000) :
    Calls Tryd.prog 32 #[.agg #[.int .i64 x, .int .i64 y]] w fun e w' => e = .returned (.bool true) ∧ Below w.heap.size w w' := by
  obtain ⟨x1, x2⟩ := hx
  obtain ⟨y1, y2⟩ := hy
  go_enter Tryd.func32, Tryd.ntmps32
  go_wp2
  go_ret
  exact ⟨rfl, (Below.refl _ _).alloc (Nat.le_refl _) _⟩

set_option maxHeartbeats 400000 in
theorem may_no (x y : Int) (w : World) (h : ¬ ((-439400000 ≤ x ∧ x ≤ 439400000) ∧ (-439400000 ≤ y ∧ y ≤ 439400000))) :
    Calls Tryd.prog 32 #[.agg #[.int .i64 x, .int .i64 y]] w fun e w' => e = .returned (.bool false) ∧ Below w.heap.size w w' := by
  by_cases h1 : -439400000 ≤ x
  · by_cases h2 : x ≤ 439400000
    · by_cases h3 : -439400000 ≤ y
      · have h4 : ¬ y ≤ 439400000 := by omega
        clear h
        go_enter Tryd.func32, Tryd.ntmps32
        go_wp2
        go_ret
        exact ⟨rfl, (Below.refl _ _).alloc (Nat.le_refl _) _⟩
      · clear h
        go_enter Tryd.func32, Tryd.ntmps32
        go_wp2
        go_ret
        exact ⟨rfl, (Below.refl _ _).alloc (Nat.le_refl _) _⟩
    · clear h
      go_enter Tryd.func32, Tryd.ntmps32
      go_wp2
      go_ret
      exact ⟨rfl, (Below.refl _ _).alloc (Nat.le_refl _) _⟩
  · clear h
    go_enter Tryd.func32, Tryd.ntmps32
    go_wp2
    go_ret
    exact ⟨rfl, (Below.refl _ _).alloc (Nat.le_refl _) _⟩

theorem tmod_pt (x : Int) : -439400000 ≤ x.tmod 439400001 ∧ x.tmod 439400001 ≤ 439400000 := by
  have a := Int.tmod_eq_emod (a := x) (b := 439400001)
  split at a <;> omega

theorem unit_quo (N : Int) (h0 : 0 ≤ N) (h3 : N ≤ 3) : (4394000 : Int).tdiv (p65 N) = 16 * p65 (3 - N) := by
  have : N = 0 ∨ N = 1 ∨ N = 2 ∨ N = 3 := by omega
  rcases this with rfl | rfl | rfl | rfl <;> decide

set_option maxHeartbeats 400000 in
theorem fine_is (X Y N n : Int) (w : World) (h : vdB X Y N = true) (hn : -200 ≤ n ∧ n ≤ 200) :
    Calls Tryd.prog 26 #[.agg #[.int .i64 X, .int .i64 Y, .int .i64 N], .int .i64 n] w fun e w' => e = .returned (.agg #[.int .i64 (n * 16 * p65 (3 - N) * X), .int .i64 (n * 16 * p65 (3 - N) * Y)]) ∧ Below w.heap.size w w' := by
  obtain ⟨⟨c0, c1⟩, ⟨c2, c3⟩, c4, c5⟩ := vd_bd h
  obtain ⟨b1, b2⟩ := p65_bd N c0 c1
  obtain ⟨b3, b4⟩ := p65_bd (3 - N) (by omega) (by omega)
  obtain ⟨D, hD, D1, D2, eD⟩ : ∃ D : Int, Hid ((4394000 : Int).tdiv (p65 N) = D) ∧ 0 ≤ D ∧ D ≤ 4394000 ∧ Hid (D = 16 * p65 (3 - N)) := ⟨_, Lib.hid (unit_quo N c0 c1), by omega, by omega, Lib.hid rfl⟩
  obtain ⟨m1, m2⟩ := mul_bd2 (x := n) (c := D) (B := 200) (C := 4394000) hn (by omega)
  obtain ⟨m3, m4⟩ := mul_bd2 (x := n * D) (c := X) (B := 878800000) (C := 274625) (by omega) ⟨c2, c3⟩
  obtain ⟨m5, m6⟩ := mul_bd2 (x := n * D) (c := Y) (B := 878800000) (C := 274625) (by omega) ⟨c4, c5⟩
  have hd := hD.out
  have G : Hid (∀ Z : Int, n * D * Z = n * 16 * p65 (3 - N) * Z) := Lib.hid (fun Z => by rw [eD.out]; grind)
  go_enter Tryd.func26, Tryd.ntmps26
  go_wp2_with (go_at_call 46; refine (pow_any _ _ (by omega) (by omega)).mono ?_; rintro e w' ⟨rfl, rfl⟩)
  go_region
  go_wp2
  go_returns
  exact ⟨ret_agg2R (G.out _) (G.out _), by go_grown⟩

end Go.Proofs.YtceejjamngplkaaDoor
