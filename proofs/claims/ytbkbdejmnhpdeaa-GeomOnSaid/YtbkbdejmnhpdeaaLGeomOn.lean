/- Proved: a segment holds its ends and its middle, and a point exactly if it is collinear with the ends and the scalar product is not negative (the law GeomOn returns true).
Conditions: none on the arguments: for all four points and both values of the flag. -/
import Derived.Test.YtbkbdejmnhpdeaaGeoL
import Derived.Test.YtbkbdejmnhpdeaaGeoReg
import Derived.Test.YtbkbdejmnhpdeaaGeoFr
namespace Go.Proofs.Ytbkbdejmnhpdeaa.geomOn
open Go.ChangeShapes Go.WideShapes Go.ChangeAt Go.RowKit
set_option linter.unusedVariables false

theorem half_is (x y u v : Int) (w : World) (ix : InR x) (jy : InR y) (hx : Hid (x.tdiv 2 = u)) (hy : Hid (y.tdiv 2 = v)) :
    Calls Try.prog 29 #[.agg #[.int .i64 x, .int .i64 y]] w fun e w' => e = .returned (.agg #[.int .i64 u, .int .i64 v]) ∧ Below w.heap.size w w' :=
  (half_any x y w (by unfold InR at ix; omega) (by unfold InR at jy; omega)).mono fun e w' ⟨he, hb⟩ => ⟨he.trans (ret_agg2 hx.out hy.out), hb⟩
theorem pbd {x y : Int} (hx : -878800000 ≤ x ∧ x ≤ 878800000) (hy : -878800000 ≤ y ∧ y ≤ 878800000) : -772289440000000000 ≤ x * y ∧ x * y ≤ 772289440000000000 := by
  have := mul_bd hx hy
  omega

set_option maxRecDepth 100000 in
set_option maxHeartbeats 16000000 in
theorem walk_y (x0 x1 x2 x3 x4 x5 x6 x7 : Int) (s : Bool) (w : World) (y0 y1 y2 y3 y4 y5 y6 y7 : Int) (by0 : InY y0) (by1 : InY y1) (by2 : InY y2) (by3 : InY y3) (by4 : InY y4) (by5 : InY y5) (by6 : InY y6) (by7 : InY y7) (HP : Hid (∀ w : World, Calls Try.prog 11 #[.agg #[.int .i64 x0, .int .i64 x1, .int .i64 x2, .int .i64 x3, .int .i64 x4, .int .i64 x5, .int .i64 x6, .int .i64 x7], .bool s] w fun e w' => e = .returned (.agg #[.int .i64 y0, .int .i64 y1, .int .i64 y2, .int .i64 y3, .int .i64 y4, .int .i64 y5, .int .i64 y6, .int .i64 y7]) ∧ Below w.heap.size w w')) (a b c d p q : Int) (k0 k1 k2 k3 : Int) (t0 : y0.tdiv 2 = k0) (t1 : y1.tdiv 2 = k1) (t2 : y2.tdiv 2 = k2) (t3 : y3.tdiv 2 = k3)
    (A0 : Hid (k0 * 2 = a)) (A1 : Hid (k1 * 2 = b)) (A2 : Hid (k2 * 2 = c)) (A3 : Hid (k3 * 2 = d)) (e4 : y4 = p) (e5 : y5 = q)
    (bk0 : -219700000 ≤ k0 ∧ k0 ≤ 219700000) (bk1 : -219700000 ≤ k1 ∧ k1 ≤ 219700000) (bk2 : -219700000 ≤ k2 ∧ k2 ≤ 219700000) (bk3 : -219700000 ≤ k3 ∧ k3 ≤ 219700000)
    (hac : (a = p ∧ b = q) ∨ ¬ a = p ∨ (a = p ∧ ¬ b = q)) :
    Calls Try.prog 5 #[.agg #[.int .i64 x0, .int .i64 x1, .int .i64 x2, .int .i64 x3, .int .i64 x4, .int .i64 x5, .int .i64 x6, .int .i64 x7], .bool s] w fun e w' => e = .returned (.bool true) ∧ Below w.heap.size w w' := by
  subst e4 e5
  have a0 := A0.out
  have a1 := A1.out
  have a2 := A2.out
  have a3 := A3.out
  have ra : -439400000 ≤ a ∧ a ≤ 439400000 := by omega
  have rb : -439400000 ≤ b ∧ b ≤ 439400000 := by omega
  have rc : -439400000 ≤ c ∧ c ≤ 439400000 := by omega
  have rd : -439400000 ≤ d ∧ d ≤ 439400000 := by omega
  have ia : InR a := by unfold InR; omega
  have ib : InR b := by unfold InR; omega
  have ic : InR c := by unfold InR; omega
  have id : InR d := by unfold InR; omega
  have ip : InR y4 := by4.inr
  have iq : InR y5 := by5.inr
  unfold InY at by4 by5
  obtain ⟨u0, hu0⟩ : ∃ x, a + c = x := ⟨_, rfl⟩
  obtain ⟨u1, hu1⟩ : ∃ x, b + d = x := ⟨_, rfl⟩
  obtain ⟨m0, hm0⟩ : ∃ x, u0.tdiv 2 = x := ⟨_, rfl⟩
  obtain ⟨m1, hm1⟩ : ∃ x, u1.tdiv 2 = x := ⟨_, rfl⟩
  obtain ⟨v0, hv0⟩ : ∃ x, c - a = x := ⟨_, rfl⟩
  obtain ⟨v1, hv1⟩ : ∃ x, d - b = x := ⟨_, rfl⟩
  obtain ⟨n0, hn0⟩ : ∃ x, v0.tdiv 2 = x := ⟨_, rfl⟩
  obtain ⟨n1, hn1⟩ : ∃ x, v1.tdiv 2 = x := ⟨_, rfl⟩
  have gm0 : 2 * m0 = a + c := by have := tdiv2 u0; omega
  have gm1 : 2 * m1 = b + d := by have := tdiv2 u1; omega
  have gn0 : 2 * n0 = c - a := by have := tdiv2 v0; omega
  have gn1 : 2 * n1 = d - b := by have := tdiv2 v1; omega
  have iu0 : InR u0 := by unfold InR; omega
  have iu1 : InR u1 := by unfold InR; omega
  have im0 : InR m0 := by unfold InR; omega
  have im1 : InR m1 := by unfold InR; omega
  have iv0 : InR v0 := by unfold InR; omega
  have iv1 : InR v1 := by unfold InR; omega
  have in0 : InR n0 := by unfold InR; omega
  have in1 : InR n1 := by unfold InR; omega
  have F0 : Hid (m0 - n0 = a) := Lib.hid (by omega)
  have F1 : Hid (m1 - n1 = b) := Lib.hid (by omega)
  have Em : Hid (onB a b c d m0 m1 = true) := Lib.hid (on_mid gm0 gm1)
  have HU0 := Lib.hid hu0
  have HU1 := Lib.hid hu1
  have HM0 := Lib.hid hm0
  have HM1 := Lib.hid hm1
  have HV0 := Lib.hid hv0
  have HV1 := Lib.hid hv1
  have HN0 := Lib.hid hn0
  have HN1 := Lib.hid hn1
  obtain ⟨x1, x2⟩ := pbd (x := y4 - a) (y := c - y4) (by omega) (by omega)
  obtain ⟨x3, x4⟩ := pbd (x := y5 - b) (y := d - y5) (by omega) (by omega)
  have y1' : -878800000 ≤ y4 - a ∧ y4 - a ≤ 878800000 := by omega
  have y2' : -878800000 ≤ c - y4 ∧ c - y4 ≤ 878800000 := by omega
  have y3' : -878800000 ≤ y5 - b ∧ y5 - b ≤ 878800000 := by omega
  have y4' : -878800000 ≤ d - y5 ∧ d - y5 ≤ 878800000 := by omega
  obtain ⟨y11, y12⟩ := y1'
  obtain ⟨y21, y22⟩ := y2'
  obtain ⟨y31, y32⟩ := y3'
  obtain ⟨y41, y42⟩ := y4'
  obtain ⟨D, hD⟩ : ∃ x, (y4 - a) * (c - y4) + (y5 - b) * (d - y5) = x := ⟨_, rfl⟩
  obtain ⟨o, ho⟩ : ∃ x, ori a b c d y4 y5 = x := ⟨_, rfl⟩
  obtain ⟨v, hv⟩ : ∃ x, onB a b c d y4 y5 = x := ⟨_, rfl⟩
  have E := on_dot (a := a) (b := b) (c := c) (d := d) (p := y4) (q := y5)
  rw [hv, ho, hD] at E
  have HE := Lib.hid E
  have HO := Lib.hid ho
  have HV := Lib.hid hv
  have E1 : Hid (onB a b c d a b = true) := Lib.hid on_first
  have E2 : Hid (onB a b c d c d = true) := Lib.hid on_last
  have E3 : Hid (onB c d a b y4 y5 = v) := Lib.hid (on_swap.trans hv)
  have E4 : Hid (onB a b a b y4 y5 = decide (a = y4 ∧ b = y5)) := Lib.hid on_point
  have HAC := Lib.hid hac
  have HX := Lib.hid (And.intro x1 (And.intro x2 (And.intro x3 (And.intro x4 (And.intro y11 (And.intro y12 (And.intro y21 (And.intro y22 (And.intro y31 (And.intro y32 (And.intro y41 (And.intro y42 (hD)))))))))))))
  have HBK := Lib.hid (And.intro bk0 (And.intro bk1 (And.intro bk2 bk3)))
  have TT := Lib.hid (And.intro t0 (And.intro t1 (And.intro t2 t3)))
  clear x1 x2 x3 x4 y11 y12 y21 y22 y31 y32 y41 y42 hD ra rb rc rd by0 by1 by2 by3 by4 by5 by6 by7 bk0 bk1 bk2 bk3 t0 t1 t2 t3
  clear hu0 hu1 hm0 hm1 hv0 hv1 hn0 hn1 gm0 gm1 gn0 gn1 E ho hv hac a0 a1 a2 a3
  have hB : Below w.heap.size w w := Below.refl _ _
  go_enter Try.func5, Try.ntmps5
  go_wp2_with fail
  refine (head_any _).mono ?_; rintro e w1 ⟨rfl, hb⟩
  have k1 : w1.cell? ⟨w.heap.size, 0, none⟩ = some (.int .i64 x0) := cell_call (cbx w #[.int .i64 x0, .int .i64 x1, .int .i64 x2, .int .i64 x3, .int .i64 x4, .int .i64 x5, .int .i64 x6, .int .i64 x7] 24 (w.heap.size) 0 (.int .i64 x0) (by simp) rfl) hb
  have k2 : w1.cell? ⟨w.heap.size, 1, none⟩ = some (.int .i64 x1) := cell_call (cbx w #[.int .i64 x0, .int .i64 x1, .int .i64 x2, .int .i64 x3, .int .i64 x4, .int .i64 x5, .int .i64 x6, .int .i64 x7] 24 (w.heap.size) 1 (.int .i64 x1) (by simp) rfl) hb
  have k3 : w1.cell? ⟨w.heap.size, 2, none⟩ = some (.int .i64 x2) := cell_call (cbx w #[.int .i64 x0, .int .i64 x1, .int .i64 x2, .int .i64 x3, .int .i64 x4, .int .i64 x5, .int .i64 x6, .int .i64 x7] 24 (w.heap.size) 2 (.int .i64 x2) (by simp) rfl) hb
  have k4 : w1.cell? ⟨w.heap.size, 3, none⟩ = some (.int .i64 x3) := cell_call (cbx w #[.int .i64 x0, .int .i64 x1, .int .i64 x2, .int .i64 x3, .int .i64 x4, .int .i64 x5, .int .i64 x6, .int .i64 x7] 24 (w.heap.size) 3 (.int .i64 x3) (by simp) rfl) hb
  have k5 : w1.cell? ⟨w.heap.size, 4, none⟩ = some (.int .i64 x4) := cell_call (cbx w #[.int .i64 x0, .int .i64 x1, .int .i64 x2, .int .i64 x3, .int .i64 x4, .int .i64 x5, .int .i64 x6, .int .i64 x7] 24 (w.heap.size) 4 (.int .i64 x4) (by simp) rfl) hb
  have k6 : w1.cell? ⟨w.heap.size, 5, none⟩ = some (.int .i64 x5) := cell_call (cbx w #[.int .i64 x0, .int .i64 x1, .int .i64 x2, .int .i64 x3, .int .i64 x4, .int .i64 x5, .int .i64 x6, .int .i64 x7] 24 (w.heap.size) 5 (.int .i64 x5) (by simp) rfl) hb
  have k7 : w1.cell? ⟨w.heap.size, 6, none⟩ = some (.int .i64 x6) := cell_call (cbx w #[.int .i64 x0, .int .i64 x1, .int .i64 x2, .int .i64 x3, .int .i64 x4, .int .i64 x5, .int .i64 x6, .int .i64 x7] 24 (w.heap.size) 6 (.int .i64 x6) (by simp) rfl) hb
  have k8 : w1.cell? ⟨w.heap.size, 7, none⟩ = some (.int .i64 x7) := cell_call (cbx w #[.int .i64 x0, .int .i64 x1, .int .i64 x2, .int .i64 x3, .int .i64 x4, .int .i64 x5, .int .i64 x6, .int .i64 x7] 24 (w.heap.size) 7 (.int .i64 x7) (by simp) rfl) hb
  replace hB := belT (belA hB _) hb
  clear hb
  have zk1 : w.heap.size < w1.heap.size := World.block_lt_of_cell? w1 _ k1
  go_wp2_with fail
  refine (HP.out _).mono ?_; rintro e w2 ⟨rfl, hb⟩
  replace k1 : w2.cell? ⟨w.heap.size, 0, none⟩ = some (.int .i64 x0) := cell_call k1 hb
  replace k2 : w2.cell? ⟨w.heap.size, 1, none⟩ = some (.int .i64 x1) := cell_call k2 hb
  replace k3 : w2.cell? ⟨w.heap.size, 2, none⟩ = some (.int .i64 x2) := cell_call k3 hb
  replace k4 : w2.cell? ⟨w.heap.size, 3, none⟩ = some (.int .i64 x3) := cell_call k4 hb
  replace k5 : w2.cell? ⟨w.heap.size, 4, none⟩ = some (.int .i64 x4) := cell_call k5 hb
  replace k6 : w2.cell? ⟨w.heap.size, 5, none⟩ = some (.int .i64 x5) := cell_call k6 hb
  replace k7 : w2.cell? ⟨w.heap.size, 6, none⟩ = some (.int .i64 x6) := cell_call k7 hb
  replace k8 : w2.cell? ⟨w.heap.size, 7, none⟩ = some (.int .i64 x7) := cell_call k8 hb
  replace hB := belT hB hb
  clear hb
  replace zk1 : w.heap.size < w2.heap.size := World.block_lt_of_cell? w2 _ k1
  obtain ⟨t0, t1, t2, t3⟩ := TT.out
  obtain ⟨⟨l0, r0⟩, ⟨l1, r1⟩, ⟨l2, r2⟩, l3, r3⟩ := HBK.out
  go_wp2_with fail
  refine (at_is _ _ a b _ A0 A1).mono ?_; rintro e w3 ⟨rfl, hb⟩
  replace k1 : w3.cell? ⟨w.heap.size, 0, none⟩ = some (.int .i64 x0) := cell_call (cell_alloc k1 _) hb
  replace k2 : w3.cell? ⟨w.heap.size, 1, none⟩ = some (.int .i64 x1) := cell_call (cell_alloc k2 _) hb
  replace k3 : w3.cell? ⟨w.heap.size, 2, none⟩ = some (.int .i64 x2) := cell_call (cell_alloc k3 _) hb
  replace k4 : w3.cell? ⟨w.heap.size, 3, none⟩ = some (.int .i64 x3) := cell_call (cell_alloc k4 _) hb
  replace k5 : w3.cell? ⟨w.heap.size, 4, none⟩ = some (.int .i64 x4) := cell_call (cell_alloc k5 _) hb
  replace k6 : w3.cell? ⟨w.heap.size, 5, none⟩ = some (.int .i64 x5) := cell_call (cell_alloc k6 _) hb
  replace k7 : w3.cell? ⟨w.heap.size, 6, none⟩ = some (.int .i64 x6) := cell_call (cell_alloc k7 _) hb
  replace k8 : w3.cell? ⟨w.heap.size, 7, none⟩ = some (.int .i64 x7) := cell_call (cell_alloc k8 _) hb
  have k9 : w3.cell? ⟨w2.heap.size, 0, none⟩ = some (.int .i64 y0) := cell_call (cbx w2 #[.int .i64 y0, .int .i64 y1, .int .i64 y2, .int .i64 y3, .int .i64 y4, .int .i64 y5, .int .i64 y6, .int .i64 y7] 24 (w2.heap.size) 0 (.int .i64 y0) (by simp) rfl) hb
  have k10 : w3.cell? ⟨w2.heap.size, 1, none⟩ = some (.int .i64 y1) := cell_call (cbx w2 #[.int .i64 y0, .int .i64 y1, .int .i64 y2, .int .i64 y3, .int .i64 y4, .int .i64 y5, .int .i64 y6, .int .i64 y7] 24 (w2.heap.size) 1 (.int .i64 y1) (by simp) rfl) hb
  have k11 : w3.cell? ⟨w2.heap.size, 2, none⟩ = some (.int .i64 y2) := cell_call (cbx w2 #[.int .i64 y0, .int .i64 y1, .int .i64 y2, .int .i64 y3, .int .i64 y4, .int .i64 y5, .int .i64 y6, .int .i64 y7] 24 (w2.heap.size) 2 (.int .i64 y2) (by simp) rfl) hb
  have k12 : w3.cell? ⟨w2.heap.size, 3, none⟩ = some (.int .i64 y3) := cell_call (cbx w2 #[.int .i64 y0, .int .i64 y1, .int .i64 y2, .int .i64 y3, .int .i64 y4, .int .i64 y5, .int .i64 y6, .int .i64 y7] 24 (w2.heap.size) 3 (.int .i64 y3) (by simp) rfl) hb
  have k13 : w3.cell? ⟨w2.heap.size, 4, none⟩ = some (.int .i64 y4) := cell_call (cbx w2 #[.int .i64 y0, .int .i64 y1, .int .i64 y2, .int .i64 y3, .int .i64 y4, .int .i64 y5, .int .i64 y6, .int .i64 y7] 24 (w2.heap.size) 4 (.int .i64 y4) (by simp) rfl) hb
  have k14 : w3.cell? ⟨w2.heap.size, 5, none⟩ = some (.int .i64 y5) := cell_call (cbx w2 #[.int .i64 y0, .int .i64 y1, .int .i64 y2, .int .i64 y3, .int .i64 y4, .int .i64 y5, .int .i64 y6, .int .i64 y7] 24 (w2.heap.size) 5 (.int .i64 y5) (by simp) rfl) hb
  have k15 : w3.cell? ⟨w2.heap.size, 6, none⟩ = some (.int .i64 y6) := cell_call (cbx w2 #[.int .i64 y0, .int .i64 y1, .int .i64 y2, .int .i64 y3, .int .i64 y4, .int .i64 y5, .int .i64 y6, .int .i64 y7] 24 (w2.heap.size) 6 (.int .i64 y6) (by simp) rfl) hb
  have k16 : w3.cell? ⟨w2.heap.size, 7, none⟩ = some (.int .i64 y7) := cell_call (cbx w2 #[.int .i64 y0, .int .i64 y1, .int .i64 y2, .int .i64 y3, .int .i64 y4, .int .i64 y5, .int .i64 y6, .int .i64 y7] 24 (w2.heap.size) 7 (.int .i64 y7) (by simp) rfl) hb
  replace hB := belT (belA hB _) hb
  clear hb
  replace zk1 : w.heap.size < w3.heap.size := World.block_lt_of_cell? w3 _ k1
  have zk9 : w2.heap.size < w3.heap.size := World.block_lt_of_cell? w3 _ k9
  go_wp2_with fail
  refine (at_is _ _ c d _ A2 A3).mono ?_; rintro e w4 ⟨rfl, hb⟩
  replace k1 : w4.cell? ⟨w.heap.size, 0, none⟩ = some (.int .i64 x0) := cell_call (cell_alloc k1 _) hb
  replace k2 : w4.cell? ⟨w.heap.size, 1, none⟩ = some (.int .i64 x1) := cell_call (cell_alloc k2 _) hb
  replace k3 : w4.cell? ⟨w.heap.size, 2, none⟩ = some (.int .i64 x2) := cell_call (cell_alloc k3 _) hb
  replace k4 : w4.cell? ⟨w.heap.size, 3, none⟩ = some (.int .i64 x3) := cell_call (cell_alloc k4 _) hb
  replace k5 : w4.cell? ⟨w.heap.size, 4, none⟩ = some (.int .i64 x4) := cell_call (cell_alloc k5 _) hb
  replace k6 : w4.cell? ⟨w.heap.size, 5, none⟩ = some (.int .i64 x5) := cell_call (cell_alloc k6 _) hb
  replace k7 : w4.cell? ⟨w.heap.size, 6, none⟩ = some (.int .i64 x6) := cell_call (cell_alloc k7 _) hb
  replace k8 : w4.cell? ⟨w.heap.size, 7, none⟩ = some (.int .i64 x7) := cell_call (cell_alloc k8 _) hb
  replace k9 : w4.cell? ⟨w2.heap.size, 0, none⟩ = some (.int .i64 y0) := cell_call (cell_alloc k9 _) hb
  replace k10 : w4.cell? ⟨w2.heap.size, 1, none⟩ = some (.int .i64 y1) := cell_call (cell_alloc k10 _) hb
  replace k11 : w4.cell? ⟨w2.heap.size, 2, none⟩ = some (.int .i64 y2) := cell_call (cell_alloc k11 _) hb
  replace k12 : w4.cell? ⟨w2.heap.size, 3, none⟩ = some (.int .i64 y3) := cell_call (cell_alloc k12 _) hb
  replace k13 : w4.cell? ⟨w2.heap.size, 4, none⟩ = some (.int .i64 y4) := cell_call (cell_alloc k13 _) hb
  replace k14 : w4.cell? ⟨w2.heap.size, 5, none⟩ = some (.int .i64 y5) := cell_call (cell_alloc k14 _) hb
  replace k15 : w4.cell? ⟨w2.heap.size, 6, none⟩ = some (.int .i64 y6) := cell_call (cell_alloc k15 _) hb
  replace k16 : w4.cell? ⟨w2.heap.size, 7, none⟩ = some (.int .i64 y7) := cell_call (cell_alloc k16 _) hb
  have k17 : w4.cell? ⟨w3.heap.size, 0, none⟩ = some (.int .i64 a) := cell_call (cbx w3 #[.int .i64 a, .int .i64 b] 23 (w3.heap.size) 0 (.int .i64 a) (by simp) rfl) hb
  have k18 : w4.cell? ⟨w3.heap.size, 1, none⟩ = some (.int .i64 b) := cell_call (cbx w3 #[.int .i64 a, .int .i64 b] 23 (w3.heap.size) 1 (.int .i64 b) (by simp) rfl) hb
  replace hB := belT (belA hB _) hb
  clear hb
  replace zk1 : w.heap.size < w4.heap.size := World.block_lt_of_cell? w4 _ k1
  replace zk9 : w2.heap.size < w4.heap.size := World.block_lt_of_cell? w4 _ k9
  have zk17 : w3.heap.size < w4.heap.size := World.block_lt_of_cell? w4 _ k17
  clear t0 t1 t2 t3 TT HBK l0 r0 l1 r1 l2 r2 l3 r3
  go_wp2_with fail
  refine (add_is a b c d u0 u1 _ ia ib ic id HU0 HU1).mono ?_; rintro e w5 ⟨rfl, hb⟩
  replace k1 : w5.cell? ⟨w.heap.size, 0, none⟩ = some (.int .i64 x0) := cell_call (cell_alloc (cell_alloc k1 _) _) hb
  replace k2 : w5.cell? ⟨w.heap.size, 1, none⟩ = some (.int .i64 x1) := cell_call (cell_alloc (cell_alloc k2 _) _) hb
  replace k3 : w5.cell? ⟨w.heap.size, 2, none⟩ = some (.int .i64 x2) := cell_call (cell_alloc (cell_alloc k3 _) _) hb
  replace k4 : w5.cell? ⟨w.heap.size, 3, none⟩ = some (.int .i64 x3) := cell_call (cell_alloc (cell_alloc k4 _) _) hb
  replace k5 : w5.cell? ⟨w.heap.size, 4, none⟩ = some (.int .i64 x4) := cell_call (cell_alloc (cell_alloc k5 _) _) hb
  replace k6 : w5.cell? ⟨w.heap.size, 5, none⟩ = some (.int .i64 x5) := cell_call (cell_alloc (cell_alloc k6 _) _) hb
  replace k7 : w5.cell? ⟨w.heap.size, 6, none⟩ = some (.int .i64 x6) := cell_call (cell_alloc (cell_alloc k7 _) _) hb
  replace k8 : w5.cell? ⟨w.heap.size, 7, none⟩ = some (.int .i64 x7) := cell_call (cell_alloc (cell_alloc k8 _) _) hb
  replace k9 : w5.cell? ⟨w2.heap.size, 0, none⟩ = some (.int .i64 y0) := cell_call (cell_alloc (cell_alloc k9 _) _) hb
  replace k10 : w5.cell? ⟨w2.heap.size, 1, none⟩ = some (.int .i64 y1) := cell_call (cell_alloc (cell_alloc k10 _) _) hb
  replace k11 : w5.cell? ⟨w2.heap.size, 2, none⟩ = some (.int .i64 y2) := cell_call (cell_alloc (cell_alloc k11 _) _) hb
  replace k12 : w5.cell? ⟨w2.heap.size, 3, none⟩ = some (.int .i64 y3) := cell_call (cell_alloc (cell_alloc k12 _) _) hb
  replace k13 : w5.cell? ⟨w2.heap.size, 4, none⟩ = some (.int .i64 y4) := cell_call (cell_alloc (cell_alloc k13 _) _) hb
  replace k14 : w5.cell? ⟨w2.heap.size, 5, none⟩ = some (.int .i64 y5) := cell_call (cell_alloc (cell_alloc k14 _) _) hb
  replace k15 : w5.cell? ⟨w2.heap.size, 6, none⟩ = some (.int .i64 y6) := cell_call (cell_alloc (cell_alloc k15 _) _) hb
  replace k16 : w5.cell? ⟨w2.heap.size, 7, none⟩ = some (.int .i64 y7) := cell_call (cell_alloc (cell_alloc k16 _) _) hb
  replace k17 : w5.cell? ⟨w3.heap.size, 0, none⟩ = some (.int .i64 a) := cell_call (cell_alloc (cell_alloc k17 _) _) hb
  replace k18 : w5.cell? ⟨w3.heap.size, 1, none⟩ = some (.int .i64 b) := cell_call (cell_alloc (cell_alloc k18 _) _) hb
  have k19 : w5.cell? ⟨w4.heap.size, 0, none⟩ = some (.int .i64 c) := cell_call (cell_alloc (cbx w4 #[.int .i64 c, .int .i64 d] 23 (w4.heap.size) 0 (.int .i64 c) (by simp) rfl) _) hb
  have k20 : w5.cell? ⟨w4.heap.size, 1, none⟩ = some (.int .i64 d) := cell_call (cell_alloc (cbx w4 #[.int .i64 c, .int .i64 d] 23 (w4.heap.size) 1 (.int .i64 d) (by simp) rfl) _) hb
  have k21 : w5.cell? ⟨w4.heap.size + 1, 0, none⟩ = some (.int .i64 y4) := cell_call (cbx (w4.alloc (.cells #[.int .i64 c, .int .i64 d] 23)) #[.int .i64 y4, .int .i64 y5] 23 (w4.heap.size + 1) 0 (.int .i64 y4) (by simp) rfl) hb
  have k22 : w5.cell? ⟨w4.heap.size + 1, 1, none⟩ = some (.int .i64 y5) := cell_call (cbx (w4.alloc (.cells #[.int .i64 c, .int .i64 d] 23)) #[.int .i64 y4, .int .i64 y5] 23 (w4.heap.size + 1) 1 (.int .i64 y5) (by simp) rfl) hb
  replace hB := belT (belA (belA hB _) _) hb
  clear hb
  replace zk1 : w.heap.size < w5.heap.size := World.block_lt_of_cell? w5 _ k1
  replace zk9 : w2.heap.size < w5.heap.size := World.block_lt_of_cell? w5 _ k9
  replace zk17 : w3.heap.size < w5.heap.size := World.block_lt_of_cell? w5 _ k17
  have zk19 : w4.heap.size < w5.heap.size := World.block_lt_of_cell? w5 _ k19
  have zk21 : w4.heap.size + 1 < w5.heap.size := World.block_lt_of_cell? w5 _ k21
  go_wp2_with fail
  refine (half_is u0 u1 m0 m1 _ iu0 iu1 HM0 HM1).mono ?_; rintro e w6 ⟨rfl, hb⟩
  replace k1 : w6.cell? ⟨w.heap.size, 0, none⟩ = some (.int .i64 x0) := cell_call k1 hb
  replace k2 : w6.cell? ⟨w.heap.size, 1, none⟩ = some (.int .i64 x1) := cell_call k2 hb
  replace k3 : w6.cell? ⟨w.heap.size, 2, none⟩ = some (.int .i64 x2) := cell_call k3 hb
  replace k4 : w6.cell? ⟨w.heap.size, 3, none⟩ = some (.int .i64 x3) := cell_call k4 hb
  replace k5 : w6.cell? ⟨w.heap.size, 4, none⟩ = some (.int .i64 x4) := cell_call k5 hb
  replace k6 : w6.cell? ⟨w.heap.size, 5, none⟩ = some (.int .i64 x5) := cell_call k6 hb
  replace k7 : w6.cell? ⟨w.heap.size, 6, none⟩ = some (.int .i64 x6) := cell_call k7 hb
  replace k8 : w6.cell? ⟨w.heap.size, 7, none⟩ = some (.int .i64 x7) := cell_call k8 hb
  replace k9 : w6.cell? ⟨w2.heap.size, 0, none⟩ = some (.int .i64 y0) := cell_call k9 hb
  replace k10 : w6.cell? ⟨w2.heap.size, 1, none⟩ = some (.int .i64 y1) := cell_call k10 hb
  replace k11 : w6.cell? ⟨w2.heap.size, 2, none⟩ = some (.int .i64 y2) := cell_call k11 hb
  replace k12 : w6.cell? ⟨w2.heap.size, 3, none⟩ = some (.int .i64 y3) := cell_call k12 hb
  replace k13 : w6.cell? ⟨w2.heap.size, 4, none⟩ = some (.int .i64 y4) := cell_call k13 hb
  replace k14 : w6.cell? ⟨w2.heap.size, 5, none⟩ = some (.int .i64 y5) := cell_call k14 hb
  replace k15 : w6.cell? ⟨w2.heap.size, 6, none⟩ = some (.int .i64 y6) := cell_call k15 hb
  replace k16 : w6.cell? ⟨w2.heap.size, 7, none⟩ = some (.int .i64 y7) := cell_call k16 hb
  replace k17 : w6.cell? ⟨w3.heap.size, 0, none⟩ = some (.int .i64 a) := cell_call k17 hb
  replace k18 : w6.cell? ⟨w3.heap.size, 1, none⟩ = some (.int .i64 b) := cell_call k18 hb
  replace k19 : w6.cell? ⟨w4.heap.size, 0, none⟩ = some (.int .i64 c) := cell_call k19 hb
  replace k20 : w6.cell? ⟨w4.heap.size, 1, none⟩ = some (.int .i64 d) := cell_call k20 hb
  replace k21 : w6.cell? ⟨w4.heap.size + 1, 0, none⟩ = some (.int .i64 y4) := cell_call k21 hb
  replace k22 : w6.cell? ⟨w4.heap.size + 1, 1, none⟩ = some (.int .i64 y5) := cell_call k22 hb
  replace hB := belT hB hb
  clear hb
  replace zk1 : w.heap.size < w6.heap.size := World.block_lt_of_cell? w6 _ k1
  replace zk9 : w2.heap.size < w6.heap.size := World.block_lt_of_cell? w6 _ k9
  replace zk17 : w3.heap.size < w6.heap.size := World.block_lt_of_cell? w6 _ k17
  replace zk19 : w4.heap.size < w6.heap.size := World.block_lt_of_cell? w6 _ k19
  replace zk21 : w4.heap.size + 1 < w6.heap.size := World.block_lt_of_cell? w6 _ k21
  go_upto_region 7 with fail
  replace k1 : (w6.alloc (.cells #[.int .i64 m0, .int .i64 m1] 23)).cell? ⟨w.heap.size, 0, none⟩ = some (.int .i64 x0) := (cell_alloc k1 _)
  replace k2 : (w6.alloc (.cells #[.int .i64 m0, .int .i64 m1] 23)).cell? ⟨w.heap.size, 1, none⟩ = some (.int .i64 x1) := (cell_alloc k2 _)
  replace k3 : (w6.alloc (.cells #[.int .i64 m0, .int .i64 m1] 23)).cell? ⟨w.heap.size, 2, none⟩ = some (.int .i64 x2) := (cell_alloc k3 _)
  replace k4 : (w6.alloc (.cells #[.int .i64 m0, .int .i64 m1] 23)).cell? ⟨w.heap.size, 3, none⟩ = some (.int .i64 x3) := (cell_alloc k4 _)
  replace k5 : (w6.alloc (.cells #[.int .i64 m0, .int .i64 m1] 23)).cell? ⟨w.heap.size, 4, none⟩ = some (.int .i64 x4) := (cell_alloc k5 _)
  replace k6 : (w6.alloc (.cells #[.int .i64 m0, .int .i64 m1] 23)).cell? ⟨w.heap.size, 5, none⟩ = some (.int .i64 x5) := (cell_alloc k6 _)
  replace k7 : (w6.alloc (.cells #[.int .i64 m0, .int .i64 m1] 23)).cell? ⟨w.heap.size, 6, none⟩ = some (.int .i64 x6) := (cell_alloc k7 _)
  replace k8 : (w6.alloc (.cells #[.int .i64 m0, .int .i64 m1] 23)).cell? ⟨w.heap.size, 7, none⟩ = some (.int .i64 x7) := (cell_alloc k8 _)
  replace k9 : (w6.alloc (.cells #[.int .i64 m0, .int .i64 m1] 23)).cell? ⟨w2.heap.size, 0, none⟩ = some (.int .i64 y0) := (cell_alloc k9 _)
  replace k10 : (w6.alloc (.cells #[.int .i64 m0, .int .i64 m1] 23)).cell? ⟨w2.heap.size, 1, none⟩ = some (.int .i64 y1) := (cell_alloc k10 _)
  replace k11 : (w6.alloc (.cells #[.int .i64 m0, .int .i64 m1] 23)).cell? ⟨w2.heap.size, 2, none⟩ = some (.int .i64 y2) := (cell_alloc k11 _)
  replace k12 : (w6.alloc (.cells #[.int .i64 m0, .int .i64 m1] 23)).cell? ⟨w2.heap.size, 3, none⟩ = some (.int .i64 y3) := (cell_alloc k12 _)
  replace k13 : (w6.alloc (.cells #[.int .i64 m0, .int .i64 m1] 23)).cell? ⟨w2.heap.size, 4, none⟩ = some (.int .i64 y4) := (cell_alloc k13 _)
  replace k14 : (w6.alloc (.cells #[.int .i64 m0, .int .i64 m1] 23)).cell? ⟨w2.heap.size, 5, none⟩ = some (.int .i64 y5) := (cell_alloc k14 _)
  replace k15 : (w6.alloc (.cells #[.int .i64 m0, .int .i64 m1] 23)).cell? ⟨w2.heap.size, 6, none⟩ = some (.int .i64 y6) := (cell_alloc k15 _)
  replace k16 : (w6.alloc (.cells #[.int .i64 m0, .int .i64 m1] 23)).cell? ⟨w2.heap.size, 7, none⟩ = some (.int .i64 y7) := (cell_alloc k16 _)
  replace k17 : (w6.alloc (.cells #[.int .i64 m0, .int .i64 m1] 23)).cell? ⟨w3.heap.size, 0, none⟩ = some (.int .i64 a) := (cell_alloc k17 _)
  replace k18 : (w6.alloc (.cells #[.int .i64 m0, .int .i64 m1] 23)).cell? ⟨w3.heap.size, 1, none⟩ = some (.int .i64 b) := (cell_alloc k18 _)
  replace k19 : (w6.alloc (.cells #[.int .i64 m0, .int .i64 m1] 23)).cell? ⟨w4.heap.size, 0, none⟩ = some (.int .i64 c) := (cell_alloc k19 _)
  replace k20 : (w6.alloc (.cells #[.int .i64 m0, .int .i64 m1] 23)).cell? ⟨w4.heap.size, 1, none⟩ = some (.int .i64 d) := (cell_alloc k20 _)
  replace k21 : (w6.alloc (.cells #[.int .i64 m0, .int .i64 m1] 23)).cell? ⟨w4.heap.size + 1, 0, none⟩ = some (.int .i64 y4) := (cell_alloc k21 _)
  replace k22 : (w6.alloc (.cells #[.int .i64 m0, .int .i64 m1] 23)).cell? ⟨w4.heap.size + 1, 1, none⟩ = some (.int .i64 y5) := (cell_alloc k22 _)
  have k23 : (w6.alloc (.cells #[.int .i64 m0, .int .i64 m1] 23)).cell? ⟨w6.heap.size, 0, none⟩ = some (.int .i64 m0) := (cbx w6 #[.int .i64 m0, .int .i64 m1] 23 (w6.heap.size) 0 (.int .i64 m0) (by simp) rfl)
  have k24 : (w6.alloc (.cells #[.int .i64 m0, .int .i64 m1] 23)).cell? ⟨w6.heap.size, 1, none⟩ = some (.int .i64 m1) := (cbx w6 #[.int .i64 m0, .int .i64 m1] 23 (w6.heap.size) 1 (.int .i64 m1) (by simp) rfl)
  replace hB : Below w.heap.size w (w6.alloc (.cells #[.int .i64 m0, .int .i64 m1] 23)) := (belA hB _)
  generalize (w6.alloc (.cells #[.int .i64 m0, .int .i64 m1] 23)) = v4 at *
  have zk1 : w.heap.size < v4.heap.size := World.block_lt_of_cell? v4 _ k1
  have zk9 : w2.heap.size < v4.heap.size := World.block_lt_of_cell? v4 _ k9
  have zk17 : w3.heap.size < v4.heap.size := World.block_lt_of_cell? v4 _ k17
  have zk19 : w4.heap.size < v4.heap.size := World.block_lt_of_cell? v4 _ k19
  have zk21 : w4.heap.size + 1 < v4.heap.size := World.block_lt_of_cell? v4 _ k21
  have zk23 : w6.heap.size < v4.heap.size := World.block_lt_of_cell? v4 _ k23
  clear HP HU0 HU1 HM0 HM1 A0 A1 A2 A3 k1 k2 k3 k4 k5 k6 k7 k8 k9 k10 k11 k12 k13 k14 k15 k16 zk1 zk9
  go_cut [11] (fun s11 wx => ∃ g : Nat, s11 = .pointer (some ⟨g, 0, none⟩) ∧ wx.cell? ⟨g, 0, none⟩ = some (.int .i64 a) ∧ wx.cell? ⟨g, 1, none⟩ = some (.int .i64 b) ∧ Below v4.heap.size v4 wx)
  case first =>
    clear HX HE HO HV E1 E2 E3 E4 HAC Em
    have hS : Hid (∀ w', Below v4.heap.size v4 w' → w'.cell? ⟨w3.heap.size, 0, none⟩ = some (.int .i64 a) ∧ w'.cell? ⟨w3.heap.size, 1, none⟩ = some (.int .i64 b) ∧ w'.cell? ⟨w4.heap.size, 0, none⟩ = some (.int .i64 c) ∧ w'.cell? ⟨w4.heap.size, 1, none⟩ = some (.int .i64 d) ∧ w'.cell? ⟨w4.heap.size + 1, 0, none⟩ = some (.int .i64 y4) ∧ w'.cell? ⟨w4.heap.size + 1, 1, none⟩ = some (.int .i64 y5) ∧ w'.cell? ⟨w6.heap.size, 0, none⟩ = some (.int .i64 m0) ∧ w'.cell? ⟨w6.heap.size, 1, none⟩ = some (.int .i64 m1) ∧ Below v4.heap.size v4 w') := Lib.hid (fun w' h => ⟨cell_call k17 h, cell_call k18 h, cell_call k19 h, cell_call k20 h, cell_call k21 h, cell_call k22 h, cell_call k23 h, cell_call k24 h, h⟩)
    have b3 : Below v4.heap.size v4 v4 := Below.refl _ _
    go_region_held3 (fun w' => w'.cell? ⟨w3.heap.size, 0, none⟩ = some (.int .i64 a) ∧ w'.cell? ⟨w3.heap.size, 1, none⟩ = some (.int .i64 b) ∧ w'.cell? ⟨w4.heap.size, 0, none⟩ = some (.int .i64 c) ∧ w'.cell? ⟨w4.heap.size, 1, none⟩ = some (.int .i64 d) ∧ w'.cell? ⟨w4.heap.size + 1, 0, none⟩ = some (.int .i64 y4) ∧ w'.cell? ⟨w4.heap.size + 1, 1, none⟩ = some (.int .i64 y5) ∧ w'.cell? ⟨w6.heap.size, 0, none⟩ = some (.int .i64 m0) ∧ w'.cell? ⟨w6.heap.size, 1, none⟩ = some (.int .i64 m1) ∧ Below v4.heap.size v4 w')
      ((go_split_ands; refine hS.out _ ?_; repeat (first | exact hb8 | assumption | apply Below.drew | (with_reducible refine belA ?_ _) | (with_reducible refine belS ?_ (by first | assumption | exact Nat.le_refl _ | exact Nat.le_succ _ | exact Nat.le_succ_of_le (by assumption)) _))))
      (first | (go_at_call 17; (first | (with_reducible refine (sub_is c d a b v0 v1 _ ic id ia ib HV0 HV1).mono ?_) | (with_reducible refine (sub_is m0 m1 n0 n1 a b _ im0 im1 in0 in1 F0 F1).mono ?_)); rintro e w9 ⟨rfl, hb9⟩; have hb8 : Below v4.heap.size v4 w9 := belT (by go_split_ands; repeat (first | assumption | apply Below.drew | (with_reducible refine belA ?_ _))) hb9; have hz8 : v4.heap.size ≤ w9.heap.size := hb8.size; obtain ⟨hc9, hf9⟩ := bcell hb9; have hs9 := hb9.size; (try simp at hs9); (try have hs9b := Nat.lt_of_succ_le hs9); (try have hs9c := Nat.lt_of_succ_lt hs9b); (try have hs9d : v4.heap.size < w9.heap.size := by omega); (try have hs9e : v4.heap.size + 1 < w9.heap.size := by omega)) | (go_at_call 29; (first | (with_reducible refine (half_is v0 v1 n0 n1 _ iv0 iv1 HN0 HN1).mono ?_)); rintro e w9 ⟨rfl, hb9⟩; have hb8 : Below v4.heap.size v4 w9 := belT (by go_split_ands; repeat (first | assumption | apply Below.drew | (with_reducible refine belA ?_ _))) hb9; have hz8 : v4.heap.size ≤ w9.heap.size := hb8.size; obtain ⟨hc9, hf9⟩ := bcell hb9; have hs9 := hb9.size; (try simp at hs9); (try have hs9b := Nat.lt_of_succ_le hs9); (try have hs9c := Nat.lt_of_succ_lt hs9b); (try have hs9d : v4.heap.size < w9.heap.size := by omega); (try have hs9e : v4.heap.size + 1 < w9.heap.size := by omega)) | fail)
    all_goals
      rename_i hH
      obtain ⟨_, _, _, _, _, _, _, _, bz⟩ := hH
      have fin := Lib.hid bz
      clear bz hS b3
      go_wp2_with fail
      go_meet
      refine ⟨_, rfl, ?_, ?_, fin.out⟩
      all_goals (first | rfl | (go_simp; done) | (go_simp; refine setc (x := .int .i64 0) ?_ _; go_simp; done))
  case rest =>
    obtain ⟨g, rfl, g0, g1, hb⟩ := hcut
    replace k17 := cell_call k17 hb
    replace k18 := cell_call k18 hb
    replace k19 := cell_call k19 hb
    replace k20 := cell_call k20 hb
    replace k21 := cell_call k21 hb
    replace k22 := cell_call k22 hb
    replace k23 := cell_call k23 hb
    replace k24 := cell_call k24 hb
    replace hB := belT hB hb
    clear hb
    clear HV0 HV1 HN0 HN1 F0 F1 zk17 zk19 zk21 zk23
    rename World => v5
    go_wp2_with fail
    refine (onseg_is a b c d y4 y5 v _ ia ib ic id ip iq HV).mono ?_; rintro e w21 ⟨rfl, hb⟩
    replace k17 : w21.cell? ⟨w3.heap.size, 0, none⟩ = some (.int .i64 a) := cell_call k17 hb
    replace k18 : w21.cell? ⟨w3.heap.size, 1, none⟩ = some (.int .i64 b) := cell_call k18 hb
    replace k19 : w21.cell? ⟨w4.heap.size, 0, none⟩ = some (.int .i64 c) := cell_call k19 hb
    replace k20 : w21.cell? ⟨w4.heap.size, 1, none⟩ = some (.int .i64 d) := cell_call k20 hb
    replace k21 : w21.cell? ⟨w4.heap.size + 1, 0, none⟩ = some (.int .i64 y4) := cell_call k21 hb
    replace k22 : w21.cell? ⟨w4.heap.size + 1, 1, none⟩ = some (.int .i64 y5) := cell_call k22 hb
    replace k23 : w21.cell? ⟨w6.heap.size, 0, none⟩ = some (.int .i64 m0) := cell_call k23 hb
    replace k24 : w21.cell? ⟨w6.heap.size, 1, none⟩ = some (.int .i64 m1) := cell_call k24 hb
    replace g0 : w21.cell? ⟨g, 0, none⟩ = some (.int .i64 a) := cell_call g0 hb
    replace g1 : w21.cell? ⟨g, 1, none⟩ = some (.int .i64 b) := cell_call g1 hb
    replace hB := belT hB hb
    clear hb
    have zk17 : w3.heap.size < w21.heap.size := World.block_lt_of_cell? w21 _ k17
    have zk19 : w4.heap.size < w21.heap.size := World.block_lt_of_cell? w21 _ k19
    have zk21 : w4.heap.size + 1 < w21.heap.size := World.block_lt_of_cell? w21 _ k21
    have zk23 : w6.heap.size < w21.heap.size := World.block_lt_of_cell? w21 _ k23
    have zg0 : g < w21.heap.size := World.block_lt_of_cell? w21 _ g0
    obtain ⟨x1, x2, x3, x4, y11, y12, y21, y22, y31, y32, y41, y42, hD⟩ := HX.out
    go_upto_region 10 with fail
    clear x1 x2 x3 x4 y11 y12 y21 y22 y31 y32 y41 y42 hD HX
    replace k17 : w21.cell? ⟨w3.heap.size, 0, none⟩ = some (.int .i64 a) := k17
    replace k18 : w21.cell? ⟨w3.heap.size, 1, none⟩ = some (.int .i64 b) := k18
    replace k19 : w21.cell? ⟨w4.heap.size, 0, none⟩ = some (.int .i64 c) := k19
    replace k20 : w21.cell? ⟨w4.heap.size, 1, none⟩ = some (.int .i64 d) := k20
    replace k21 : w21.cell? ⟨w4.heap.size + 1, 0, none⟩ = some (.int .i64 y4) := k21
    replace k22 : w21.cell? ⟨w4.heap.size + 1, 1, none⟩ = some (.int .i64 y5) := k22
    replace k23 : w21.cell? ⟨w6.heap.size, 0, none⟩ = some (.int .i64 m0) := k23
    replace k24 : w21.cell? ⟨w6.heap.size, 1, none⟩ = some (.int .i64 m1) := k24
    replace g0 : w21.cell? ⟨g, 0, none⟩ = some (.int .i64 a) := g0
    replace g1 : w21.cell? ⟨g, 1, none⟩ = some (.int .i64 b) := g1
    replace hB : Below w.heap.size w w21 := hB
    have zk17 : w3.heap.size < w21.heap.size := World.block_lt_of_cell? w21 _ k17
    have zk19 : w4.heap.size < w21.heap.size := World.block_lt_of_cell? w21 _ k19
    have zk21 : w4.heap.size + 1 < w21.heap.size := World.block_lt_of_cell? w21 _ k21
    have zk23 : w6.heap.size < w21.heap.size := World.block_lt_of_cell? w21 _ k23
    have zg0 : g < w21.heap.size := World.block_lt_of_cell? w21 _ g0
    go_cut [99] (fun s99 wx => s99 = .bool false ∧ Below w21.heap.size w21 wx)
    case first =>
      have he := HE.out
      clear E1 E2 E3 E4 HAC Em HE
      by_cases h0 : o = 0
      · by_cases hd : 0 ≤ D
        · by_cases h1 : a = c
          · by_cases h2 : b = d
            · by_cases h3 : a = y4
              · by_cases h4 : b = y5
                · have hv : v = true := by rw [he, decide_eq_true (p := y4 = a ∧ y5 = b) ⟨h3.symm, h4.symm⟩]; simp [h0, hd]
                  subst hv
                  clear he
                  subst h0
                  subst h1
                  subst h2
                  subst h3
                  subst h4
                  have hB6 : Below w21.heap.size w21 w21 := Below.refl _ _
                  clear hB
                  go_wp2_with fail
                  refine (orient_is _ _ _ _ _ _ _ _ ia ib ic id ip iq HO).mono ?_; rintro e w31 ⟨rfl, hb⟩
                  replace k17 := cell_call k17 hb
                  replace k18 := cell_call k18 hb
                  replace k19 := cell_call k19 hb
                  replace k20 := cell_call k20 hb
                  replace k21 := cell_call k21 hb
                  replace k22 := cell_call k22 hb
                  replace k23 := cell_call k23 hb
                  replace k24 := cell_call k24 hb
                  replace g0 := cell_call g0 hb
                  replace g1 := cell_call g1 hb
                  replace zg0 := World.block_lt_of_cell? _ _ g0
                  replace zk17 := World.block_lt_of_cell? _ _ k17
                  replace zk19 := World.block_lt_of_cell? _ _ k19
                  replace zk21 := World.block_lt_of_cell? _ _ k21
                  replace zk23 := World.block_lt_of_cell? _ _ k23
                  replace hB6 := belT hB6 hb
                  clear hb
                  go_wp2_with fail
                  go_meet
                  exact ⟨rfl, hB6⟩
                · have hv : v = false := by rw [he, decide_eq_false (p := y4 = a ∧ y5 = b) (fun x => h4 x.2.symm)]; simp [h1, h2]
                  subst hv
                  clear he
                  subst h0
                  subst h1
                  subst h2
                  subst h3
                  have hB6 : Below w21.heap.size w21 w21 := Below.refl _ _
                  clear hB
                  go_wp2_with fail
                  refine (orient_is _ _ _ _ _ _ _ _ ia ib ic id ip iq HO).mono ?_; rintro e w31 ⟨rfl, hb⟩
                  replace k17 := cell_call k17 hb
                  replace k18 := cell_call k18 hb
                  replace k19 := cell_call k19 hb
                  replace k20 := cell_call k20 hb
                  replace k21 := cell_call k21 hb
                  replace k22 := cell_call k22 hb
                  replace k23 := cell_call k23 hb
                  replace k24 := cell_call k24 hb
                  replace g0 := cell_call g0 hb
                  replace g1 := cell_call g1 hb
                  replace zg0 := World.block_lt_of_cell? _ _ g0
                  replace zk17 := World.block_lt_of_cell? _ _ k17
                  replace zk19 := World.block_lt_of_cell? _ _ k19
                  replace zk21 := World.block_lt_of_cell? _ _ k21
                  replace zk23 := World.block_lt_of_cell? _ _ k23
                  replace hB6 := belT hB6 hb
                  clear hb
                  go_wp2_with fail
                  go_meet
                  exact ⟨rfl, hB6⟩
              · have hv : v = false := by rw [he, decide_eq_false (p := y4 = a ∧ y5 = b) (fun x => h3 x.1.symm)]; simp [h1, h2]
                subst hv
                clear he
                subst h0
                subst h1
                subst h2
                have hB6 : Below w21.heap.size w21 w21 := Below.refl _ _
                clear hB
                go_wp2_with fail
                refine (orient_is _ _ _ _ _ _ _ _ ia ib ic id ip iq HO).mono ?_; rintro e w31 ⟨rfl, hb⟩
                replace k17 := cell_call k17 hb
                replace k18 := cell_call k18 hb
                replace k19 := cell_call k19 hb
                replace k20 := cell_call k20 hb
                replace k21 := cell_call k21 hb
                replace k22 := cell_call k22 hb
                replace k23 := cell_call k23 hb
                replace k24 := cell_call k24 hb
                replace g0 := cell_call g0 hb
                replace g1 := cell_call g1 hb
                replace zg0 := World.block_lt_of_cell? _ _ g0
                replace zk17 := World.block_lt_of_cell? _ _ k17
                replace zk19 := World.block_lt_of_cell? _ _ k19
                replace zk21 := World.block_lt_of_cell? _ _ k21
                replace zk23 := World.block_lt_of_cell? _ _ k23
                replace hB6 := belT hB6 hb
                clear hb
                go_wp2_with fail
                go_meet
                exact ⟨rfl, hB6⟩
            · have hv : v = true := by rw [he]; simp [h0, hd, h1, h2]
              subst hv
              clear he
              subst h0
              subst h1
              have hB6 : Below w21.heap.size w21 w21 := Below.refl _ _
              clear hB
              go_wp2_with fail
              refine (orient_is _ _ _ _ _ _ _ _ ia ib ic id ip iq HO).mono ?_; rintro e w31 ⟨rfl, hb⟩
              replace k17 := cell_call k17 hb
              replace k18 := cell_call k18 hb
              replace k19 := cell_call k19 hb
              replace k20 := cell_call k20 hb
              replace k21 := cell_call k21 hb
              replace k22 := cell_call k22 hb
              replace k23 := cell_call k23 hb
              replace k24 := cell_call k24 hb
              replace g0 := cell_call g0 hb
              replace g1 := cell_call g1 hb
              replace zg0 := World.block_lt_of_cell? _ _ g0
              replace zk17 := World.block_lt_of_cell? _ _ k17
              replace zk19 := World.block_lt_of_cell? _ _ k19
              replace zk21 := World.block_lt_of_cell? _ _ k21
              replace zk23 := World.block_lt_of_cell? _ _ k23
              replace hB6 := belT hB6 hb
              clear hb
              go_wp2_with fail
              go_meet
              exact ⟨rfl, hB6⟩
          · have hv : v = true := by rw [he]; simp [h0, hd, h1]
            subst hv
            clear he
            subst h0
            have hB6 : Below w21.heap.size w21 w21 := Below.refl _ _
            clear hB
            go_wp2_with fail
            refine (orient_is _ _ _ _ _ _ _ _ ia ib ic id ip iq HO).mono ?_; rintro e w31 ⟨rfl, hb⟩
            replace k17 := cell_call k17 hb
            replace k18 := cell_call k18 hb
            replace k19 := cell_call k19 hb
            replace k20 := cell_call k20 hb
            replace k21 := cell_call k21 hb
            replace k22 := cell_call k22 hb
            replace k23 := cell_call k23 hb
            replace k24 := cell_call k24 hb
            replace g0 := cell_call g0 hb
            replace g1 := cell_call g1 hb
            replace zg0 := World.block_lt_of_cell? _ _ g0
            replace zk17 := World.block_lt_of_cell? _ _ k17
            replace zk19 := World.block_lt_of_cell? _ _ k19
            replace zk21 := World.block_lt_of_cell? _ _ k21
            replace zk23 := World.block_lt_of_cell? _ _ k23
            replace hB6 := belT hB6 hb
            clear hb
            go_wp2_with fail
            go_meet
            exact ⟨rfl, hB6⟩
        · have hv : v = false := by rw [he]; simp [h0, hd]
          subst hv
          clear he
          subst h0
          have hB6 : Below w21.heap.size w21 w21 := Below.refl _ _
          clear hB
          go_wp2_with fail
          refine (orient_is _ _ _ _ _ _ _ _ ia ib ic id ip iq HO).mono ?_; rintro e w31 ⟨rfl, hb⟩
          replace k17 := cell_call k17 hb
          replace k18 := cell_call k18 hb
          replace k19 := cell_call k19 hb
          replace k20 := cell_call k20 hb
          replace k21 := cell_call k21 hb
          replace k22 := cell_call k22 hb
          replace k23 := cell_call k23 hb
          replace k24 := cell_call k24 hb
          replace g0 := cell_call g0 hb
          replace g1 := cell_call g1 hb
          replace zg0 := World.block_lt_of_cell? _ _ g0
          replace zk17 := World.block_lt_of_cell? _ _ k17
          replace zk19 := World.block_lt_of_cell? _ _ k19
          replace zk21 := World.block_lt_of_cell? _ _ k21
          replace zk23 := World.block_lt_of_cell? _ _ k23
          replace hB6 := belT hB6 hb
          clear hb
          go_wp2_with fail
          go_meet
          exact ⟨rfl, hB6⟩
      · have hv : v = false := by rw [he]; simp [h0]
        subst hv
        clear he
        have hB6 : Below w21.heap.size w21 w21 := Below.refl _ _
        clear hB
        go_wp2_with fail
        refine (orient_is _ _ _ _ _ _ _ _ ia ib ic id ip iq HO).mono ?_; rintro e w31 ⟨rfl, hb⟩
        replace k17 := cell_call k17 hb
        replace k18 := cell_call k18 hb
        replace k19 := cell_call k19 hb
        replace k20 := cell_call k20 hb
        replace k21 := cell_call k21 hb
        replace k22 := cell_call k22 hb
        replace k23 := cell_call k23 hb
        replace k24 := cell_call k24 hb
        replace g0 := cell_call g0 hb
        replace g1 := cell_call g1 hb
        replace zg0 := World.block_lt_of_cell? _ _ g0
        replace zk17 := World.block_lt_of_cell? _ _ k17
        replace zk19 := World.block_lt_of_cell? _ _ k19
        replace zk21 := World.block_lt_of_cell? _ _ k21
        replace zk23 := World.block_lt_of_cell? _ _ k23
        replace hB6 := belT hB6 hb
        clear hb
        go_wp2_with fail
        go_meet
        exact ⟨rfl, hB6⟩
    case rest =>
      obtain ⟨rfl, hb⟩ := hcut
      replace k17 := cell_call k17 hb
      replace k18 := cell_call k18 hb
      replace k19 := cell_call k19 hb
      replace k20 := cell_call k20 hb
      replace k21 := cell_call k21 hb
      replace k22 := cell_call k22 hb
      replace k23 := cell_call k23 hb
      replace k24 := cell_call k24 hb
      replace g0 := cell_call g0 hb
      replace g1 := cell_call g1 hb
      replace hB := belT hB hb
      clear hb HE HO HV
      clear zg0 zk17 zk19 zk21 zk23
      rename World => v7
      go_wp2_with fail
      replace k17 : v7.cell? ⟨w3.heap.size, 0, none⟩ = some (.int .i64 a) := k17
      replace k18 : v7.cell? ⟨w3.heap.size, 1, none⟩ = some (.int .i64 b) := k18
      replace k19 : v7.cell? ⟨w4.heap.size, 0, none⟩ = some (.int .i64 c) := k19
      replace k20 : v7.cell? ⟨w4.heap.size, 1, none⟩ = some (.int .i64 d) := k20
      replace k21 : v7.cell? ⟨w4.heap.size + 1, 0, none⟩ = some (.int .i64 y4) := k21
      replace k22 : v7.cell? ⟨w4.heap.size + 1, 1, none⟩ = some (.int .i64 y5) := k22
      replace k23 : v7.cell? ⟨w6.heap.size, 0, none⟩ = some (.int .i64 m0) := k23
      replace k24 : v7.cell? ⟨w6.heap.size, 1, none⟩ = some (.int .i64 m1) := k24
      replace g0 : v7.cell? ⟨g, 0, none⟩ = some (.int .i64 a) := g0
      replace g1 : v7.cell? ⟨g, 1, none⟩ = some (.int .i64 b) := g1
      replace hB : Below w.heap.size w v7 := hB
      have zk17 : w3.heap.size < v7.heap.size := World.block_lt_of_cell? v7 _ k17
      have zk19 : w4.heap.size < v7.heap.size := World.block_lt_of_cell? v7 _ k19
      have zk21 : w4.heap.size + 1 < v7.heap.size := World.block_lt_of_cell? v7 _ k21
      have zk23 : w6.heap.size < v7.heap.size := World.block_lt_of_cell? v7 _ k23
      have zg0 : g < v7.heap.size := World.block_lt_of_cell? v7 _ g0
      rcases HAC.out with ⟨h1, h2⟩ | h1 | ⟨h1, h2⟩
      · rw [show decide (a = y4 ∧ b = y5) = true by simp [h1, h2]] at E4
        clear HAC
        subst h1 h2
        obtain ⟨sp, hsp⟩ : ∃ sp : Told, sp = [none, none, none, none, some (.inl (.bool true)), none, none, none, none, none, none, none, none, none, none, none, none, none, none, none, none, none, none, none, none, none, none, none, none, none, none, none, none, none, none, none, none, none, none, none, none, none, none, none, none, none, none, none, none, none, none, none, none, none, none, none, none, none, none, none, none, none, none, none, none, none, none, none, none, none, none, none, none, none, none, none, none, none, none, none, none, none, none, none, none, none, none, none, none, none, none, none, none, none, none, none, none, none, none, none, some (.inl (.bool true)), some (.inl (.bool true)), some (.inl (.agg #[.int .i64 a, .int .i64 b])), some (.inl (.agg #[.int .i64 c, .int .i64 d])), some (.inl (.agg #[.int .i64 a, .int .i64 b])), some (.inl (.bool true)), some (.inl (.bool true)), some (.inl (.bool true)), some (.inl (.agg #[.int .i64 a, .int .i64 b])), some (.inl (.agg #[.int .i64 c, .int .i64 d])), some (.inl (.agg #[.int .i64 c, .int .i64 d])), some (.inl (.bool true)), some (.inl (.bool true)), some (.inl (.bool true)), some (.inl (.agg #[.int .i64 a, .int .i64 b])), some (.inl (.agg #[.int .i64 c, .int .i64 d])), some (.inl (.agg #[.int .i64 m0, .int .i64 m1])), some (.inl (.bool true)), some (.inl (.bool true)), some (.inl (.bool true)), some (.inl (.agg #[.int .i64 a, .int .i64 b])), some (.inl (.agg #[.int .i64 a, .int .i64 b])), some (.inl (.bool true)), some (.inl (.bool true)), some (.inl (.bool true)), some (.inl (.bool v)), some (.inl (.agg #[.int .i64 c, .int .i64 d])), some (.inl (.agg #[.int .i64 a, .int .i64 b])), some (.inl (.agg #[.int .i64 a, .int .i64 b])), some (.inl (.bool v)), some (.inl (.bool true)), some (.inl (.bool true)), some (.inl (.bool true)), some (.inl (.agg #[.int .i64 a, .int .i64 b])), some (.inl (.agg #[.int .i64 a, .int .i64 b])), some (.inl (.agg #[.int .i64 a, .int .i64 b])), some (.inl (.bool true)), some (.inl (.agg #[.int .i64 a, .int .i64 b])), some (.inl (.agg #[.int .i64 a, .int .i64 b])), some (.inl (.bool true)), some (.inl (.bool true)), some (.inl (.bool true))] := ⟨_, rfl⟩
        have s4 : sp.getD 4 none = some (.inl (.bool true)) := by rw [hsp]; rfl
        have s100 : sp.getD 100 none = some (.inl (.bool true)) := by rw [hsp]; rfl
        have s101 : sp.getD 101 none = some (.inl (.bool true)) := by rw [hsp]; rfl
        have s102 : sp.getD 102 none = some (.inl (.agg #[.int .i64 a, .int .i64 b])) := by rw [hsp]; rfl
        have s103 : sp.getD 103 none = some (.inl (.agg #[.int .i64 c, .int .i64 d])) := by rw [hsp]; rfl
        have s104 : sp.getD 104 none = some (.inl (.agg #[.int .i64 a, .int .i64 b])) := by rw [hsp]; rfl
        have s105 : sp.getD 105 none = some (.inl (.bool true)) := by rw [hsp]; rfl
        have s106 : sp.getD 106 none = some (.inl (.bool true)) := by rw [hsp]; rfl
        have s107 : sp.getD 107 none = some (.inl (.bool true)) := by rw [hsp]; rfl
        have s108 : sp.getD 108 none = some (.inl (.agg #[.int .i64 a, .int .i64 b])) := by rw [hsp]; rfl
        have s109 : sp.getD 109 none = some (.inl (.agg #[.int .i64 c, .int .i64 d])) := by rw [hsp]; rfl
        have s110 : sp.getD 110 none = some (.inl (.agg #[.int .i64 c, .int .i64 d])) := by rw [hsp]; rfl
        have s111 : sp.getD 111 none = some (.inl (.bool true)) := by rw [hsp]; rfl
        have s112 : sp.getD 112 none = some (.inl (.bool true)) := by rw [hsp]; rfl
        have s113 : sp.getD 113 none = some (.inl (.bool true)) := by rw [hsp]; rfl
        have s114 : sp.getD 114 none = some (.inl (.agg #[.int .i64 a, .int .i64 b])) := by rw [hsp]; rfl
        have s115 : sp.getD 115 none = some (.inl (.agg #[.int .i64 c, .int .i64 d])) := by rw [hsp]; rfl
        have s116 : sp.getD 116 none = some (.inl (.agg #[.int .i64 m0, .int .i64 m1])) := by rw [hsp]; rfl
        have s117 : sp.getD 117 none = some (.inl (.bool true)) := by rw [hsp]; rfl
        have s118 : sp.getD 118 none = some (.inl (.bool true)) := by rw [hsp]; rfl
        have s119 : sp.getD 119 none = some (.inl (.bool true)) := by rw [hsp]; rfl
        have s120 : sp.getD 120 none = some (.inl (.agg #[.int .i64 a, .int .i64 b])) := by rw [hsp]; rfl
        have s121 : sp.getD 121 none = some (.inl (.agg #[.int .i64 a, .int .i64 b])) := by rw [hsp]; rfl
        have s122 : sp.getD 122 none = some (.inl (.bool true)) := by rw [hsp]; rfl
        have s123 : sp.getD 123 none = some (.inl (.bool true)) := by rw [hsp]; rfl
        have s124 : sp.getD 124 none = some (.inl (.bool true)) := by rw [hsp]; rfl
        have s125 : sp.getD 125 none = some (.inl (.bool v)) := by rw [hsp]; rfl
        have s126 : sp.getD 126 none = some (.inl (.agg #[.int .i64 c, .int .i64 d])) := by rw [hsp]; rfl
        have s127 : sp.getD 127 none = some (.inl (.agg #[.int .i64 a, .int .i64 b])) := by rw [hsp]; rfl
        have s128 : sp.getD 128 none = some (.inl (.agg #[.int .i64 a, .int .i64 b])) := by rw [hsp]; rfl
        have s129 : sp.getD 129 none = some (.inl (.bool v)) := by rw [hsp]; rfl
        have s130 : sp.getD 130 none = some (.inl (.bool true)) := by rw [hsp]; rfl
        have s131 : sp.getD 131 none = some (.inl (.bool true)) := by rw [hsp]; rfl
        have s132 : sp.getD 132 none = some (.inl (.bool true)) := by rw [hsp]; rfl
        have s133 : sp.getD 133 none = some (.inl (.agg #[.int .i64 a, .int .i64 b])) := by rw [hsp]; rfl
        have s134 : sp.getD 134 none = some (.inl (.agg #[.int .i64 a, .int .i64 b])) := by rw [hsp]; rfl
        have s135 : sp.getD 135 none = some (.inl (.agg #[.int .i64 a, .int .i64 b])) := by rw [hsp]; rfl
        have s136 : sp.getD 136 none = some (.inl (.bool true)) := by rw [hsp]; rfl
        have s137 : sp.getD 137 none = some (.inl (.agg #[.int .i64 a, .int .i64 b])) := by rw [hsp]; rfl
        have s138 : sp.getD 138 none = some (.inl (.agg #[.int .i64 a, .int .i64 b])) := by rw [hsp]; rfl
        have s139 : sp.getD 139 none = some (.inl (.bool true)) := by rw [hsp]; rfl
        have s140 : sp.getD 140 none = some (.inl (.bool true)) := by rw [hsp]; rfl
        have s141 : sp.getD 141 none = some (.inl (.bool true)) := by rw [hsp]; rfl
        clear hsp
        refine region_obs sp (by kernel_rfl) (by kernel_rfl) ?_ ?_
        · rw [List.toList_toArray]
          refine obs_cons ?_ ?_
          · intro T wx K hB hF hD hK
            have g5 : T[5]? = some (.bool true) := hF 5 (free_of (by kernel_rfl))
            refine ob_yes (wanted_none rfl) ?_
            clear hF hD
            go_simp
            exact hK _ _ (Below.refl _ _) (rt_eq s100)
          refine obs_cons ?_ ?_
          · intro T wx K hB hF hD hK
            have g100 := get_eq (hD 0 100 (by simp [Region.binds]) (by kernel_rfl)) s100
            refine ob_yes (wanted_none rfl) ?_
            clear hF hD
            go_simp
            exact hK _ _ (Below.refl _ _) (rt_eq s101)
          refine obs_cons ?_ ?_
          · intro T wx K hB hF hD hK
            have g101 := get_eq (hD 1 101 (by simp [Region.binds]) (by kernel_rfl)) s101
            have g7 : T[7]? = some (.pointer (some ⟨w3.heap.size, 0, none⟩)) := hF 7 (free_of (by kernel_rfl))
            refine ob_yes (wanted_yes rfl (by kernel_rfl) g101) ?_
            clear hF hD
            have c0 := cell_call k17 hB
            have c1 := cell_call k18 hB
            go_simp
            exact hK _ _ (Below.refl _ _) (rt_eq s102)
          refine obs_cons ?_ ?_
          · intro T wx K hB hF hD hK
            have g101 := get_eq (hD 1 101 (by simp [Region.binds]) (by kernel_rfl)) s101
            have g8 : T[8]? = some (.pointer (some ⟨w4.heap.size, 0, none⟩)) := hF 8 (free_of (by kernel_rfl))
            refine ob_yes (wanted_yes rfl (by kernel_rfl) g101) ?_
            clear hF hD
            have c0 := cell_call k19 hB
            have c1 := cell_call k20 hB
            go_simp
            exact hK _ _ (Below.refl _ _) (rt_eq s103)
          refine obs_cons ?_ ?_
          · intro T wx K hB hF hD hK
            have g101 := get_eq (hD 1 101 (by simp [Region.binds]) (by kernel_rfl)) s101
            have g7 : T[7]? = some (.pointer (some ⟨w3.heap.size, 0, none⟩)) := hF 7 (free_of (by kernel_rfl))
            refine ob_yes (wanted_yes rfl (by kernel_rfl) g101) ?_
            clear hF hD
            have c0 := cell_call k17 hB
            have c1 := cell_call k18 hB
            go_simp
            exact hK _ _ (Below.refl _ _) (rt_eq s104)
          refine obs_cons ?_ ?_
          · intro T wx K hB hF hD hK
            have g101 := get_eq (hD 1 101 (by simp [Region.binds]) (by kernel_rfl)) s101
            have g102 := get_eq (hD 2 102 (by simp [Region.binds]) (by kernel_rfl)) s102
            have g103 := get_eq (hD 3 103 (by simp [Region.binds]) (by kernel_rfl)) s103
            have g104 := get_eq (hD 4 104 (by simp [Region.binds]) (by kernel_rfl)) s104
            refine ob_yes (wanted_yes rfl (by kernel_rfl) g101) ?_
            clear hF hD
            go_simp
            refine (onseg_is a b c d a b true _ ia ib ic id ia ib E1).mono ?_; rintro e w9 ⟨rfl, hb⟩
            exact hK _ _ hb (rt_eq s105)
          refine obs_cons ?_ ?_
          · intro T wx K hB hF hD hK
            have g101 := get_eq (hD 1 101 (by simp [Region.binds]) (by kernel_rfl)) s101
            have g105 := get_eq (hD 5 105 (by simp [Region.binds]) (by kernel_rfl)) s105
            refine ob_yes (wanted_none rfl) ?_
            clear hF hD
            go_simp
            exact hK _ _ (Below.refl _ _) (rt_eq s106)
          refine obs_cons ?_ ?_
          · intro T wx K hB hF hD hK
            have g106 := get_eq (hD 6 106 (by simp [Region.binds]) (by kernel_rfl)) s106
            refine ob_yes (wanted_none rfl) ?_
            clear hF hD
            go_simp
            exact hK _ _ (Below.refl _ _) (rt_eq s107)
          refine obs_cons ?_ ?_
          · intro T wx K hB hF hD hK
            have g107 := get_eq (hD 7 107 (by simp [Region.binds]) (by kernel_rfl)) s107
            have g7 : T[7]? = some (.pointer (some ⟨w3.heap.size, 0, none⟩)) := hF 7 (free_of (by kernel_rfl))
            refine ob_yes (wanted_yes rfl (by kernel_rfl) g107) ?_
            clear hF hD
            have c0 := cell_call k17 hB
            have c1 := cell_call k18 hB
            go_simp
            exact hK _ _ (Below.refl _ _) (rt_eq s108)
          refine obs_cons ?_ ?_
          · intro T wx K hB hF hD hK
            have g107 := get_eq (hD 7 107 (by simp [Region.binds]) (by kernel_rfl)) s107
            have g8 : T[8]? = some (.pointer (some ⟨w4.heap.size, 0, none⟩)) := hF 8 (free_of (by kernel_rfl))
            refine ob_yes (wanted_yes rfl (by kernel_rfl) g107) ?_
            clear hF hD
            have c0 := cell_call k19 hB
            have c1 := cell_call k20 hB
            go_simp
            exact hK _ _ (Below.refl _ _) (rt_eq s109)
          refine obs_cons ?_ ?_
          · intro T wx K hB hF hD hK
            have g107 := get_eq (hD 7 107 (by simp [Region.binds]) (by kernel_rfl)) s107
            have g8 : T[8]? = some (.pointer (some ⟨w4.heap.size, 0, none⟩)) := hF 8 (free_of (by kernel_rfl))
            refine ob_yes (wanted_yes rfl (by kernel_rfl) g107) ?_
            clear hF hD
            have c0 := cell_call k19 hB
            have c1 := cell_call k20 hB
            go_simp
            exact hK _ _ (Below.refl _ _) (rt_eq s110)
          refine obs_cons ?_ ?_
          · intro T wx K hB hF hD hK
            have g107 := get_eq (hD 7 107 (by simp [Region.binds]) (by kernel_rfl)) s107
            have g108 := get_eq (hD 8 108 (by simp [Region.binds]) (by kernel_rfl)) s108
            have g109 := get_eq (hD 9 109 (by simp [Region.binds]) (by kernel_rfl)) s109
            have g110 := get_eq (hD 10 110 (by simp [Region.binds]) (by kernel_rfl)) s110
            refine ob_yes (wanted_yes rfl (by kernel_rfl) g107) ?_
            clear hF hD
            go_simp
            refine (onseg_is a b c d c d true _ ia ib ic id ic id E2).mono ?_; rintro e w9 ⟨rfl, hb⟩
            exact hK _ _ hb (rt_eq s111)
          refine obs_cons ?_ ?_
          · intro T wx K hB hF hD hK
            have g107 := get_eq (hD 7 107 (by simp [Region.binds]) (by kernel_rfl)) s107
            have g111 := get_eq (hD 11 111 (by simp [Region.binds]) (by kernel_rfl)) s111
            refine ob_yes (wanted_none rfl) ?_
            clear hF hD
            go_simp
            exact hK _ _ (Below.refl _ _) (rt_eq s112)
          refine obs_cons ?_ ?_
          · intro T wx K hB hF hD hK
            have g112 := get_eq (hD 12 112 (by simp [Region.binds]) (by kernel_rfl)) s112
            refine ob_yes (wanted_none rfl) ?_
            clear hF hD
            go_simp
            exact hK _ _ (Below.refl _ _) (rt_eq s113)
          refine obs_cons ?_ ?_
          · intro T wx K hB hF hD hK
            have g113 := get_eq (hD 13 113 (by simp [Region.binds]) (by kernel_rfl)) s113
            have g7 : T[7]? = some (.pointer (some ⟨w3.heap.size, 0, none⟩)) := hF 7 (free_of (by kernel_rfl))
            refine ob_yes (wanted_yes rfl (by kernel_rfl) g113) ?_
            clear hF hD
            have c0 := cell_call k17 hB
            have c1 := cell_call k18 hB
            go_simp
            exact hK _ _ (Below.refl _ _) (rt_eq s114)
          refine obs_cons ?_ ?_
          · intro T wx K hB hF hD hK
            have g113 := get_eq (hD 13 113 (by simp [Region.binds]) (by kernel_rfl)) s113
            have g8 : T[8]? = some (.pointer (some ⟨w4.heap.size, 0, none⟩)) := hF 8 (free_of (by kernel_rfl))
            refine ob_yes (wanted_yes rfl (by kernel_rfl) g113) ?_
            clear hF hD
            have c0 := cell_call k19 hB
            have c1 := cell_call k20 hB
            go_simp
            exact hK _ _ (Below.refl _ _) (rt_eq s115)
          refine obs_cons ?_ ?_
          · intro T wx K hB hF hD hK
            have g113 := get_eq (hD 13 113 (by simp [Region.binds]) (by kernel_rfl)) s113
            have g10 : T[10]? = some (.pointer (some ⟨w6.heap.size, 0, none⟩)) := hF 10 (free_of (by kernel_rfl))
            refine ob_yes (wanted_yes rfl (by kernel_rfl) g113) ?_
            clear hF hD
            have c0 := cell_call k23 hB
            have c1 := cell_call k24 hB
            go_simp
            exact hK _ _ (Below.refl _ _) (rt_eq s116)
          refine obs_cons ?_ ?_
          · intro T wx K hB hF hD hK
            have g113 := get_eq (hD 13 113 (by simp [Region.binds]) (by kernel_rfl)) s113
            have g114 := get_eq (hD 14 114 (by simp [Region.binds]) (by kernel_rfl)) s114
            have g115 := get_eq (hD 15 115 (by simp [Region.binds]) (by kernel_rfl)) s115
            have g116 := get_eq (hD 16 116 (by simp [Region.binds]) (by kernel_rfl)) s116
            refine ob_yes (wanted_yes rfl (by kernel_rfl) g113) ?_
            clear hF hD
            go_simp
            refine (onseg_is a b c d m0 m1 true _ ia ib ic id im0 im1 Em).mono ?_; rintro e w9 ⟨rfl, hb⟩
            exact hK _ _ hb (rt_eq s117)
          refine obs_cons ?_ ?_
          · intro T wx K hB hF hD hK
            have g113 := get_eq (hD 13 113 (by simp [Region.binds]) (by kernel_rfl)) s113
            have g117 := get_eq (hD 17 117 (by simp [Region.binds]) (by kernel_rfl)) s117
            refine ob_yes (wanted_none rfl) ?_
            clear hF hD
            go_simp
            exact hK _ _ (Below.refl _ _) (rt_eq s118)
          refine obs_cons ?_ ?_
          · intro T wx K hB hF hD hK
            have g118 := get_eq (hD 18 118 (by simp [Region.binds]) (by kernel_rfl)) s118
            refine ob_yes (wanted_none rfl) ?_
            clear hF hD
            go_simp
            exact hK _ _ (Below.refl _ _) (rt_eq s119)
          refine obs_cons ?_ ?_
          · intro T wx K hB hF hD hK
            have g119 := get_eq (hD 19 119 (by simp [Region.binds]) (by kernel_rfl)) s119
            have g11 : T[11]? = some (.pointer (some ⟨g, 0, none⟩)) := hF 11 (free_of (by kernel_rfl))
            refine ob_yes (wanted_yes rfl (by kernel_rfl) g119) ?_
            clear hF hD
            have c0 := cell_call g0 hB
            have c1 := cell_call g1 hB
            go_simp
            exact hK _ _ (Below.refl _ _) (rt_eq s120)
          refine obs_cons ?_ ?_
          · intro T wx K hB hF hD hK
            have g119 := get_eq (hD 19 119 (by simp [Region.binds]) (by kernel_rfl)) s119
            have g7 : T[7]? = some (.pointer (some ⟨w3.heap.size, 0, none⟩)) := hF 7 (free_of (by kernel_rfl))
            refine ob_yes (wanted_yes rfl (by kernel_rfl) g119) ?_
            clear hF hD
            have c0 := cell_call k17 hB
            have c1 := cell_call k18 hB
            go_simp
            exact hK _ _ (Below.refl _ _) (rt_eq s121)
          refine obs_cons ?_ ?_
          · intro T wx K hB hF hD hK
            have g119 := get_eq (hD 19 119 (by simp [Region.binds]) (by kernel_rfl)) s119
            have g120 := get_eq (hD 20 120 (by simp [Region.binds]) (by kernel_rfl)) s120
            have g121 := get_eq (hD 21 121 (by simp [Region.binds]) (by kernel_rfl)) s121
            refine ob_yes (wanted_yes rfl (by kernel_rfl) g119) ?_
            clear hF hD
            go_simp
            exact hK _ _ (Below.refl _ _) (rt_eq s122)
          refine obs_cons ?_ ?_
          · intro T wx K hB hF hD hK
            have g119 := get_eq (hD 19 119 (by simp [Region.binds]) (by kernel_rfl)) s119
            have g122 := get_eq (hD 22 122 (by simp [Region.binds]) (by kernel_rfl)) s122
            refine ob_yes (wanted_none rfl) ?_
            clear hF hD
            go_simp
            exact hK _ _ (Below.refl _ _) (rt_eq s123)
          refine obs_cons ?_ ?_
          · intro T wx K hB hF hD hK
            have g123 := get_eq (hD 23 123 (by simp [Region.binds]) (by kernel_rfl)) s123
            refine ob_yes (wanted_none rfl) ?_
            clear hF hD
            go_simp
            exact hK _ _ (Below.refl _ _) (rt_eq s124)
          refine obs_cons ?_ ?_
          · intro T wx K hB hF hD hK
            have g124 := get_eq (hD 24 124 (by simp [Region.binds]) (by kernel_rfl)) s124
            have g12 : T[12]? = some (.bool v) := hF 12 (free_of (by kernel_rfl))
            refine ob_yes (wanted_yes rfl (by kernel_rfl) g124) ?_
            clear hF hD
            go_simp
            exact hK _ _ (Below.refl _ _) (rt_eq s125)
          refine obs_cons ?_ ?_
          · intro T wx K hB hF hD hK
            have g124 := get_eq (hD 24 124 (by simp [Region.binds]) (by kernel_rfl)) s124
            have g8 : T[8]? = some (.pointer (some ⟨w4.heap.size, 0, none⟩)) := hF 8 (free_of (by kernel_rfl))
            refine ob_yes (wanted_yes rfl (by kernel_rfl) g124) ?_
            clear hF hD
            have c0 := cell_call k19 hB
            have c1 := cell_call k20 hB
            go_simp
            exact hK _ _ (Below.refl _ _) (rt_eq s126)
          refine obs_cons ?_ ?_
          · intro T wx K hB hF hD hK
            have g124 := get_eq (hD 24 124 (by simp [Region.binds]) (by kernel_rfl)) s124
            have g7 : T[7]? = some (.pointer (some ⟨w3.heap.size, 0, none⟩)) := hF 7 (free_of (by kernel_rfl))
            refine ob_yes (wanted_yes rfl (by kernel_rfl) g124) ?_
            clear hF hD
            have c0 := cell_call k17 hB
            have c1 := cell_call k18 hB
            go_simp
            exact hK _ _ (Below.refl _ _) (rt_eq s127)
          refine obs_cons ?_ ?_
          · intro T wx K hB hF hD hK
            have g124 := get_eq (hD 24 124 (by simp [Region.binds]) (by kernel_rfl)) s124
            have g9 : T[9]? = some (.pointer (some ⟨w4.heap.size + 1, 0, none⟩)) := hF 9 (free_of (by kernel_rfl))
            refine ob_yes (wanted_yes rfl (by kernel_rfl) g124) ?_
            clear hF hD
            have c0 := cell_call k21 hB
            have c1 := cell_call k22 hB
            go_simp
            exact hK _ _ (Below.refl _ _) (rt_eq s128)
          refine obs_cons ?_ ?_
          · intro T wx K hB hF hD hK
            have g124 := get_eq (hD 24 124 (by simp [Region.binds]) (by kernel_rfl)) s124
            have g126 := get_eq (hD 26 126 (by simp [Region.binds]) (by kernel_rfl)) s126
            have g127 := get_eq (hD 27 127 (by simp [Region.binds]) (by kernel_rfl)) s127
            have g128 := get_eq (hD 28 128 (by simp [Region.binds]) (by kernel_rfl)) s128
            refine ob_yes (wanted_yes rfl (by kernel_rfl) g124) ?_
            clear hF hD
            go_simp
            refine (onseg_is c d a b a b v _ ic id ia ib ia ib E3).mono ?_; rintro e w9 ⟨rfl, hb⟩
            exact hK _ _ hb (rt_eq s129)
          refine obs_cons ?_ ?_
          · intro T wx K hB hF hD hK
            have g124 := get_eq (hD 24 124 (by simp [Region.binds]) (by kernel_rfl)) s124
            have g125 := get_eq (hD 25 125 (by simp [Region.binds]) (by kernel_rfl)) s125
            have g129 := get_eq (hD 29 129 (by simp [Region.binds]) (by kernel_rfl)) s129
            refine ob_yes (wanted_yes rfl (by kernel_rfl) g124) ?_
            clear hF hD
            go_simp
            exact hK _ _ (Below.refl _ _) (rt_eq s130)
          refine obs_cons ?_ ?_
          · intro T wx K hB hF hD hK
            have g124 := get_eq (hD 24 124 (by simp [Region.binds]) (by kernel_rfl)) s124
            have g130 := get_eq (hD 30 130 (by simp [Region.binds]) (by kernel_rfl)) s130
            refine ob_yes (wanted_none rfl) ?_
            clear hF hD
            go_simp
            exact hK _ _ (Below.refl _ _) (rt_eq s131)
          refine obs_cons ?_ ?_
          · intro T wx K hB hF hD hK
            have g131 := get_eq (hD 31 131 (by simp [Region.binds]) (by kernel_rfl)) s131
            refine ob_yes (wanted_none rfl) ?_
            clear hF hD
            go_simp
            exact hK _ _ (Below.refl _ _) (rt_eq s132)
          refine obs_cons ?_ ?_
          · intro T wx K hB hF hD hK
            have g132 := get_eq (hD 32 132 (by simp [Region.binds]) (by kernel_rfl)) s132
            have g7 : T[7]? = some (.pointer (some ⟨w3.heap.size, 0, none⟩)) := hF 7 (free_of (by kernel_rfl))
            refine ob_yes (wanted_yes rfl (by kernel_rfl) g132) ?_
            clear hF hD
            have c0 := cell_call k17 hB
            have c1 := cell_call k18 hB
            go_simp
            exact hK _ _ (Below.refl _ _) (rt_eq s133)
          refine obs_cons ?_ ?_
          · intro T wx K hB hF hD hK
            have g132 := get_eq (hD 32 132 (by simp [Region.binds]) (by kernel_rfl)) s132
            have g7 : T[7]? = some (.pointer (some ⟨w3.heap.size, 0, none⟩)) := hF 7 (free_of (by kernel_rfl))
            refine ob_yes (wanted_yes rfl (by kernel_rfl) g132) ?_
            clear hF hD
            have c0 := cell_call k17 hB
            have c1 := cell_call k18 hB
            go_simp
            exact hK _ _ (Below.refl _ _) (rt_eq s134)
          refine obs_cons ?_ ?_
          · intro T wx K hB hF hD hK
            have g132 := get_eq (hD 32 132 (by simp [Region.binds]) (by kernel_rfl)) s132
            have g9 : T[9]? = some (.pointer (some ⟨w4.heap.size + 1, 0, none⟩)) := hF 9 (free_of (by kernel_rfl))
            refine ob_yes (wanted_yes rfl (by kernel_rfl) g132) ?_
            clear hF hD
            have c0 := cell_call k21 hB
            have c1 := cell_call k22 hB
            go_simp
            exact hK _ _ (Below.refl _ _) (rt_eq s135)
          refine obs_cons ?_ ?_
          · intro T wx K hB hF hD hK
            have g132 := get_eq (hD 32 132 (by simp [Region.binds]) (by kernel_rfl)) s132
            have g133 := get_eq (hD 33 133 (by simp [Region.binds]) (by kernel_rfl)) s133
            have g134 := get_eq (hD 34 134 (by simp [Region.binds]) (by kernel_rfl)) s134
            have g135 := get_eq (hD 35 135 (by simp [Region.binds]) (by kernel_rfl)) s135
            refine ob_yes (wanted_yes rfl (by kernel_rfl) g132) ?_
            clear hF hD
            go_simp
            refine (onseg_is a b a b a b true _ ia ib ia ib ia ib E4).mono ?_; rintro e w9 ⟨rfl, hb⟩
            exact hK _ _ hb (rt_eq s136)
          refine obs_cons ?_ ?_
          · intro T wx K hB hF hD hK
            have g132 := get_eq (hD 32 132 (by simp [Region.binds]) (by kernel_rfl)) s132
            have g7 : T[7]? = some (.pointer (some ⟨w3.heap.size, 0, none⟩)) := hF 7 (free_of (by kernel_rfl))
            refine ob_yes (wanted_yes rfl (by kernel_rfl) g132) ?_
            clear hF hD
            have c0 := cell_call k17 hB
            have c1 := cell_call k18 hB
            go_simp
            exact hK _ _ (Below.refl _ _) (rt_eq s137)
          refine obs_cons ?_ ?_
          · intro T wx K hB hF hD hK
            have g132 := get_eq (hD 32 132 (by simp [Region.binds]) (by kernel_rfl)) s132
            have g9 : T[9]? = some (.pointer (some ⟨w4.heap.size + 1, 0, none⟩)) := hF 9 (free_of (by kernel_rfl))
            refine ob_yes (wanted_yes rfl (by kernel_rfl) g132) ?_
            clear hF hD
            have c0 := cell_call k21 hB
            have c1 := cell_call k22 hB
            go_simp
            exact hK _ _ (Below.refl _ _) (rt_eq s138)
          refine obs_cons ?_ ?_
          · intro T wx K hB hF hD hK
            have g132 := get_eq (hD 32 132 (by simp [Region.binds]) (by kernel_rfl)) s132
            have g137 := get_eq (hD 37 137 (by simp [Region.binds]) (by kernel_rfl)) s137
            have g138 := get_eq (hD 38 138 (by simp [Region.binds]) (by kernel_rfl)) s138
            refine ob_yes (wanted_yes rfl (by kernel_rfl) g132) ?_
            clear hF hD
            go_simp
            exact hK _ _ (Below.refl _ _) (rt_eq s139)
          refine obs_cons ?_ ?_
          · intro T wx K hB hF hD hK
            have g132 := get_eq (hD 32 132 (by simp [Region.binds]) (by kernel_rfl)) s132
            have g136 := get_eq (hD 36 136 (by simp [Region.binds]) (by kernel_rfl)) s136
            have g139 := get_eq (hD 39 139 (by simp [Region.binds]) (by kernel_rfl)) s139
            refine ob_yes (wanted_yes rfl (by kernel_rfl) g132) ?_
            clear hF hD
            go_simp
            exact hK _ _ (Below.refl _ _) (rt_eq s140)
          refine obs_cons ?_ ?_
          · intro T wx K hB hF hD hK
            have g132 := get_eq (hD 32 132 (by simp [Region.binds]) (by kernel_rfl)) s132
            have g140 := get_eq (hD 40 140 (by simp [Region.binds]) (by kernel_rfl)) s140
            refine ob_yes (wanted_none rfl) ?_
            clear hF hD
            go_simp
            exact hK _ _ (Below.refl _ _) (rt_eq s141)
          refine obs_cons ?_ ?_
          · intro T wx K hB hF hD hK
            have g141 := get_eq (hD 41 141 (by simp [Region.binds]) (by kernel_rfl)) s141
            refine ob_yes (wanted_none rfl) ?_
            clear hF hD
            go_simp
            exact hK _ _ (Below.refl _ _) (rt_eq s4)
          exact obs_nil
        · intro T w' hb hF hs hD
          have g4 := get_eq (hD 42 4 (by kernel_rfl)) s4
          have fin := Lib.hid (hB.trans (hb.mono hB.size))
          clear hF hD hs hb
          go_wp2_with fail
          refine bodyPost_ret (v := .bool true) (by simp [results, Try.results5, go_sem, g4]) rfl ?_
          exact ⟨rfl, fin.out⟩
      · rw [show decide (a = y4 ∧ b = y5) = false by simp [h1]] at E4
        clear HAC
        obtain ⟨sp, hsp⟩ : ∃ sp : Told, sp = [none, none, none, none, some (.inl (.bool true)), none, none, none, none, none, none, none, none, none, none, none, none, none, none, none, none, none, none, none, none, none, none, none, none, none, none, none, none, none, none, none, none, none, none, none, none, none, none, none, none, none, none, none, none, none, none, none, none, none, none, none, none, none, none, none, none, none, none, none, none, none, none, none, none, none, none, none, none, none, none, none, none, none, none, none, none, none, none, none, none, none, none, none, none, none, none, none, none, none, none, none, none, none, none, none, some (.inl (.bool true)), some (.inl (.bool true)), some (.inl (.agg #[.int .i64 a, .int .i64 b])), some (.inl (.agg #[.int .i64 c, .int .i64 d])), some (.inl (.agg #[.int .i64 a, .int .i64 b])), some (.inl (.bool true)), some (.inl (.bool true)), some (.inl (.bool true)), some (.inl (.agg #[.int .i64 a, .int .i64 b])), some (.inl (.agg #[.int .i64 c, .int .i64 d])), some (.inl (.agg #[.int .i64 c, .int .i64 d])), some (.inl (.bool true)), some (.inl (.bool true)), some (.inl (.bool true)), some (.inl (.agg #[.int .i64 a, .int .i64 b])), some (.inl (.agg #[.int .i64 c, .int .i64 d])), some (.inl (.agg #[.int .i64 m0, .int .i64 m1])), some (.inl (.bool true)), some (.inl (.bool true)), some (.inl (.bool true)), some (.inl (.agg #[.int .i64 a, .int .i64 b])), some (.inl (.agg #[.int .i64 a, .int .i64 b])), some (.inl (.bool true)), some (.inl (.bool true)), some (.inl (.bool true)), some (.inl (.bool v)), some (.inl (.agg #[.int .i64 c, .int .i64 d])), some (.inl (.agg #[.int .i64 a, .int .i64 b])), some (.inl (.agg #[.int .i64 y4, .int .i64 y5])), some (.inl (.bool v)), some (.inl (.bool true)), some (.inl (.bool true)), some (.inl (.bool true)), some (.inl (.agg #[.int .i64 a, .int .i64 b])), some (.inl (.agg #[.int .i64 a, .int .i64 b])), some (.inl (.agg #[.int .i64 y4, .int .i64 y5])), some (.inl (.bool false)), some (.inl (.agg #[.int .i64 a, .int .i64 b])), some (.inl (.agg #[.int .i64 y4, .int .i64 y5])), some (.inl (.bool false)), some (.inl (.bool true)), some (.inl (.bool true))] := ⟨_, rfl⟩
        have s4 : sp.getD 4 none = some (.inl (.bool true)) := by rw [hsp]; rfl
        have s100 : sp.getD 100 none = some (.inl (.bool true)) := by rw [hsp]; rfl
        have s101 : sp.getD 101 none = some (.inl (.bool true)) := by rw [hsp]; rfl
        have s102 : sp.getD 102 none = some (.inl (.agg #[.int .i64 a, .int .i64 b])) := by rw [hsp]; rfl
        have s103 : sp.getD 103 none = some (.inl (.agg #[.int .i64 c, .int .i64 d])) := by rw [hsp]; rfl
        have s104 : sp.getD 104 none = some (.inl (.agg #[.int .i64 a, .int .i64 b])) := by rw [hsp]; rfl
        have s105 : sp.getD 105 none = some (.inl (.bool true)) := by rw [hsp]; rfl
        have s106 : sp.getD 106 none = some (.inl (.bool true)) := by rw [hsp]; rfl
        have s107 : sp.getD 107 none = some (.inl (.bool true)) := by rw [hsp]; rfl
        have s108 : sp.getD 108 none = some (.inl (.agg #[.int .i64 a, .int .i64 b])) := by rw [hsp]; rfl
        have s109 : sp.getD 109 none = some (.inl (.agg #[.int .i64 c, .int .i64 d])) := by rw [hsp]; rfl
        have s110 : sp.getD 110 none = some (.inl (.agg #[.int .i64 c, .int .i64 d])) := by rw [hsp]; rfl
        have s111 : sp.getD 111 none = some (.inl (.bool true)) := by rw [hsp]; rfl
        have s112 : sp.getD 112 none = some (.inl (.bool true)) := by rw [hsp]; rfl
        have s113 : sp.getD 113 none = some (.inl (.bool true)) := by rw [hsp]; rfl
        have s114 : sp.getD 114 none = some (.inl (.agg #[.int .i64 a, .int .i64 b])) := by rw [hsp]; rfl
        have s115 : sp.getD 115 none = some (.inl (.agg #[.int .i64 c, .int .i64 d])) := by rw [hsp]; rfl
        have s116 : sp.getD 116 none = some (.inl (.agg #[.int .i64 m0, .int .i64 m1])) := by rw [hsp]; rfl
        have s117 : sp.getD 117 none = some (.inl (.bool true)) := by rw [hsp]; rfl
        have s118 : sp.getD 118 none = some (.inl (.bool true)) := by rw [hsp]; rfl
        have s119 : sp.getD 119 none = some (.inl (.bool true)) := by rw [hsp]; rfl
        have s120 : sp.getD 120 none = some (.inl (.agg #[.int .i64 a, .int .i64 b])) := by rw [hsp]; rfl
        have s121 : sp.getD 121 none = some (.inl (.agg #[.int .i64 a, .int .i64 b])) := by rw [hsp]; rfl
        have s122 : sp.getD 122 none = some (.inl (.bool true)) := by rw [hsp]; rfl
        have s123 : sp.getD 123 none = some (.inl (.bool true)) := by rw [hsp]; rfl
        have s124 : sp.getD 124 none = some (.inl (.bool true)) := by rw [hsp]; rfl
        have s125 : sp.getD 125 none = some (.inl (.bool v)) := by rw [hsp]; rfl
        have s126 : sp.getD 126 none = some (.inl (.agg #[.int .i64 c, .int .i64 d])) := by rw [hsp]; rfl
        have s127 : sp.getD 127 none = some (.inl (.agg #[.int .i64 a, .int .i64 b])) := by rw [hsp]; rfl
        have s128 : sp.getD 128 none = some (.inl (.agg #[.int .i64 y4, .int .i64 y5])) := by rw [hsp]; rfl
        have s129 : sp.getD 129 none = some (.inl (.bool v)) := by rw [hsp]; rfl
        have s130 : sp.getD 130 none = some (.inl (.bool true)) := by rw [hsp]; rfl
        have s131 : sp.getD 131 none = some (.inl (.bool true)) := by rw [hsp]; rfl
        have s132 : sp.getD 132 none = some (.inl (.bool true)) := by rw [hsp]; rfl
        have s133 : sp.getD 133 none = some (.inl (.agg #[.int .i64 a, .int .i64 b])) := by rw [hsp]; rfl
        have s134 : sp.getD 134 none = some (.inl (.agg #[.int .i64 a, .int .i64 b])) := by rw [hsp]; rfl
        have s135 : sp.getD 135 none = some (.inl (.agg #[.int .i64 y4, .int .i64 y5])) := by rw [hsp]; rfl
        have s136 : sp.getD 136 none = some (.inl (.bool false)) := by rw [hsp]; rfl
        have s137 : sp.getD 137 none = some (.inl (.agg #[.int .i64 a, .int .i64 b])) := by rw [hsp]; rfl
        have s138 : sp.getD 138 none = some (.inl (.agg #[.int .i64 y4, .int .i64 y5])) := by rw [hsp]; rfl
        have s139 : sp.getD 139 none = some (.inl (.bool false)) := by rw [hsp]; rfl
        have s140 : sp.getD 140 none = some (.inl (.bool true)) := by rw [hsp]; rfl
        have s141 : sp.getD 141 none = some (.inl (.bool true)) := by rw [hsp]; rfl
        clear hsp
        refine region_obs sp (by kernel_rfl) (by kernel_rfl) ?_ ?_
        · rw [List.toList_toArray]
          refine obs_cons ?_ ?_
          · intro T wx K hB hF hD hK
            have g5 : T[5]? = some (.bool true) := hF 5 (free_of (by kernel_rfl))
            refine ob_yes (wanted_none rfl) ?_
            clear hF hD
            go_simp
            exact hK _ _ (Below.refl _ _) (rt_eq s100)
          refine obs_cons ?_ ?_
          · intro T wx K hB hF hD hK
            have g100 := get_eq (hD 0 100 (by simp [Region.binds]) (by kernel_rfl)) s100
            refine ob_yes (wanted_none rfl) ?_
            clear hF hD
            go_simp
            exact hK _ _ (Below.refl _ _) (rt_eq s101)
          refine obs_cons ?_ ?_
          · intro T wx K hB hF hD hK
            have g101 := get_eq (hD 1 101 (by simp [Region.binds]) (by kernel_rfl)) s101
            have g7 : T[7]? = some (.pointer (some ⟨w3.heap.size, 0, none⟩)) := hF 7 (free_of (by kernel_rfl))
            refine ob_yes (wanted_yes rfl (by kernel_rfl) g101) ?_
            clear hF hD
            have c0 := cell_call k17 hB
            have c1 := cell_call k18 hB
            go_simp
            exact hK _ _ (Below.refl _ _) (rt_eq s102)
          refine obs_cons ?_ ?_
          · intro T wx K hB hF hD hK
            have g101 := get_eq (hD 1 101 (by simp [Region.binds]) (by kernel_rfl)) s101
            have g8 : T[8]? = some (.pointer (some ⟨w4.heap.size, 0, none⟩)) := hF 8 (free_of (by kernel_rfl))
            refine ob_yes (wanted_yes rfl (by kernel_rfl) g101) ?_
            clear hF hD
            have c0 := cell_call k19 hB
            have c1 := cell_call k20 hB
            go_simp
            exact hK _ _ (Below.refl _ _) (rt_eq s103)
          refine obs_cons ?_ ?_
          · intro T wx K hB hF hD hK
            have g101 := get_eq (hD 1 101 (by simp [Region.binds]) (by kernel_rfl)) s101
            have g7 : T[7]? = some (.pointer (some ⟨w3.heap.size, 0, none⟩)) := hF 7 (free_of (by kernel_rfl))
            refine ob_yes (wanted_yes rfl (by kernel_rfl) g101) ?_
            clear hF hD
            have c0 := cell_call k17 hB
            have c1 := cell_call k18 hB
            go_simp
            exact hK _ _ (Below.refl _ _) (rt_eq s104)
          refine obs_cons ?_ ?_
          · intro T wx K hB hF hD hK
            have g101 := get_eq (hD 1 101 (by simp [Region.binds]) (by kernel_rfl)) s101
            have g102 := get_eq (hD 2 102 (by simp [Region.binds]) (by kernel_rfl)) s102
            have g103 := get_eq (hD 3 103 (by simp [Region.binds]) (by kernel_rfl)) s103
            have g104 := get_eq (hD 4 104 (by simp [Region.binds]) (by kernel_rfl)) s104
            refine ob_yes (wanted_yes rfl (by kernel_rfl) g101) ?_
            clear hF hD
            go_simp
            refine (onseg_is a b c d a b true _ ia ib ic id ia ib E1).mono ?_; rintro e w9 ⟨rfl, hb⟩
            exact hK _ _ hb (rt_eq s105)
          refine obs_cons ?_ ?_
          · intro T wx K hB hF hD hK
            have g101 := get_eq (hD 1 101 (by simp [Region.binds]) (by kernel_rfl)) s101
            have g105 := get_eq (hD 5 105 (by simp [Region.binds]) (by kernel_rfl)) s105
            refine ob_yes (wanted_none rfl) ?_
            clear hF hD
            go_simp
            exact hK _ _ (Below.refl _ _) (rt_eq s106)
          refine obs_cons ?_ ?_
          · intro T wx K hB hF hD hK
            have g106 := get_eq (hD 6 106 (by simp [Region.binds]) (by kernel_rfl)) s106
            refine ob_yes (wanted_none rfl) ?_
            clear hF hD
            go_simp
            exact hK _ _ (Below.refl _ _) (rt_eq s107)
          refine obs_cons ?_ ?_
          · intro T wx K hB hF hD hK
            have g107 := get_eq (hD 7 107 (by simp [Region.binds]) (by kernel_rfl)) s107
            have g7 : T[7]? = some (.pointer (some ⟨w3.heap.size, 0, none⟩)) := hF 7 (free_of (by kernel_rfl))
            refine ob_yes (wanted_yes rfl (by kernel_rfl) g107) ?_
            clear hF hD
            have c0 := cell_call k17 hB
            have c1 := cell_call k18 hB
            go_simp
            exact hK _ _ (Below.refl _ _) (rt_eq s108)
          refine obs_cons ?_ ?_
          · intro T wx K hB hF hD hK
            have g107 := get_eq (hD 7 107 (by simp [Region.binds]) (by kernel_rfl)) s107
            have g8 : T[8]? = some (.pointer (some ⟨w4.heap.size, 0, none⟩)) := hF 8 (free_of (by kernel_rfl))
            refine ob_yes (wanted_yes rfl (by kernel_rfl) g107) ?_
            clear hF hD
            have c0 := cell_call k19 hB
            have c1 := cell_call k20 hB
            go_simp
            exact hK _ _ (Below.refl _ _) (rt_eq s109)
          refine obs_cons ?_ ?_
          · intro T wx K hB hF hD hK
            have g107 := get_eq (hD 7 107 (by simp [Region.binds]) (by kernel_rfl)) s107
            have g8 : T[8]? = some (.pointer (some ⟨w4.heap.size, 0, none⟩)) := hF 8 (free_of (by kernel_rfl))
            refine ob_yes (wanted_yes rfl (by kernel_rfl) g107) ?_
            clear hF hD
            have c0 := cell_call k19 hB
            have c1 := cell_call k20 hB
            go_simp
            exact hK _ _ (Below.refl _ _) (rt_eq s110)
          refine obs_cons ?_ ?_
          · intro T wx K hB hF hD hK
            have g107 := get_eq (hD 7 107 (by simp [Region.binds]) (by kernel_rfl)) s107
            have g108 := get_eq (hD 8 108 (by simp [Region.binds]) (by kernel_rfl)) s108
            have g109 := get_eq (hD 9 109 (by simp [Region.binds]) (by kernel_rfl)) s109
            have g110 := get_eq (hD 10 110 (by simp [Region.binds]) (by kernel_rfl)) s110
            refine ob_yes (wanted_yes rfl (by kernel_rfl) g107) ?_
            clear hF hD
            go_simp
            refine (onseg_is a b c d c d true _ ia ib ic id ic id E2).mono ?_; rintro e w9 ⟨rfl, hb⟩
            exact hK _ _ hb (rt_eq s111)
          refine obs_cons ?_ ?_
          · intro T wx K hB hF hD hK
            have g107 := get_eq (hD 7 107 (by simp [Region.binds]) (by kernel_rfl)) s107
            have g111 := get_eq (hD 11 111 (by simp [Region.binds]) (by kernel_rfl)) s111
            refine ob_yes (wanted_none rfl) ?_
            clear hF hD
            go_simp
            exact hK _ _ (Below.refl _ _) (rt_eq s112)
          refine obs_cons ?_ ?_
          · intro T wx K hB hF hD hK
            have g112 := get_eq (hD 12 112 (by simp [Region.binds]) (by kernel_rfl)) s112
            refine ob_yes (wanted_none rfl) ?_
            clear hF hD
            go_simp
            exact hK _ _ (Below.refl _ _) (rt_eq s113)
          refine obs_cons ?_ ?_
          · intro T wx K hB hF hD hK
            have g113 := get_eq (hD 13 113 (by simp [Region.binds]) (by kernel_rfl)) s113
            have g7 : T[7]? = some (.pointer (some ⟨w3.heap.size, 0, none⟩)) := hF 7 (free_of (by kernel_rfl))
            refine ob_yes (wanted_yes rfl (by kernel_rfl) g113) ?_
            clear hF hD
            have c0 := cell_call k17 hB
            have c1 := cell_call k18 hB
            go_simp
            exact hK _ _ (Below.refl _ _) (rt_eq s114)
          refine obs_cons ?_ ?_
          · intro T wx K hB hF hD hK
            have g113 := get_eq (hD 13 113 (by simp [Region.binds]) (by kernel_rfl)) s113
            have g8 : T[8]? = some (.pointer (some ⟨w4.heap.size, 0, none⟩)) := hF 8 (free_of (by kernel_rfl))
            refine ob_yes (wanted_yes rfl (by kernel_rfl) g113) ?_
            clear hF hD
            have c0 := cell_call k19 hB
            have c1 := cell_call k20 hB
            go_simp
            exact hK _ _ (Below.refl _ _) (rt_eq s115)
          refine obs_cons ?_ ?_
          · intro T wx K hB hF hD hK
            have g113 := get_eq (hD 13 113 (by simp [Region.binds]) (by kernel_rfl)) s113
            have g10 : T[10]? = some (.pointer (some ⟨w6.heap.size, 0, none⟩)) := hF 10 (free_of (by kernel_rfl))
            refine ob_yes (wanted_yes rfl (by kernel_rfl) g113) ?_
            clear hF hD
            have c0 := cell_call k23 hB
            have c1 := cell_call k24 hB
            go_simp
            exact hK _ _ (Below.refl _ _) (rt_eq s116)
          refine obs_cons ?_ ?_
          · intro T wx K hB hF hD hK
            have g113 := get_eq (hD 13 113 (by simp [Region.binds]) (by kernel_rfl)) s113
            have g114 := get_eq (hD 14 114 (by simp [Region.binds]) (by kernel_rfl)) s114
            have g115 := get_eq (hD 15 115 (by simp [Region.binds]) (by kernel_rfl)) s115
            have g116 := get_eq (hD 16 116 (by simp [Region.binds]) (by kernel_rfl)) s116
            refine ob_yes (wanted_yes rfl (by kernel_rfl) g113) ?_
            clear hF hD
            go_simp
            refine (onseg_is a b c d m0 m1 true _ ia ib ic id im0 im1 Em).mono ?_; rintro e w9 ⟨rfl, hb⟩
            exact hK _ _ hb (rt_eq s117)
          refine obs_cons ?_ ?_
          · intro T wx K hB hF hD hK
            have g113 := get_eq (hD 13 113 (by simp [Region.binds]) (by kernel_rfl)) s113
            have g117 := get_eq (hD 17 117 (by simp [Region.binds]) (by kernel_rfl)) s117
            refine ob_yes (wanted_none rfl) ?_
            clear hF hD
            go_simp
            exact hK _ _ (Below.refl _ _) (rt_eq s118)
          refine obs_cons ?_ ?_
          · intro T wx K hB hF hD hK
            have g118 := get_eq (hD 18 118 (by simp [Region.binds]) (by kernel_rfl)) s118
            refine ob_yes (wanted_none rfl) ?_
            clear hF hD
            go_simp
            exact hK _ _ (Below.refl _ _) (rt_eq s119)
          refine obs_cons ?_ ?_
          · intro T wx K hB hF hD hK
            have g119 := get_eq (hD 19 119 (by simp [Region.binds]) (by kernel_rfl)) s119
            have g11 : T[11]? = some (.pointer (some ⟨g, 0, none⟩)) := hF 11 (free_of (by kernel_rfl))
            refine ob_yes (wanted_yes rfl (by kernel_rfl) g119) ?_
            clear hF hD
            have c0 := cell_call g0 hB
            have c1 := cell_call g1 hB
            go_simp
            exact hK _ _ (Below.refl _ _) (rt_eq s120)
          refine obs_cons ?_ ?_
          · intro T wx K hB hF hD hK
            have g119 := get_eq (hD 19 119 (by simp [Region.binds]) (by kernel_rfl)) s119
            have g7 : T[7]? = some (.pointer (some ⟨w3.heap.size, 0, none⟩)) := hF 7 (free_of (by kernel_rfl))
            refine ob_yes (wanted_yes rfl (by kernel_rfl) g119) ?_
            clear hF hD
            have c0 := cell_call k17 hB
            have c1 := cell_call k18 hB
            go_simp
            exact hK _ _ (Below.refl _ _) (rt_eq s121)
          refine obs_cons ?_ ?_
          · intro T wx K hB hF hD hK
            have g119 := get_eq (hD 19 119 (by simp [Region.binds]) (by kernel_rfl)) s119
            have g120 := get_eq (hD 20 120 (by simp [Region.binds]) (by kernel_rfl)) s120
            have g121 := get_eq (hD 21 121 (by simp [Region.binds]) (by kernel_rfl)) s121
            refine ob_yes (wanted_yes rfl (by kernel_rfl) g119) ?_
            clear hF hD
            go_simp
            exact hK _ _ (Below.refl _ _) (rt_eq s122)
          refine obs_cons ?_ ?_
          · intro T wx K hB hF hD hK
            have g119 := get_eq (hD 19 119 (by simp [Region.binds]) (by kernel_rfl)) s119
            have g122 := get_eq (hD 22 122 (by simp [Region.binds]) (by kernel_rfl)) s122
            refine ob_yes (wanted_none rfl) ?_
            clear hF hD
            go_simp
            exact hK _ _ (Below.refl _ _) (rt_eq s123)
          refine obs_cons ?_ ?_
          · intro T wx K hB hF hD hK
            have g123 := get_eq (hD 23 123 (by simp [Region.binds]) (by kernel_rfl)) s123
            refine ob_yes (wanted_none rfl) ?_
            clear hF hD
            go_simp
            exact hK _ _ (Below.refl _ _) (rt_eq s124)
          refine obs_cons ?_ ?_
          · intro T wx K hB hF hD hK
            have g124 := get_eq (hD 24 124 (by simp [Region.binds]) (by kernel_rfl)) s124
            have g12 : T[12]? = some (.bool v) := hF 12 (free_of (by kernel_rfl))
            refine ob_yes (wanted_yes rfl (by kernel_rfl) g124) ?_
            clear hF hD
            go_simp
            exact hK _ _ (Below.refl _ _) (rt_eq s125)
          refine obs_cons ?_ ?_
          · intro T wx K hB hF hD hK
            have g124 := get_eq (hD 24 124 (by simp [Region.binds]) (by kernel_rfl)) s124
            have g8 : T[8]? = some (.pointer (some ⟨w4.heap.size, 0, none⟩)) := hF 8 (free_of (by kernel_rfl))
            refine ob_yes (wanted_yes rfl (by kernel_rfl) g124) ?_
            clear hF hD
            have c0 := cell_call k19 hB
            have c1 := cell_call k20 hB
            go_simp
            exact hK _ _ (Below.refl _ _) (rt_eq s126)
          refine obs_cons ?_ ?_
          · intro T wx K hB hF hD hK
            have g124 := get_eq (hD 24 124 (by simp [Region.binds]) (by kernel_rfl)) s124
            have g7 : T[7]? = some (.pointer (some ⟨w3.heap.size, 0, none⟩)) := hF 7 (free_of (by kernel_rfl))
            refine ob_yes (wanted_yes rfl (by kernel_rfl) g124) ?_
            clear hF hD
            have c0 := cell_call k17 hB
            have c1 := cell_call k18 hB
            go_simp
            exact hK _ _ (Below.refl _ _) (rt_eq s127)
          refine obs_cons ?_ ?_
          · intro T wx K hB hF hD hK
            have g124 := get_eq (hD 24 124 (by simp [Region.binds]) (by kernel_rfl)) s124
            have g9 : T[9]? = some (.pointer (some ⟨w4.heap.size + 1, 0, none⟩)) := hF 9 (free_of (by kernel_rfl))
            refine ob_yes (wanted_yes rfl (by kernel_rfl) g124) ?_
            clear hF hD
            have c0 := cell_call k21 hB
            have c1 := cell_call k22 hB
            go_simp
            exact hK _ _ (Below.refl _ _) (rt_eq s128)
          refine obs_cons ?_ ?_
          · intro T wx K hB hF hD hK
            have g124 := get_eq (hD 24 124 (by simp [Region.binds]) (by kernel_rfl)) s124
            have g126 := get_eq (hD 26 126 (by simp [Region.binds]) (by kernel_rfl)) s126
            have g127 := get_eq (hD 27 127 (by simp [Region.binds]) (by kernel_rfl)) s127
            have g128 := get_eq (hD 28 128 (by simp [Region.binds]) (by kernel_rfl)) s128
            refine ob_yes (wanted_yes rfl (by kernel_rfl) g124) ?_
            clear hF hD
            go_simp
            refine (onseg_is c d a b y4 y5 v _ ic id ia ib ip iq E3).mono ?_; rintro e w9 ⟨rfl, hb⟩
            exact hK _ _ hb (rt_eq s129)
          refine obs_cons ?_ ?_
          · intro T wx K hB hF hD hK
            have g124 := get_eq (hD 24 124 (by simp [Region.binds]) (by kernel_rfl)) s124
            have g125 := get_eq (hD 25 125 (by simp [Region.binds]) (by kernel_rfl)) s125
            have g129 := get_eq (hD 29 129 (by simp [Region.binds]) (by kernel_rfl)) s129
            refine ob_yes (wanted_yes rfl (by kernel_rfl) g124) ?_
            clear hF hD
            go_simp
            exact hK _ _ (Below.refl _ _) (rt_eq s130)
          refine obs_cons ?_ ?_
          · intro T wx K hB hF hD hK
            have g124 := get_eq (hD 24 124 (by simp [Region.binds]) (by kernel_rfl)) s124
            have g130 := get_eq (hD 30 130 (by simp [Region.binds]) (by kernel_rfl)) s130
            refine ob_yes (wanted_none rfl) ?_
            clear hF hD
            go_simp
            exact hK _ _ (Below.refl _ _) (rt_eq s131)
          refine obs_cons ?_ ?_
          · intro T wx K hB hF hD hK
            have g131 := get_eq (hD 31 131 (by simp [Region.binds]) (by kernel_rfl)) s131
            refine ob_yes (wanted_none rfl) ?_
            clear hF hD
            go_simp
            exact hK _ _ (Below.refl _ _) (rt_eq s132)
          refine obs_cons ?_ ?_
          · intro T wx K hB hF hD hK
            have g132 := get_eq (hD 32 132 (by simp [Region.binds]) (by kernel_rfl)) s132
            have g7 : T[7]? = some (.pointer (some ⟨w3.heap.size, 0, none⟩)) := hF 7 (free_of (by kernel_rfl))
            refine ob_yes (wanted_yes rfl (by kernel_rfl) g132) ?_
            clear hF hD
            have c0 := cell_call k17 hB
            have c1 := cell_call k18 hB
            go_simp
            exact hK _ _ (Below.refl _ _) (rt_eq s133)
          refine obs_cons ?_ ?_
          · intro T wx K hB hF hD hK
            have g132 := get_eq (hD 32 132 (by simp [Region.binds]) (by kernel_rfl)) s132
            have g7 : T[7]? = some (.pointer (some ⟨w3.heap.size, 0, none⟩)) := hF 7 (free_of (by kernel_rfl))
            refine ob_yes (wanted_yes rfl (by kernel_rfl) g132) ?_
            clear hF hD
            have c0 := cell_call k17 hB
            have c1 := cell_call k18 hB
            go_simp
            exact hK _ _ (Below.refl _ _) (rt_eq s134)
          refine obs_cons ?_ ?_
          · intro T wx K hB hF hD hK
            have g132 := get_eq (hD 32 132 (by simp [Region.binds]) (by kernel_rfl)) s132
            have g9 : T[9]? = some (.pointer (some ⟨w4.heap.size + 1, 0, none⟩)) := hF 9 (free_of (by kernel_rfl))
            refine ob_yes (wanted_yes rfl (by kernel_rfl) g132) ?_
            clear hF hD
            have c0 := cell_call k21 hB
            have c1 := cell_call k22 hB
            go_simp
            exact hK _ _ (Below.refl _ _) (rt_eq s135)
          refine obs_cons ?_ ?_
          · intro T wx K hB hF hD hK
            have g132 := get_eq (hD 32 132 (by simp [Region.binds]) (by kernel_rfl)) s132
            have g133 := get_eq (hD 33 133 (by simp [Region.binds]) (by kernel_rfl)) s133
            have g134 := get_eq (hD 34 134 (by simp [Region.binds]) (by kernel_rfl)) s134
            have g135 := get_eq (hD 35 135 (by simp [Region.binds]) (by kernel_rfl)) s135
            refine ob_yes (wanted_yes rfl (by kernel_rfl) g132) ?_
            clear hF hD
            go_simp
            refine (onseg_is a b a b y4 y5 false _ ia ib ia ib ip iq E4).mono ?_; rintro e w9 ⟨rfl, hb⟩
            exact hK _ _ hb (rt_eq s136)
          refine obs_cons ?_ ?_
          · intro T wx K hB hF hD hK
            have g132 := get_eq (hD 32 132 (by simp [Region.binds]) (by kernel_rfl)) s132
            have g7 : T[7]? = some (.pointer (some ⟨w3.heap.size, 0, none⟩)) := hF 7 (free_of (by kernel_rfl))
            refine ob_yes (wanted_yes rfl (by kernel_rfl) g132) ?_
            clear hF hD
            have c0 := cell_call k17 hB
            have c1 := cell_call k18 hB
            go_simp
            exact hK _ _ (Below.refl _ _) (rt_eq s137)
          refine obs_cons ?_ ?_
          · intro T wx K hB hF hD hK
            have g132 := get_eq (hD 32 132 (by simp [Region.binds]) (by kernel_rfl)) s132
            have g9 : T[9]? = some (.pointer (some ⟨w4.heap.size + 1, 0, none⟩)) := hF 9 (free_of (by kernel_rfl))
            refine ob_yes (wanted_yes rfl (by kernel_rfl) g132) ?_
            clear hF hD
            have c0 := cell_call k21 hB
            have c1 := cell_call k22 hB
            go_simp
            exact hK _ _ (Below.refl _ _) (rt_eq s138)
          refine obs_cons ?_ ?_
          · intro T wx K hB hF hD hK
            have g132 := get_eq (hD 32 132 (by simp [Region.binds]) (by kernel_rfl)) s132
            have g137 := get_eq (hD 37 137 (by simp [Region.binds]) (by kernel_rfl)) s137
            have g138 := get_eq (hD 38 138 (by simp [Region.binds]) (by kernel_rfl)) s138
            refine ob_yes (wanted_yes rfl (by kernel_rfl) g132) ?_
            clear hF hD
            go_simp
            exact hK _ _ (Below.refl _ _) (rt_eq s139)
          refine obs_cons ?_ ?_
          · intro T wx K hB hF hD hK
            have g132 := get_eq (hD 32 132 (by simp [Region.binds]) (by kernel_rfl)) s132
            have g136 := get_eq (hD 36 136 (by simp [Region.binds]) (by kernel_rfl)) s136
            have g139 := get_eq (hD 39 139 (by simp [Region.binds]) (by kernel_rfl)) s139
            refine ob_yes (wanted_yes rfl (by kernel_rfl) g132) ?_
            clear hF hD
            go_simp
            exact hK _ _ (Below.refl _ _) (rt_eq s140)
          refine obs_cons ?_ ?_
          · intro T wx K hB hF hD hK
            have g132 := get_eq (hD 32 132 (by simp [Region.binds]) (by kernel_rfl)) s132
            have g140 := get_eq (hD 40 140 (by simp [Region.binds]) (by kernel_rfl)) s140
            refine ob_yes (wanted_none rfl) ?_
            clear hF hD
            go_simp
            exact hK _ _ (Below.refl _ _) (rt_eq s141)
          refine obs_cons ?_ ?_
          · intro T wx K hB hF hD hK
            have g141 := get_eq (hD 41 141 (by simp [Region.binds]) (by kernel_rfl)) s141
            refine ob_yes (wanted_none rfl) ?_
            clear hF hD
            go_simp
            exact hK _ _ (Below.refl _ _) (rt_eq s4)
          exact obs_nil
        · intro T w' hb hF hs hD
          have g4 := get_eq (hD 42 4 (by kernel_rfl)) s4
          have fin := Lib.hid (hB.trans (hb.mono hB.size))
          clear hF hD hs hb
          go_wp2_with fail
          refine bodyPost_ret (v := .bool true) (by simp [results, Try.results5, go_sem, g4]) rfl ?_
          exact ⟨rfl, fin.out⟩
      · rw [show decide (a = y4 ∧ b = y5) = false by simp [h1, h2]] at E4
        clear HAC
        subst h1
        obtain ⟨sp, hsp⟩ : ∃ sp : Told, sp = [none, none, none, none, some (.inl (.bool true)), none, none, none, none, none, none, none, none, none, none, none, none, none, none, none, none, none, none, none, none, none, none, none, none, none, none, none, none, none, none, none, none, none, none, none, none, none, none, none, none, none, none, none, none, none, none, none, none, none, none, none, none, none, none, none, none, none, none, none, none, none, none, none, none, none, none, none, none, none, none, none, none, none, none, none, none, none, none, none, none, none, none, none, none, none, none, none, none, none, none, none, none, none, none, none, some (.inl (.bool true)), some (.inl (.bool true)), some (.inl (.agg #[.int .i64 a, .int .i64 b])), some (.inl (.agg #[.int .i64 c, .int .i64 d])), some (.inl (.agg #[.int .i64 a, .int .i64 b])), some (.inl (.bool true)), some (.inl (.bool true)), some (.inl (.bool true)), some (.inl (.agg #[.int .i64 a, .int .i64 b])), some (.inl (.agg #[.int .i64 c, .int .i64 d])), some (.inl (.agg #[.int .i64 c, .int .i64 d])), some (.inl (.bool true)), some (.inl (.bool true)), some (.inl (.bool true)), some (.inl (.agg #[.int .i64 a, .int .i64 b])), some (.inl (.agg #[.int .i64 c, .int .i64 d])), some (.inl (.agg #[.int .i64 m0, .int .i64 m1])), some (.inl (.bool true)), some (.inl (.bool true)), some (.inl (.bool true)), some (.inl (.agg #[.int .i64 a, .int .i64 b])), some (.inl (.agg #[.int .i64 a, .int .i64 b])), some (.inl (.bool true)), some (.inl (.bool true)), some (.inl (.bool true)), some (.inl (.bool v)), some (.inl (.agg #[.int .i64 c, .int .i64 d])), some (.inl (.agg #[.int .i64 a, .int .i64 b])), some (.inl (.agg #[.int .i64 a, .int .i64 y5])), some (.inl (.bool v)), some (.inl (.bool true)), some (.inl (.bool true)), some (.inl (.bool true)), some (.inl (.agg #[.int .i64 a, .int .i64 b])), some (.inl (.agg #[.int .i64 a, .int .i64 b])), some (.inl (.agg #[.int .i64 a, .int .i64 y5])), some (.inl (.bool false)), some (.inl (.agg #[.int .i64 a, .int .i64 b])), some (.inl (.agg #[.int .i64 a, .int .i64 y5])), some (.inl (.bool false)), some (.inl (.bool true)), some (.inl (.bool true))] := ⟨_, rfl⟩
        have s4 : sp.getD 4 none = some (.inl (.bool true)) := by rw [hsp]; rfl
        have s100 : sp.getD 100 none = some (.inl (.bool true)) := by rw [hsp]; rfl
        have s101 : sp.getD 101 none = some (.inl (.bool true)) := by rw [hsp]; rfl
        have s102 : sp.getD 102 none = some (.inl (.agg #[.int .i64 a, .int .i64 b])) := by rw [hsp]; rfl
        have s103 : sp.getD 103 none = some (.inl (.agg #[.int .i64 c, .int .i64 d])) := by rw [hsp]; rfl
        have s104 : sp.getD 104 none = some (.inl (.agg #[.int .i64 a, .int .i64 b])) := by rw [hsp]; rfl
        have s105 : sp.getD 105 none = some (.inl (.bool true)) := by rw [hsp]; rfl
        have s106 : sp.getD 106 none = some (.inl (.bool true)) := by rw [hsp]; rfl
        have s107 : sp.getD 107 none = some (.inl (.bool true)) := by rw [hsp]; rfl
        have s108 : sp.getD 108 none = some (.inl (.agg #[.int .i64 a, .int .i64 b])) := by rw [hsp]; rfl
        have s109 : sp.getD 109 none = some (.inl (.agg #[.int .i64 c, .int .i64 d])) := by rw [hsp]; rfl
        have s110 : sp.getD 110 none = some (.inl (.agg #[.int .i64 c, .int .i64 d])) := by rw [hsp]; rfl
        have s111 : sp.getD 111 none = some (.inl (.bool true)) := by rw [hsp]; rfl
        have s112 : sp.getD 112 none = some (.inl (.bool true)) := by rw [hsp]; rfl
        have s113 : sp.getD 113 none = some (.inl (.bool true)) := by rw [hsp]; rfl
        have s114 : sp.getD 114 none = some (.inl (.agg #[.int .i64 a, .int .i64 b])) := by rw [hsp]; rfl
        have s115 : sp.getD 115 none = some (.inl (.agg #[.int .i64 c, .int .i64 d])) := by rw [hsp]; rfl
        have s116 : sp.getD 116 none = some (.inl (.agg #[.int .i64 m0, .int .i64 m1])) := by rw [hsp]; rfl
        have s117 : sp.getD 117 none = some (.inl (.bool true)) := by rw [hsp]; rfl
        have s118 : sp.getD 118 none = some (.inl (.bool true)) := by rw [hsp]; rfl
        have s119 : sp.getD 119 none = some (.inl (.bool true)) := by rw [hsp]; rfl
        have s120 : sp.getD 120 none = some (.inl (.agg #[.int .i64 a, .int .i64 b])) := by rw [hsp]; rfl
        have s121 : sp.getD 121 none = some (.inl (.agg #[.int .i64 a, .int .i64 b])) := by rw [hsp]; rfl
        have s122 : sp.getD 122 none = some (.inl (.bool true)) := by rw [hsp]; rfl
        have s123 : sp.getD 123 none = some (.inl (.bool true)) := by rw [hsp]; rfl
        have s124 : sp.getD 124 none = some (.inl (.bool true)) := by rw [hsp]; rfl
        have s125 : sp.getD 125 none = some (.inl (.bool v)) := by rw [hsp]; rfl
        have s126 : sp.getD 126 none = some (.inl (.agg #[.int .i64 c, .int .i64 d])) := by rw [hsp]; rfl
        have s127 : sp.getD 127 none = some (.inl (.agg #[.int .i64 a, .int .i64 b])) := by rw [hsp]; rfl
        have s128 : sp.getD 128 none = some (.inl (.agg #[.int .i64 a, .int .i64 y5])) := by rw [hsp]; rfl
        have s129 : sp.getD 129 none = some (.inl (.bool v)) := by rw [hsp]; rfl
        have s130 : sp.getD 130 none = some (.inl (.bool true)) := by rw [hsp]; rfl
        have s131 : sp.getD 131 none = some (.inl (.bool true)) := by rw [hsp]; rfl
        have s132 : sp.getD 132 none = some (.inl (.bool true)) := by rw [hsp]; rfl
        have s133 : sp.getD 133 none = some (.inl (.agg #[.int .i64 a, .int .i64 b])) := by rw [hsp]; rfl
        have s134 : sp.getD 134 none = some (.inl (.agg #[.int .i64 a, .int .i64 b])) := by rw [hsp]; rfl
        have s135 : sp.getD 135 none = some (.inl (.agg #[.int .i64 a, .int .i64 y5])) := by rw [hsp]; rfl
        have s136 : sp.getD 136 none = some (.inl (.bool false)) := by rw [hsp]; rfl
        have s137 : sp.getD 137 none = some (.inl (.agg #[.int .i64 a, .int .i64 b])) := by rw [hsp]; rfl
        have s138 : sp.getD 138 none = some (.inl (.agg #[.int .i64 a, .int .i64 y5])) := by rw [hsp]; rfl
        have s139 : sp.getD 139 none = some (.inl (.bool false)) := by rw [hsp]; rfl
        have s140 : sp.getD 140 none = some (.inl (.bool true)) := by rw [hsp]; rfl
        have s141 : sp.getD 141 none = some (.inl (.bool true)) := by rw [hsp]; rfl
        clear hsp
        refine region_obs sp (by kernel_rfl) (by kernel_rfl) ?_ ?_
        · rw [List.toList_toArray]
          refine obs_cons ?_ ?_
          · intro T wx K hB hF hD hK
            have g5 : T[5]? = some (.bool true) := hF 5 (free_of (by kernel_rfl))
            refine ob_yes (wanted_none rfl) ?_
            clear hF hD
            go_simp
            exact hK _ _ (Below.refl _ _) (rt_eq s100)
          refine obs_cons ?_ ?_
          · intro T wx K hB hF hD hK
            have g100 := get_eq (hD 0 100 (by simp [Region.binds]) (by kernel_rfl)) s100
            refine ob_yes (wanted_none rfl) ?_
            clear hF hD
            go_simp
            exact hK _ _ (Below.refl _ _) (rt_eq s101)
          refine obs_cons ?_ ?_
          · intro T wx K hB hF hD hK
            have g101 := get_eq (hD 1 101 (by simp [Region.binds]) (by kernel_rfl)) s101
            have g7 : T[7]? = some (.pointer (some ⟨w3.heap.size, 0, none⟩)) := hF 7 (free_of (by kernel_rfl))
            refine ob_yes (wanted_yes rfl (by kernel_rfl) g101) ?_
            clear hF hD
            have c0 := cell_call k17 hB
            have c1 := cell_call k18 hB
            go_simp
            exact hK _ _ (Below.refl _ _) (rt_eq s102)
          refine obs_cons ?_ ?_
          · intro T wx K hB hF hD hK
            have g101 := get_eq (hD 1 101 (by simp [Region.binds]) (by kernel_rfl)) s101
            have g8 : T[8]? = some (.pointer (some ⟨w4.heap.size, 0, none⟩)) := hF 8 (free_of (by kernel_rfl))
            refine ob_yes (wanted_yes rfl (by kernel_rfl) g101) ?_
            clear hF hD
            have c0 := cell_call k19 hB
            have c1 := cell_call k20 hB
            go_simp
            exact hK _ _ (Below.refl _ _) (rt_eq s103)
          refine obs_cons ?_ ?_
          · intro T wx K hB hF hD hK
            have g101 := get_eq (hD 1 101 (by simp [Region.binds]) (by kernel_rfl)) s101
            have g7 : T[7]? = some (.pointer (some ⟨w3.heap.size, 0, none⟩)) := hF 7 (free_of (by kernel_rfl))
            refine ob_yes (wanted_yes rfl (by kernel_rfl) g101) ?_
            clear hF hD
            have c0 := cell_call k17 hB
            have c1 := cell_call k18 hB
            go_simp
            exact hK _ _ (Below.refl _ _) (rt_eq s104)
          refine obs_cons ?_ ?_
          · intro T wx K hB hF hD hK
            have g101 := get_eq (hD 1 101 (by simp [Region.binds]) (by kernel_rfl)) s101
            have g102 := get_eq (hD 2 102 (by simp [Region.binds]) (by kernel_rfl)) s102
            have g103 := get_eq (hD 3 103 (by simp [Region.binds]) (by kernel_rfl)) s103
            have g104 := get_eq (hD 4 104 (by simp [Region.binds]) (by kernel_rfl)) s104
            refine ob_yes (wanted_yes rfl (by kernel_rfl) g101) ?_
            clear hF hD
            go_simp
            refine (onseg_is a b c d a b true _ ia ib ic id ia ib E1).mono ?_; rintro e w9 ⟨rfl, hb⟩
            exact hK _ _ hb (rt_eq s105)
          refine obs_cons ?_ ?_
          · intro T wx K hB hF hD hK
            have g101 := get_eq (hD 1 101 (by simp [Region.binds]) (by kernel_rfl)) s101
            have g105 := get_eq (hD 5 105 (by simp [Region.binds]) (by kernel_rfl)) s105
            refine ob_yes (wanted_none rfl) ?_
            clear hF hD
            go_simp
            exact hK _ _ (Below.refl _ _) (rt_eq s106)
          refine obs_cons ?_ ?_
          · intro T wx K hB hF hD hK
            have g106 := get_eq (hD 6 106 (by simp [Region.binds]) (by kernel_rfl)) s106
            refine ob_yes (wanted_none rfl) ?_
            clear hF hD
            go_simp
            exact hK _ _ (Below.refl _ _) (rt_eq s107)
          refine obs_cons ?_ ?_
          · intro T wx K hB hF hD hK
            have g107 := get_eq (hD 7 107 (by simp [Region.binds]) (by kernel_rfl)) s107
            have g7 : T[7]? = some (.pointer (some ⟨w3.heap.size, 0, none⟩)) := hF 7 (free_of (by kernel_rfl))
            refine ob_yes (wanted_yes rfl (by kernel_rfl) g107) ?_
            clear hF hD
            have c0 := cell_call k17 hB
            have c1 := cell_call k18 hB
            go_simp
            exact hK _ _ (Below.refl _ _) (rt_eq s108)
          refine obs_cons ?_ ?_
          · intro T wx K hB hF hD hK
            have g107 := get_eq (hD 7 107 (by simp [Region.binds]) (by kernel_rfl)) s107
            have g8 : T[8]? = some (.pointer (some ⟨w4.heap.size, 0, none⟩)) := hF 8 (free_of (by kernel_rfl))
            refine ob_yes (wanted_yes rfl (by kernel_rfl) g107) ?_
            clear hF hD
            have c0 := cell_call k19 hB
            have c1 := cell_call k20 hB
            go_simp
            exact hK _ _ (Below.refl _ _) (rt_eq s109)
          refine obs_cons ?_ ?_
          · intro T wx K hB hF hD hK
            have g107 := get_eq (hD 7 107 (by simp [Region.binds]) (by kernel_rfl)) s107
            have g8 : T[8]? = some (.pointer (some ⟨w4.heap.size, 0, none⟩)) := hF 8 (free_of (by kernel_rfl))
            refine ob_yes (wanted_yes rfl (by kernel_rfl) g107) ?_
            clear hF hD
            have c0 := cell_call k19 hB
            have c1 := cell_call k20 hB
            go_simp
            exact hK _ _ (Below.refl _ _) (rt_eq s110)
          refine obs_cons ?_ ?_
          · intro T wx K hB hF hD hK
            have g107 := get_eq (hD 7 107 (by simp [Region.binds]) (by kernel_rfl)) s107
            have g108 := get_eq (hD 8 108 (by simp [Region.binds]) (by kernel_rfl)) s108
            have g109 := get_eq (hD 9 109 (by simp [Region.binds]) (by kernel_rfl)) s109
            have g110 := get_eq (hD 10 110 (by simp [Region.binds]) (by kernel_rfl)) s110
            refine ob_yes (wanted_yes rfl (by kernel_rfl) g107) ?_
            clear hF hD
            go_simp
            refine (onseg_is a b c d c d true _ ia ib ic id ic id E2).mono ?_; rintro e w9 ⟨rfl, hb⟩
            exact hK _ _ hb (rt_eq s111)
          refine obs_cons ?_ ?_
          · intro T wx K hB hF hD hK
            have g107 := get_eq (hD 7 107 (by simp [Region.binds]) (by kernel_rfl)) s107
            have g111 := get_eq (hD 11 111 (by simp [Region.binds]) (by kernel_rfl)) s111
            refine ob_yes (wanted_none rfl) ?_
            clear hF hD
            go_simp
            exact hK _ _ (Below.refl _ _) (rt_eq s112)
          refine obs_cons ?_ ?_
          · intro T wx K hB hF hD hK
            have g112 := get_eq (hD 12 112 (by simp [Region.binds]) (by kernel_rfl)) s112
            refine ob_yes (wanted_none rfl) ?_
            clear hF hD
            go_simp
            exact hK _ _ (Below.refl _ _) (rt_eq s113)
          refine obs_cons ?_ ?_
          · intro T wx K hB hF hD hK
            have g113 := get_eq (hD 13 113 (by simp [Region.binds]) (by kernel_rfl)) s113
            have g7 : T[7]? = some (.pointer (some ⟨w3.heap.size, 0, none⟩)) := hF 7 (free_of (by kernel_rfl))
            refine ob_yes (wanted_yes rfl (by kernel_rfl) g113) ?_
            clear hF hD
            have c0 := cell_call k17 hB
            have c1 := cell_call k18 hB
            go_simp
            exact hK _ _ (Below.refl _ _) (rt_eq s114)
          refine obs_cons ?_ ?_
          · intro T wx K hB hF hD hK
            have g113 := get_eq (hD 13 113 (by simp [Region.binds]) (by kernel_rfl)) s113
            have g8 : T[8]? = some (.pointer (some ⟨w4.heap.size, 0, none⟩)) := hF 8 (free_of (by kernel_rfl))
            refine ob_yes (wanted_yes rfl (by kernel_rfl) g113) ?_
            clear hF hD
            have c0 := cell_call k19 hB
            have c1 := cell_call k20 hB
            go_simp
            exact hK _ _ (Below.refl _ _) (rt_eq s115)
          refine obs_cons ?_ ?_
          · intro T wx K hB hF hD hK
            have g113 := get_eq (hD 13 113 (by simp [Region.binds]) (by kernel_rfl)) s113
            have g10 : T[10]? = some (.pointer (some ⟨w6.heap.size, 0, none⟩)) := hF 10 (free_of (by kernel_rfl))
            refine ob_yes (wanted_yes rfl (by kernel_rfl) g113) ?_
            clear hF hD
            have c0 := cell_call k23 hB
            have c1 := cell_call k24 hB
            go_simp
            exact hK _ _ (Below.refl _ _) (rt_eq s116)
          refine obs_cons ?_ ?_
          · intro T wx K hB hF hD hK
            have g113 := get_eq (hD 13 113 (by simp [Region.binds]) (by kernel_rfl)) s113
            have g114 := get_eq (hD 14 114 (by simp [Region.binds]) (by kernel_rfl)) s114
            have g115 := get_eq (hD 15 115 (by simp [Region.binds]) (by kernel_rfl)) s115
            have g116 := get_eq (hD 16 116 (by simp [Region.binds]) (by kernel_rfl)) s116
            refine ob_yes (wanted_yes rfl (by kernel_rfl) g113) ?_
            clear hF hD
            go_simp
            refine (onseg_is a b c d m0 m1 true _ ia ib ic id im0 im1 Em).mono ?_; rintro e w9 ⟨rfl, hb⟩
            exact hK _ _ hb (rt_eq s117)
          refine obs_cons ?_ ?_
          · intro T wx K hB hF hD hK
            have g113 := get_eq (hD 13 113 (by simp [Region.binds]) (by kernel_rfl)) s113
            have g117 := get_eq (hD 17 117 (by simp [Region.binds]) (by kernel_rfl)) s117
            refine ob_yes (wanted_none rfl) ?_
            clear hF hD
            go_simp
            exact hK _ _ (Below.refl _ _) (rt_eq s118)
          refine obs_cons ?_ ?_
          · intro T wx K hB hF hD hK
            have g118 := get_eq (hD 18 118 (by simp [Region.binds]) (by kernel_rfl)) s118
            refine ob_yes (wanted_none rfl) ?_
            clear hF hD
            go_simp
            exact hK _ _ (Below.refl _ _) (rt_eq s119)
          refine obs_cons ?_ ?_
          · intro T wx K hB hF hD hK
            have g119 := get_eq (hD 19 119 (by simp [Region.binds]) (by kernel_rfl)) s119
            have g11 : T[11]? = some (.pointer (some ⟨g, 0, none⟩)) := hF 11 (free_of (by kernel_rfl))
            refine ob_yes (wanted_yes rfl (by kernel_rfl) g119) ?_
            clear hF hD
            have c0 := cell_call g0 hB
            have c1 := cell_call g1 hB
            go_simp
            exact hK _ _ (Below.refl _ _) (rt_eq s120)
          refine obs_cons ?_ ?_
          · intro T wx K hB hF hD hK
            have g119 := get_eq (hD 19 119 (by simp [Region.binds]) (by kernel_rfl)) s119
            have g7 : T[7]? = some (.pointer (some ⟨w3.heap.size, 0, none⟩)) := hF 7 (free_of (by kernel_rfl))
            refine ob_yes (wanted_yes rfl (by kernel_rfl) g119) ?_
            clear hF hD
            have c0 := cell_call k17 hB
            have c1 := cell_call k18 hB
            go_simp
            exact hK _ _ (Below.refl _ _) (rt_eq s121)
          refine obs_cons ?_ ?_
          · intro T wx K hB hF hD hK
            have g119 := get_eq (hD 19 119 (by simp [Region.binds]) (by kernel_rfl)) s119
            have g120 := get_eq (hD 20 120 (by simp [Region.binds]) (by kernel_rfl)) s120
            have g121 := get_eq (hD 21 121 (by simp [Region.binds]) (by kernel_rfl)) s121
            refine ob_yes (wanted_yes rfl (by kernel_rfl) g119) ?_
            clear hF hD
            go_simp
            exact hK _ _ (Below.refl _ _) (rt_eq s122)
          refine obs_cons ?_ ?_
          · intro T wx K hB hF hD hK
            have g119 := get_eq (hD 19 119 (by simp [Region.binds]) (by kernel_rfl)) s119
            have g122 := get_eq (hD 22 122 (by simp [Region.binds]) (by kernel_rfl)) s122
            refine ob_yes (wanted_none rfl) ?_
            clear hF hD
            go_simp
            exact hK _ _ (Below.refl _ _) (rt_eq s123)
          refine obs_cons ?_ ?_
          · intro T wx K hB hF hD hK
            have g123 := get_eq (hD 23 123 (by simp [Region.binds]) (by kernel_rfl)) s123
            refine ob_yes (wanted_none rfl) ?_
            clear hF hD
            go_simp
            exact hK _ _ (Below.refl _ _) (rt_eq s124)
          refine obs_cons ?_ ?_
          · intro T wx K hB hF hD hK
            have g124 := get_eq (hD 24 124 (by simp [Region.binds]) (by kernel_rfl)) s124
            have g12 : T[12]? = some (.bool v) := hF 12 (free_of (by kernel_rfl))
            refine ob_yes (wanted_yes rfl (by kernel_rfl) g124) ?_
            clear hF hD
            go_simp
            exact hK _ _ (Below.refl _ _) (rt_eq s125)
          refine obs_cons ?_ ?_
          · intro T wx K hB hF hD hK
            have g124 := get_eq (hD 24 124 (by simp [Region.binds]) (by kernel_rfl)) s124
            have g8 : T[8]? = some (.pointer (some ⟨w4.heap.size, 0, none⟩)) := hF 8 (free_of (by kernel_rfl))
            refine ob_yes (wanted_yes rfl (by kernel_rfl) g124) ?_
            clear hF hD
            have c0 := cell_call k19 hB
            have c1 := cell_call k20 hB
            go_simp
            exact hK _ _ (Below.refl _ _) (rt_eq s126)
          refine obs_cons ?_ ?_
          · intro T wx K hB hF hD hK
            have g124 := get_eq (hD 24 124 (by simp [Region.binds]) (by kernel_rfl)) s124
            have g7 : T[7]? = some (.pointer (some ⟨w3.heap.size, 0, none⟩)) := hF 7 (free_of (by kernel_rfl))
            refine ob_yes (wanted_yes rfl (by kernel_rfl) g124) ?_
            clear hF hD
            have c0 := cell_call k17 hB
            have c1 := cell_call k18 hB
            go_simp
            exact hK _ _ (Below.refl _ _) (rt_eq s127)
          refine obs_cons ?_ ?_
          · intro T wx K hB hF hD hK
            have g124 := get_eq (hD 24 124 (by simp [Region.binds]) (by kernel_rfl)) s124
            have g9 : T[9]? = some (.pointer (some ⟨w4.heap.size + 1, 0, none⟩)) := hF 9 (free_of (by kernel_rfl))
            refine ob_yes (wanted_yes rfl (by kernel_rfl) g124) ?_
            clear hF hD
            have c0 := cell_call k21 hB
            have c1 := cell_call k22 hB
            go_simp
            exact hK _ _ (Below.refl _ _) (rt_eq s128)
          refine obs_cons ?_ ?_
          · intro T wx K hB hF hD hK
            have g124 := get_eq (hD 24 124 (by simp [Region.binds]) (by kernel_rfl)) s124
            have g126 := get_eq (hD 26 126 (by simp [Region.binds]) (by kernel_rfl)) s126
            have g127 := get_eq (hD 27 127 (by simp [Region.binds]) (by kernel_rfl)) s127
            have g128 := get_eq (hD 28 128 (by simp [Region.binds]) (by kernel_rfl)) s128
            refine ob_yes (wanted_yes rfl (by kernel_rfl) g124) ?_
            clear hF hD
            go_simp
            refine (onseg_is c d a b a y5 v _ ic id ia ib ia iq E3).mono ?_; rintro e w9 ⟨rfl, hb⟩
            exact hK _ _ hb (rt_eq s129)
          refine obs_cons ?_ ?_
          · intro T wx K hB hF hD hK
            have g124 := get_eq (hD 24 124 (by simp [Region.binds]) (by kernel_rfl)) s124
            have g125 := get_eq (hD 25 125 (by simp [Region.binds]) (by kernel_rfl)) s125
            have g129 := get_eq (hD 29 129 (by simp [Region.binds]) (by kernel_rfl)) s129
            refine ob_yes (wanted_yes rfl (by kernel_rfl) g124) ?_
            clear hF hD
            go_simp
            exact hK _ _ (Below.refl _ _) (rt_eq s130)
          refine obs_cons ?_ ?_
          · intro T wx K hB hF hD hK
            have g124 := get_eq (hD 24 124 (by simp [Region.binds]) (by kernel_rfl)) s124
            have g130 := get_eq (hD 30 130 (by simp [Region.binds]) (by kernel_rfl)) s130
            refine ob_yes (wanted_none rfl) ?_
            clear hF hD
            go_simp
            exact hK _ _ (Below.refl _ _) (rt_eq s131)
          refine obs_cons ?_ ?_
          · intro T wx K hB hF hD hK
            have g131 := get_eq (hD 31 131 (by simp [Region.binds]) (by kernel_rfl)) s131
            refine ob_yes (wanted_none rfl) ?_
            clear hF hD
            go_simp
            exact hK _ _ (Below.refl _ _) (rt_eq s132)
          refine obs_cons ?_ ?_
          · intro T wx K hB hF hD hK
            have g132 := get_eq (hD 32 132 (by simp [Region.binds]) (by kernel_rfl)) s132
            have g7 : T[7]? = some (.pointer (some ⟨w3.heap.size, 0, none⟩)) := hF 7 (free_of (by kernel_rfl))
            refine ob_yes (wanted_yes rfl (by kernel_rfl) g132) ?_
            clear hF hD
            have c0 := cell_call k17 hB
            have c1 := cell_call k18 hB
            go_simp
            exact hK _ _ (Below.refl _ _) (rt_eq s133)
          refine obs_cons ?_ ?_
          · intro T wx K hB hF hD hK
            have g132 := get_eq (hD 32 132 (by simp [Region.binds]) (by kernel_rfl)) s132
            have g7 : T[7]? = some (.pointer (some ⟨w3.heap.size, 0, none⟩)) := hF 7 (free_of (by kernel_rfl))
            refine ob_yes (wanted_yes rfl (by kernel_rfl) g132) ?_
            clear hF hD
            have c0 := cell_call k17 hB
            have c1 := cell_call k18 hB
            go_simp
            exact hK _ _ (Below.refl _ _) (rt_eq s134)
          refine obs_cons ?_ ?_
          · intro T wx K hB hF hD hK
            have g132 := get_eq (hD 32 132 (by simp [Region.binds]) (by kernel_rfl)) s132
            have g9 : T[9]? = some (.pointer (some ⟨w4.heap.size + 1, 0, none⟩)) := hF 9 (free_of (by kernel_rfl))
            refine ob_yes (wanted_yes rfl (by kernel_rfl) g132) ?_
            clear hF hD
            have c0 := cell_call k21 hB
            have c1 := cell_call k22 hB
            go_simp
            exact hK _ _ (Below.refl _ _) (rt_eq s135)
          refine obs_cons ?_ ?_
          · intro T wx K hB hF hD hK
            have g132 := get_eq (hD 32 132 (by simp [Region.binds]) (by kernel_rfl)) s132
            have g133 := get_eq (hD 33 133 (by simp [Region.binds]) (by kernel_rfl)) s133
            have g134 := get_eq (hD 34 134 (by simp [Region.binds]) (by kernel_rfl)) s134
            have g135 := get_eq (hD 35 135 (by simp [Region.binds]) (by kernel_rfl)) s135
            refine ob_yes (wanted_yes rfl (by kernel_rfl) g132) ?_
            clear hF hD
            go_simp
            refine (onseg_is a b a b a y5 false _ ia ib ia ib ia iq E4).mono ?_; rintro e w9 ⟨rfl, hb⟩
            exact hK _ _ hb (rt_eq s136)
          refine obs_cons ?_ ?_
          · intro T wx K hB hF hD hK
            have g132 := get_eq (hD 32 132 (by simp [Region.binds]) (by kernel_rfl)) s132
            have g7 : T[7]? = some (.pointer (some ⟨w3.heap.size, 0, none⟩)) := hF 7 (free_of (by kernel_rfl))
            refine ob_yes (wanted_yes rfl (by kernel_rfl) g132) ?_
            clear hF hD
            have c0 := cell_call k17 hB
            have c1 := cell_call k18 hB
            go_simp
            exact hK _ _ (Below.refl _ _) (rt_eq s137)
          refine obs_cons ?_ ?_
          · intro T wx K hB hF hD hK
            have g132 := get_eq (hD 32 132 (by simp [Region.binds]) (by kernel_rfl)) s132
            have g9 : T[9]? = some (.pointer (some ⟨w4.heap.size + 1, 0, none⟩)) := hF 9 (free_of (by kernel_rfl))
            refine ob_yes (wanted_yes rfl (by kernel_rfl) g132) ?_
            clear hF hD
            have c0 := cell_call k21 hB
            have c1 := cell_call k22 hB
            go_simp
            exact hK _ _ (Below.refl _ _) (rt_eq s138)
          refine obs_cons ?_ ?_
          · intro T wx K hB hF hD hK
            have g132 := get_eq (hD 32 132 (by simp [Region.binds]) (by kernel_rfl)) s132
            have g137 := get_eq (hD 37 137 (by simp [Region.binds]) (by kernel_rfl)) s137
            have g138 := get_eq (hD 38 138 (by simp [Region.binds]) (by kernel_rfl)) s138
            refine ob_yes (wanted_yes rfl (by kernel_rfl) g132) ?_
            clear hF hD
            go_simp
            exact hK _ _ (Below.refl _ _) (rt_eq s139)
          refine obs_cons ?_ ?_
          · intro T wx K hB hF hD hK
            have g132 := get_eq (hD 32 132 (by simp [Region.binds]) (by kernel_rfl)) s132
            have g136 := get_eq (hD 36 136 (by simp [Region.binds]) (by kernel_rfl)) s136
            have g139 := get_eq (hD 39 139 (by simp [Region.binds]) (by kernel_rfl)) s139
            refine ob_yes (wanted_yes rfl (by kernel_rfl) g132) ?_
            clear hF hD
            go_simp
            exact hK _ _ (Below.refl _ _) (rt_eq s140)
          refine obs_cons ?_ ?_
          · intro T wx K hB hF hD hK
            have g132 := get_eq (hD 32 132 (by simp [Region.binds]) (by kernel_rfl)) s132
            have g140 := get_eq (hD 40 140 (by simp [Region.binds]) (by kernel_rfl)) s140
            refine ob_yes (wanted_none rfl) ?_
            clear hF hD
            go_simp
            exact hK _ _ (Below.refl _ _) (rt_eq s141)
          refine obs_cons ?_ ?_
          · intro T wx K hB hF hD hK
            have g141 := get_eq (hD 41 141 (by simp [Region.binds]) (by kernel_rfl)) s141
            refine ob_yes (wanted_none rfl) ?_
            clear hF hD
            go_simp
            exact hK _ _ (Below.refl _ _) (rt_eq s4)
          exact obs_nil
        · intro T w' hb hF hs hD
          have g4 := get_eq (hD 42 4 (by kernel_rfl)) s4
          have fin := Lib.hid (hB.trans (hb.mono hB.size))
          clear hF hD hs hb
          go_wp2_with fail
          refine bodyPost_ret (v := .bool true) (by simp [results, Try.results5, go_sem, g4]) rfl ?_
          exact ⟨rfl, fin.out⟩

theorem walk (x0 x1 x2 x3 x4 x5 x6 x7 : Int) (s : Bool) (w : World) :
    Calls Try.prog 5 #[.agg #[.int .i64 x0, .int .i64 x1, .int .i64 x2, .int .i64 x3, .int .i64 x4, .int .i64 x5, .int .i64 x6, .int .i64 x7], .bool s] w fun e w' => e = .returned (.bool true) ∧ Below w.heap.size w w' := by
  obtain ⟨y0, y1, y2, y3, y4, y5, y6, y7, ⟨b0, b1, b2, b3, b4, b5, b6, b7⟩, HP⟩ := pick_is x0 x1 x2 x3 x4 x5 x6 x7 s
  exact walk_y x0 x1 x2 x3 x4 x5 x6 x7 s w y0 y1 y2 y3 y4 y5 y6 y7 b0 b1 b2 b3 b4 b5 b6 b7 HP _ _ _ _ _ _ _ _ _ _ rfl rfl rfl rfl (Lib.hid rfl) (Lib.hid rfl) (Lib.hid rfl) (Lib.hid rfl) rfl rfl (half_bd b0) (half_bd b1) (half_bd b2) (half_bd b3) (by omega)

set_option maxRecDepth 100000 in
theorem lifted (os : Os) (started : os.Started) (H : Type) (enc : TypeId × Value → H) :
    ReturnsInHanded {} Try.checked os 5 .any (Rows.geomOnSpec.pre6 enc Try.prog Try.f5 Rows.geomOnRow.domain false) (Rows.geomOnSpec.post enc Try.prog Try.f5 false true false false) := by
  refine returnsInHanded_of_change (C := Try.checked) own started (by kernel_rfl) Try.func5
    (ChangeSpec.witness6 (enc := enc) (C := Try.checked) false ⟨#[], #[.agg #[.int .i64 0, .int .i64 0, .int .i64 0, .int .i64 0, .int .i64 0, .int .i64 0, .int .i64 0, .int .i64 0], .bool false], []⟩ 8 (by kernel_rfl) (by kernel_rfl) (by kernel_rfl) (by kernel_rfl)) ?_
  intro W base args ds gs before hval0 hW hcnd _
  have hval : ∀ (j : Nat) t v, Try.f5.params[j]? = some t → args[j]? = some v → Value.okWide Try.prog W .any base t v := hval0
  have hW' := hW
  obtain ⟨p, q, hA0, hV, rfl, hfz, hnd⟩ := hW
  have hA : DataW.TrodAll enc Try.prog W 0 (fun _ => true) true Try.f5.params.toList args.toList ds p := hA0
  rw [Try.params5] at hA hval
  obtain ⟨v0, vs0, d0, ds0, p0, q0, hargs, rfl, rfl, h0, r0⟩ := trodAll_cons hA
  obtain ⟨v1, vs1, d1, ds1, p1, q1, rfl, rfl, rfl, h1, r1⟩ := trodAll_cons r0
  obtain ⟨rfl, rfl, rfl⟩ := trodAll_nil r1
  obtain rfl : args = #[v0, v1] := by cases args; simp_all
  obtain ⟨rfl, rfl⟩ := trodVars_none hV
  have k0 := h0
  have lt0 : ∀ x ∈ p0, x.block < W.heap.size := by obtain ⟨m, hm⟩ := k0; exact DataW.trod_lt m _ _ _ hm
  obtain ⟨x00, x01, x02, x03, x04, x05, x06, x07, rfl⟩ := open_four (hval 0 24 v0 rfl rfl) h0
  obtain ⟨a1, rfl, rfl, rfl⟩ := open_bool Try.underlying4 (hval 1 4 v1 rfl rfl) h1
  clear hA0 hval0
  refine (walk x00 x01 x02 x03 x04 x05 x06 x07 a1 W).mono fun e W' ⟨he, bel⟩ => ?_
  subst he
  exact ⟨_, rfl, _, _, _, [], _, [], hW', trodAll_mk1 (shut_bool Try.underlying4 _), (trodAll_cons_mk (Below.trod laidOut (by kernel_rfl) (of_decide_eq_true (by kernel_rfl)) k0 bel lt0) (trodAll_cons_mk (shut_bool Try.underlying4 _) trodAll_mk0)), rfl, bel.frame _, fun h => by cases h⟩

/-- THE STATEMENT. -/
theorem holds : Rows.GeomOnSaid :=
  OpenClaim.holds_of_wide 5 Try.f5 rfl rfl rfl rfl rfl rfl rfl ⟨rfl, rfl, rfl, rfl, rfl⟩ rfl rfl rfl rfl rfl (by kernel_rfl) Try.func5 (by kernel_rfl)
    (of_decide_eq_true (by kernel_rfl)) (by unfold Func.isWrapper; first | (rw [if_pos (by decide +kernel)]; kernel_rfl) | (rw [if_neg (by decide +kernel)]; exact ⟨rfl, rfl⟩))
    (fun os started H enc _ => lifted os started H enc)
#print axioms holds
end Go.Proofs.Ytbkbdejmnhpdeaa.geomOn
