/- Proved: whether two segments meet hangs on no order, the boxes of segments that meet are not apart, and segments with a common integer point meet (the law GeomSymmetric returns true).
Conditions: none on the arguments: for all points and both values of the flag. -/
import Derived.Test.YtbkbdejmnhpdeaaGeoL
import Derived.Test.YtbkbdejmnhpdeaaGeoRgt
import Derived.Test.YtbkbdejmnhpdeaaGeoSy
import Derived.Test.YtbkbdejmnhpdeaaGeoFr
namespace Go.Proofs.Ytbkbdejmnhpdeaa.geomSymmetric
open Go.ChangeShapes Go.WideShapes Go.ChangeAt Go.RowKit
set_option linter.unusedVariables false

set_option maxRecDepth 100000 in
set_option maxHeartbeats 16000000 in
theorem walk_true (x0 x1 x2 x3 x4 x5 x6 x7 : Int) (s : Bool) (q0 q1 : Int) (w : World) (y0 y1 y2 y3 y4 y5 y6 y7 : Int) (by0 : InY y0) (by1 : InY y1) (by2 : InY y2) (by3 : InY y3) (by4 : InY y4) (by5 : InY y5) (by6 : InY y6) (by7 : InY y7) (HP : Hid (∀ w : World, Calls Try.prog 11 #[.agg #[.int .i64 x0, .int .i64 x1, .int .i64 x2, .int .i64 x3, .int .i64 x4, .int .i64 x5, .int .i64 x6, .int .i64 x7], .bool s] w fun e w' => e = .returned (.agg #[.int .i64 y0, .int .i64 y1, .int .i64 y2, .int .i64 y3, .int .i64 y4, .int .i64 y5, .int .i64 y6, .int .i64 y7]) ∧ Below w.heap.size w w')) (hvv : segB y0 y1 y2 y3 y4 y5 y6 y7 = true) :
    Calls Try.prog 7 #[.agg #[.int .i64 x0, .int .i64 x1, .int .i64 x2, .int .i64 x3, .int .i64 x4, .int .i64 x5, .int .i64 x6, .int .i64 x7], .bool s, .agg #[.int .i64 q0, .int .i64 q1]] w fun e w' => e = .returned (.bool true) ∧ Below w.heap.size w w' := by
  obtain ⟨r0, hr0⟩ : ∃ x, q0.tmod 9 = x := ⟨_, rfl⟩
  obtain ⟨r1, hr1⟩ : ∃ x, q1.tmod 9 = x := ⟨_, rfl⟩
  have ir0 : InR r0 := by rw [← hr0]; exact (near_y q0).inr
  have ir1 : InR r1 := by rw [← hr1]; exact (near_y q1).inr
  have hv := hvv
  clear hvv
  obtain ⟨e1, h1⟩ : ∃ x, onB y0 y1 y2 y3 r0 r1 = x := ⟨_, rfl⟩
  obtain ⟨e2, h2⟩ : ∃ x, onB y4 y5 y6 y7 r0 r1 = x := ⟨_, rfl⟩
  have K : Hid True := Lib.hid trivial
  have HV := Lib.hid hv
  have H1 := Lib.hid h1
  have H2 := Lib.hid h2
  have S1 : Hid (segB y2 y3 y0 y1 y4 y5 y6 y7 = true) := Lib.hid (seg_first.trans hv)
  have S2 : Hid (segB y0 y1 y2 y3 y6 y7 y4 y5 = true) := Lib.hid (seg_second.trans hv)
  have S3 : Hid (segB y4 y5 y6 y7 y0 y1 y2 y3 = true) := Lib.hid (seg_both.trans hv)
  have S4 : Hid (segB y0 y1 y2 y3 y0 y1 y6 y7 = true) := Lib.hid seg_same
  have S5 : Hid (segB y0 y1 y2 y3 y0 y1 y2 y3 = true) := Lib.hid seg_same
  have R0 := Lib.hid hr0
  have R1 := Lib.hid hr1
  clear hv h1 h2 hr0 hr1
  have hB : Below w.heap.size w w := Below.refl _ _
  go_enter Try.func7, Try.ntmps7
  go_wp2_with fail
  refine (head_any _).mono ?_; rintro e w1 ⟨rfl, hb⟩
  have k1 : w1.cell? ⟨w.heap.size, 0, none⟩ = some (.int .i64 x0) := cell_call (cell_alloc (cbx w #[.int .i64 x0, .int .i64 x1, .int .i64 x2, .int .i64 x3, .int .i64 x4, .int .i64 x5, .int .i64 x6, .int .i64 x7] 24 (w.heap.size) 0 (.int .i64 x0) (by simp) rfl) _) hb
  have k2 : w1.cell? ⟨w.heap.size, 1, none⟩ = some (.int .i64 x1) := cell_call (cell_alloc (cbx w #[.int .i64 x0, .int .i64 x1, .int .i64 x2, .int .i64 x3, .int .i64 x4, .int .i64 x5, .int .i64 x6, .int .i64 x7] 24 (w.heap.size) 1 (.int .i64 x1) (by simp) rfl) _) hb
  have k3 : w1.cell? ⟨w.heap.size, 2, none⟩ = some (.int .i64 x2) := cell_call (cell_alloc (cbx w #[.int .i64 x0, .int .i64 x1, .int .i64 x2, .int .i64 x3, .int .i64 x4, .int .i64 x5, .int .i64 x6, .int .i64 x7] 24 (w.heap.size) 2 (.int .i64 x2) (by simp) rfl) _) hb
  have k4 : w1.cell? ⟨w.heap.size, 3, none⟩ = some (.int .i64 x3) := cell_call (cell_alloc (cbx w #[.int .i64 x0, .int .i64 x1, .int .i64 x2, .int .i64 x3, .int .i64 x4, .int .i64 x5, .int .i64 x6, .int .i64 x7] 24 (w.heap.size) 3 (.int .i64 x3) (by simp) rfl) _) hb
  have k5 : w1.cell? ⟨w.heap.size, 4, none⟩ = some (.int .i64 x4) := cell_call (cell_alloc (cbx w #[.int .i64 x0, .int .i64 x1, .int .i64 x2, .int .i64 x3, .int .i64 x4, .int .i64 x5, .int .i64 x6, .int .i64 x7] 24 (w.heap.size) 4 (.int .i64 x4) (by simp) rfl) _) hb
  have k6 : w1.cell? ⟨w.heap.size, 5, none⟩ = some (.int .i64 x5) := cell_call (cell_alloc (cbx w #[.int .i64 x0, .int .i64 x1, .int .i64 x2, .int .i64 x3, .int .i64 x4, .int .i64 x5, .int .i64 x6, .int .i64 x7] 24 (w.heap.size) 5 (.int .i64 x5) (by simp) rfl) _) hb
  have k7 : w1.cell? ⟨w.heap.size, 6, none⟩ = some (.int .i64 x6) := cell_call (cell_alloc (cbx w #[.int .i64 x0, .int .i64 x1, .int .i64 x2, .int .i64 x3, .int .i64 x4, .int .i64 x5, .int .i64 x6, .int .i64 x7] 24 (w.heap.size) 6 (.int .i64 x6) (by simp) rfl) _) hb
  have k8 : w1.cell? ⟨w.heap.size, 7, none⟩ = some (.int .i64 x7) := cell_call (cell_alloc (cbx w #[.int .i64 x0, .int .i64 x1, .int .i64 x2, .int .i64 x3, .int .i64 x4, .int .i64 x5, .int .i64 x6, .int .i64 x7] 24 (w.heap.size) 7 (.int .i64 x7) (by simp) rfl) _) hb
  have k9 : w1.cell? ⟨w.heap.size + 1, 0, none⟩ = some (.int .i64 q0) := cell_call (cbx (w.alloc (.cells #[.int .i64 x0, .int .i64 x1, .int .i64 x2, .int .i64 x3, .int .i64 x4, .int .i64 x5, .int .i64 x6, .int .i64 x7] 24)) #[.int .i64 q0, .int .i64 q1] 23 (w.heap.size + 1) 0 (.int .i64 q0) (by simp) rfl) hb
  have k10 : w1.cell? ⟨w.heap.size + 1, 1, none⟩ = some (.int .i64 q1) := cell_call (cbx (w.alloc (.cells #[.int .i64 x0, .int .i64 x1, .int .i64 x2, .int .i64 x3, .int .i64 x4, .int .i64 x5, .int .i64 x6, .int .i64 x7] 24)) #[.int .i64 q0, .int .i64 q1] 23 (w.heap.size + 1) 1 (.int .i64 q1) (by simp) rfl) hb
  replace hB := belT (belA (belA hB _) _) hb
  clear hb
  have zk1 : w.heap.size < w1.heap.size := World.block_lt_of_cell? w1 _ k1
  have zk9 : w.heap.size + 1 < w1.heap.size := World.block_lt_of_cell? w1 _ k9
  go_wp2_with fail
  refine (HP.out _).mono ?_; rintro e w2 ⟨rfl, hb⟩
  replace k1 : w2.cell? ⟨w.heap.size, 0, none⟩ = some (.int .i64 x0) := cell_call k1 hb
  replace k2 : w2.cell? ⟨w.heap.size, 1, none⟩ = some (.int .i64 x1) := cell_call k2 hb
  replace k3 : w2.cell? ⟨w.heap.size, 2, none⟩ = some (.int .i64 x2) := cell_call k3 hb
  replace k4 : w2.cell? ⟨w.heap.size, 3, none⟩ = some (.int .i64 x3) := cell_call k4 hb
  replace k5 : w2.cell? ⟨w.heap.size, 4, none⟩ = some (.int .i64 x4) := cell_call k5 hb
  replace k6 : w2.cell? ⟨w.heap.size, 5, none⟩ = some (.int .i64 x5) := cell_call k6 hb
  replace k7 : w2.cell? ⟨w.heap.size, 6, none⟩ = some (.int .i64 x6) := cell_call k7 hb
  replace k8 : w2.cell? ⟨w.heap.size, 7, none⟩ = some (.int .i64 x7) := cell_call k8 hb
  replace k9 : w2.cell? ⟨w.heap.size + 1, 0, none⟩ = some (.int .i64 q0) := cell_call k9 hb
  replace k10 : w2.cell? ⟨w.heap.size + 1, 1, none⟩ = some (.int .i64 q1) := cell_call k10 hb
  replace hB := belT hB hb
  clear hb
  replace zk1 : w.heap.size < w2.heap.size := World.block_lt_of_cell? w2 _ k1
  replace zk9 : w.heap.size + 1 < w2.heap.size := World.block_lt_of_cell? w2 _ k9
  go_wp2_with fail
  refine (cross_is y0 y1 y2 y3 y4 y5 y6 y7 true _ by0.inr by1.inr by2.inr by3.inr by4.inr by5.inr by6.inr by7.inr HV).mono ?_; rintro e w3 ⟨rfl, hb⟩
  replace k1 : w3.cell? ⟨w.heap.size, 0, none⟩ = some (.int .i64 x0) := cell_call (cell_alloc k1 _) hb
  replace k2 : w3.cell? ⟨w.heap.size, 1, none⟩ = some (.int .i64 x1) := cell_call (cell_alloc k2 _) hb
  replace k3 : w3.cell? ⟨w.heap.size, 2, none⟩ = some (.int .i64 x2) := cell_call (cell_alloc k3 _) hb
  replace k4 : w3.cell? ⟨w.heap.size, 3, none⟩ = some (.int .i64 x3) := cell_call (cell_alloc k4 _) hb
  replace k5 : w3.cell? ⟨w.heap.size, 4, none⟩ = some (.int .i64 x4) := cell_call (cell_alloc k5 _) hb
  replace k6 : w3.cell? ⟨w.heap.size, 5, none⟩ = some (.int .i64 x5) := cell_call (cell_alloc k6 _) hb
  replace k7 : w3.cell? ⟨w.heap.size, 6, none⟩ = some (.int .i64 x6) := cell_call (cell_alloc k7 _) hb
  replace k8 : w3.cell? ⟨w.heap.size, 7, none⟩ = some (.int .i64 x7) := cell_call (cell_alloc k8 _) hb
  replace k9 : w3.cell? ⟨w.heap.size + 1, 0, none⟩ = some (.int .i64 q0) := cell_call (cell_alloc k9 _) hb
  replace k10 : w3.cell? ⟨w.heap.size + 1, 1, none⟩ = some (.int .i64 q1) := cell_call (cell_alloc k10 _) hb
  have k11 : w3.cell? ⟨w2.heap.size, 0, none⟩ = some (.int .i64 y0) := cell_call (cbx w2 #[.int .i64 y0, .int .i64 y1, .int .i64 y2, .int .i64 y3, .int .i64 y4, .int .i64 y5, .int .i64 y6, .int .i64 y7] 24 (w2.heap.size) 0 (.int .i64 y0) (by simp) rfl) hb
  have k12 : w3.cell? ⟨w2.heap.size, 1, none⟩ = some (.int .i64 y1) := cell_call (cbx w2 #[.int .i64 y0, .int .i64 y1, .int .i64 y2, .int .i64 y3, .int .i64 y4, .int .i64 y5, .int .i64 y6, .int .i64 y7] 24 (w2.heap.size) 1 (.int .i64 y1) (by simp) rfl) hb
  have k13 : w3.cell? ⟨w2.heap.size, 2, none⟩ = some (.int .i64 y2) := cell_call (cbx w2 #[.int .i64 y0, .int .i64 y1, .int .i64 y2, .int .i64 y3, .int .i64 y4, .int .i64 y5, .int .i64 y6, .int .i64 y7] 24 (w2.heap.size) 2 (.int .i64 y2) (by simp) rfl) hb
  have k14 : w3.cell? ⟨w2.heap.size, 3, none⟩ = some (.int .i64 y3) := cell_call (cbx w2 #[.int .i64 y0, .int .i64 y1, .int .i64 y2, .int .i64 y3, .int .i64 y4, .int .i64 y5, .int .i64 y6, .int .i64 y7] 24 (w2.heap.size) 3 (.int .i64 y3) (by simp) rfl) hb
  have k15 : w3.cell? ⟨w2.heap.size, 4, none⟩ = some (.int .i64 y4) := cell_call (cbx w2 #[.int .i64 y0, .int .i64 y1, .int .i64 y2, .int .i64 y3, .int .i64 y4, .int .i64 y5, .int .i64 y6, .int .i64 y7] 24 (w2.heap.size) 4 (.int .i64 y4) (by simp) rfl) hb
  have k16 : w3.cell? ⟨w2.heap.size, 5, none⟩ = some (.int .i64 y5) := cell_call (cbx w2 #[.int .i64 y0, .int .i64 y1, .int .i64 y2, .int .i64 y3, .int .i64 y4, .int .i64 y5, .int .i64 y6, .int .i64 y7] 24 (w2.heap.size) 5 (.int .i64 y5) (by simp) rfl) hb
  have k17 : w3.cell? ⟨w2.heap.size, 6, none⟩ = some (.int .i64 y6) := cell_call (cbx w2 #[.int .i64 y0, .int .i64 y1, .int .i64 y2, .int .i64 y3, .int .i64 y4, .int .i64 y5, .int .i64 y6, .int .i64 y7] 24 (w2.heap.size) 6 (.int .i64 y6) (by simp) rfl) hb
  have k18 : w3.cell? ⟨w2.heap.size, 7, none⟩ = some (.int .i64 y7) := cell_call (cbx w2 #[.int .i64 y0, .int .i64 y1, .int .i64 y2, .int .i64 y3, .int .i64 y4, .int .i64 y5, .int .i64 y6, .int .i64 y7] 24 (w2.heap.size) 7 (.int .i64 y7) (by simp) rfl) hb
  replace hB := belT (belA hB _) hb
  clear hb
  replace zk1 : w.heap.size < w3.heap.size := World.block_lt_of_cell? w3 _ k1
  replace zk9 : w.heap.size + 1 < w3.heap.size := World.block_lt_of_cell? w3 _ k9
  have zk11 : w2.heap.size < w3.heap.size := World.block_lt_of_cell? w3 _ k11
  go_wp2_with fail
  refine (near_is q0 q1 r0 r1 _ R0 R1).mono ?_; rintro e w4 ⟨rfl, hb⟩
  replace k1 : w4.cell? ⟨w.heap.size, 0, none⟩ = some (.int .i64 x0) := cell_call k1 hb
  replace k2 : w4.cell? ⟨w.heap.size, 1, none⟩ = some (.int .i64 x1) := cell_call k2 hb
  replace k3 : w4.cell? ⟨w.heap.size, 2, none⟩ = some (.int .i64 x2) := cell_call k3 hb
  replace k4 : w4.cell? ⟨w.heap.size, 3, none⟩ = some (.int .i64 x3) := cell_call k4 hb
  replace k5 : w4.cell? ⟨w.heap.size, 4, none⟩ = some (.int .i64 x4) := cell_call k5 hb
  replace k6 : w4.cell? ⟨w.heap.size, 5, none⟩ = some (.int .i64 x5) := cell_call k6 hb
  replace k7 : w4.cell? ⟨w.heap.size, 6, none⟩ = some (.int .i64 x6) := cell_call k7 hb
  replace k8 : w4.cell? ⟨w.heap.size, 7, none⟩ = some (.int .i64 x7) := cell_call k8 hb
  replace k9 : w4.cell? ⟨w.heap.size + 1, 0, none⟩ = some (.int .i64 q0) := cell_call k9 hb
  replace k10 : w4.cell? ⟨w.heap.size + 1, 1, none⟩ = some (.int .i64 q1) := cell_call k10 hb
  replace k11 : w4.cell? ⟨w2.heap.size, 0, none⟩ = some (.int .i64 y0) := cell_call k11 hb
  replace k12 : w4.cell? ⟨w2.heap.size, 1, none⟩ = some (.int .i64 y1) := cell_call k12 hb
  replace k13 : w4.cell? ⟨w2.heap.size, 2, none⟩ = some (.int .i64 y2) := cell_call k13 hb
  replace k14 : w4.cell? ⟨w2.heap.size, 3, none⟩ = some (.int .i64 y3) := cell_call k14 hb
  replace k15 : w4.cell? ⟨w2.heap.size, 4, none⟩ = some (.int .i64 y4) := cell_call k15 hb
  replace k16 : w4.cell? ⟨w2.heap.size, 5, none⟩ = some (.int .i64 y5) := cell_call k16 hb
  replace k17 : w4.cell? ⟨w2.heap.size, 6, none⟩ = some (.int .i64 y6) := cell_call k17 hb
  replace k18 : w4.cell? ⟨w2.heap.size, 7, none⟩ = some (.int .i64 y7) := cell_call k18 hb
  replace hB := belT hB hb
  clear hb
  replace zk1 : w.heap.size < w4.heap.size := World.block_lt_of_cell? w4 _ k1
  replace zk9 : w.heap.size + 1 < w4.heap.size := World.block_lt_of_cell? w4 _ k9
  replace zk11 : w2.heap.size < w4.heap.size := World.block_lt_of_cell? w4 _ k11
  go_upto_region 5 with fail
  replace k1 : (w4.alloc (.cells #[.int .i64 r0, .int .i64 r1] 23)).cell? ⟨w.heap.size, 0, none⟩ = some (.int .i64 x0) := (cell_alloc k1 _)
  replace k2 : (w4.alloc (.cells #[.int .i64 r0, .int .i64 r1] 23)).cell? ⟨w.heap.size, 1, none⟩ = some (.int .i64 x1) := (cell_alloc k2 _)
  replace k3 : (w4.alloc (.cells #[.int .i64 r0, .int .i64 r1] 23)).cell? ⟨w.heap.size, 2, none⟩ = some (.int .i64 x2) := (cell_alloc k3 _)
  replace k4 : (w4.alloc (.cells #[.int .i64 r0, .int .i64 r1] 23)).cell? ⟨w.heap.size, 3, none⟩ = some (.int .i64 x3) := (cell_alloc k4 _)
  replace k5 : (w4.alloc (.cells #[.int .i64 r0, .int .i64 r1] 23)).cell? ⟨w.heap.size, 4, none⟩ = some (.int .i64 x4) := (cell_alloc k5 _)
  replace k6 : (w4.alloc (.cells #[.int .i64 r0, .int .i64 r1] 23)).cell? ⟨w.heap.size, 5, none⟩ = some (.int .i64 x5) := (cell_alloc k6 _)
  replace k7 : (w4.alloc (.cells #[.int .i64 r0, .int .i64 r1] 23)).cell? ⟨w.heap.size, 6, none⟩ = some (.int .i64 x6) := (cell_alloc k7 _)
  replace k8 : (w4.alloc (.cells #[.int .i64 r0, .int .i64 r1] 23)).cell? ⟨w.heap.size, 7, none⟩ = some (.int .i64 x7) := (cell_alloc k8 _)
  replace k9 : (w4.alloc (.cells #[.int .i64 r0, .int .i64 r1] 23)).cell? ⟨w.heap.size + 1, 0, none⟩ = some (.int .i64 q0) := (cell_alloc k9 _)
  replace k10 : (w4.alloc (.cells #[.int .i64 r0, .int .i64 r1] 23)).cell? ⟨w.heap.size + 1, 1, none⟩ = some (.int .i64 q1) := (cell_alloc k10 _)
  replace k11 : (w4.alloc (.cells #[.int .i64 r0, .int .i64 r1] 23)).cell? ⟨w2.heap.size, 0, none⟩ = some (.int .i64 y0) := (cell_alloc k11 _)
  replace k12 : (w4.alloc (.cells #[.int .i64 r0, .int .i64 r1] 23)).cell? ⟨w2.heap.size, 1, none⟩ = some (.int .i64 y1) := (cell_alloc k12 _)
  replace k13 : (w4.alloc (.cells #[.int .i64 r0, .int .i64 r1] 23)).cell? ⟨w2.heap.size, 2, none⟩ = some (.int .i64 y2) := (cell_alloc k13 _)
  replace k14 : (w4.alloc (.cells #[.int .i64 r0, .int .i64 r1] 23)).cell? ⟨w2.heap.size, 3, none⟩ = some (.int .i64 y3) := (cell_alloc k14 _)
  replace k15 : (w4.alloc (.cells #[.int .i64 r0, .int .i64 r1] 23)).cell? ⟨w2.heap.size, 4, none⟩ = some (.int .i64 y4) := (cell_alloc k15 _)
  replace k16 : (w4.alloc (.cells #[.int .i64 r0, .int .i64 r1] 23)).cell? ⟨w2.heap.size, 5, none⟩ = some (.int .i64 y5) := (cell_alloc k16 _)
  replace k17 : (w4.alloc (.cells #[.int .i64 r0, .int .i64 r1] 23)).cell? ⟨w2.heap.size, 6, none⟩ = some (.int .i64 y6) := (cell_alloc k17 _)
  replace k18 : (w4.alloc (.cells #[.int .i64 r0, .int .i64 r1] 23)).cell? ⟨w2.heap.size, 7, none⟩ = some (.int .i64 y7) := (cell_alloc k18 _)
  have k19 : (w4.alloc (.cells #[.int .i64 r0, .int .i64 r1] 23)).cell? ⟨w4.heap.size, 0, none⟩ = some (.int .i64 r0) := (cbx w4 #[.int .i64 r0, .int .i64 r1] 23 (w4.heap.size) 0 (.int .i64 r0) (by simp) rfl)
  have k20 : (w4.alloc (.cells #[.int .i64 r0, .int .i64 r1] 23)).cell? ⟨w4.heap.size, 1, none⟩ = some (.int .i64 r1) := (cbx w4 #[.int .i64 r0, .int .i64 r1] 23 (w4.heap.size) 1 (.int .i64 r1) (by simp) rfl)
  replace hB : Below w.heap.size w (w4.alloc (.cells #[.int .i64 r0, .int .i64 r1] 23)) := (belA hB _)
  generalize (w4.alloc (.cells #[.int .i64 r0, .int .i64 r1] 23)) = v4 at *
  have zk1 : w.heap.size < v4.heap.size := World.block_lt_of_cell? v4 _ k1
  have zk9 : w.heap.size + 1 < v4.heap.size := World.block_lt_of_cell? v4 _ k9
  have zk11 : w2.heap.size < v4.heap.size := World.block_lt_of_cell? v4 _ k11
  have zk19 : w4.heap.size < v4.heap.size := World.block_lt_of_cell? v4 _ k19
  clear HP R0 R1 k1 k2 k3 k4 k5 k6 k7 k8 k9 k10 zk1 zk11 zk19 zk9
  cases e1
  · obtain ⟨sp, hsp⟩ : ∃ sp : Told, sp = [none, none, none, none, none, none, none, none, none, none, none, none, none, none, none, none, none, none, none, none, none, none, none, none, none, none, some (.inl (.bool true)), some (.inl (.bool true)), some (.inl (.slice (some ⟨w2.heap.size, 0, none⟩) 2 4)), some (.inl (.slice (some ⟨w2.heap.size, 4, none⟩) 2 2)), some (.inl (.int .i64 0)), some (.inl (.bool false)), some (.inl (.bool false)), some (.inl (.bool false)), some (.inl (.pointer (some ⟨w2.heap.size, 0, none⟩))), some (.inl (.agg #[.int .i64 y0, .int .i64 y1])), some (.inl (.pointer (some ⟨w2.heap.size, 2, none⟩))), some (.inl (.agg #[.int .i64 y2, .int .i64 y3])), some (.inl (.agg #[.int .i64 r0, .int .i64 r1])), some (.inl (.bool false)), some (.inl (.bool false)), none, none, none, none, none, none, some (.inl (.bool false)), some (.inl (.bool false)), none, none, some (.inl (.bool false)), some (.inl (.bool false))] := ⟨_, rfl⟩
    have s26 : sp.getD 26 none = some (.inl (.bool true)) := by rw [hsp]; rfl
    have s27 : sp.getD 27 none = some (.inl (.bool true)) := by rw [hsp]; rfl
    have s28 : sp.getD 28 none = some (.inl (.slice (some ⟨w2.heap.size, 0, none⟩) 2 4)) := by rw [hsp]; rfl
    have s29 : sp.getD 29 none = some (.inl (.slice (some ⟨w2.heap.size, 4, none⟩) 2 2)) := by rw [hsp]; rfl
    have s30 : sp.getD 30 none = some (.inl (.int .i64 0)) := by rw [hsp]; rfl
    have s31 : sp.getD 31 none = some (.inl (.bool false)) := by rw [hsp]; rfl
    have s32 : sp.getD 32 none = some (.inl (.bool false)) := by rw [hsp]; rfl
    have s33 : sp.getD 33 none = some (.inl (.bool false)) := by rw [hsp]; rfl
    have s34 : sp.getD 34 none = some (.inl (.pointer (some ⟨w2.heap.size, 0, none⟩))) := by rw [hsp]; rfl
    have s35 : sp.getD 35 none = some (.inl (.agg #[.int .i64 y0, .int .i64 y1])) := by rw [hsp]; rfl
    have s36 : sp.getD 36 none = some (.inl (.pointer (some ⟨w2.heap.size, 2, none⟩))) := by rw [hsp]; rfl
    have s37 : sp.getD 37 none = some (.inl (.agg #[.int .i64 y2, .int .i64 y3])) := by rw [hsp]; rfl
    have s38 : sp.getD 38 none = some (.inl (.agg #[.int .i64 r0, .int .i64 r1])) := by rw [hsp]; rfl
    have s39 : sp.getD 39 none = some (.inl (.bool false)) := by rw [hsp]; rfl
    have s40 : sp.getD 40 none = some (.inl (.bool false)) := by rw [hsp]; rfl
    have s41 : sp.getD 41 none = none := by rw [hsp]; rfl
    have s42 : sp.getD 42 none = none := by rw [hsp]; rfl
    have s43 : sp.getD 43 none = none := by rw [hsp]; rfl
    have s44 : sp.getD 44 none = none := by rw [hsp]; rfl
    have s45 : sp.getD 45 none = none := by rw [hsp]; rfl
    have s46 : sp.getD 46 none = none := by rw [hsp]; rfl
    have s47 : sp.getD 47 none = some (.inl (.bool false)) := by rw [hsp]; rfl
    have s48 : sp.getD 48 none = some (.inl (.bool false)) := by rw [hsp]; rfl
    have s49 : sp.getD 49 none = none := by rw [hsp]; rfl
    have s50 : sp.getD 50 none = none := by rw [hsp]; rfl
    have s51 : sp.getD 51 none = some (.inl (.bool false)) := by rw [hsp]; rfl
    have s52 : sp.getD 52 none = some (.inl (.bool false)) := by rw [hsp]; rfl
    clear hsp
    refine region_obs sp (by kernel_rfl) (by kernel_rfl) ?_ ?_
    · rw [List.toList_toArray]
      refine obs_cons ?_ ?_
      · intro T w K hB hF hD hK
        have g9 : T[9]? = some (.bool true) := hF 9 (free_of (by kernel_rfl))
        refine ob_yes (wanted_none rfl) ?_
        clear hF hD
        go_simp
        exact hK _ _ (Below.refl _ _) (rt_eq s26)
      refine obs_cons ?_ ?_
      · intro T w K hB hF hD hK
        have g26 := get_eq (hD 0 26 (by simp [Region.binds]) (by kernel_rfl)) s26
        refine ob_yes (wanted_none rfl) ?_
        clear hF hD
        go_simp
        exact hK _ _ (Below.refl _ _) (rt_eq s27)
      refine obs_cons ?_ ?_
      · intro T w K hB hF hD hK
        have g27 := get_eq (hD 1 27 (by simp [Region.binds]) (by kernel_rfl)) s27
        have g8 : T[8]? = some (.pointer (some ⟨w2.heap.size, 0, none⟩)) := hF 8 (free_of (by kernel_rfl))
        refine ob_yes (wanted_yes rfl (by kernel_rfl) g27) ?_
        clear hF hD
        go_simp
        exact hK _ _ (Below.refl _ _) (rt_eq s28)
      refine obs_cons ?_ ?_
      · intro T w K hB hF hD hK
        have g27 := get_eq (hD 1 27 (by simp [Region.binds]) (by kernel_rfl)) s27
        have g8 : T[8]? = some (.pointer (some ⟨w2.heap.size, 0, none⟩)) := hF 8 (free_of (by kernel_rfl))
        refine ob_yes (wanted_yes rfl (by kernel_rfl) g27) ?_
        clear hF hD
        go_simp
        exact hK _ _ (Below.refl _ _) (rt_eq s29)
      refine obs_cons ?_ ?_
      · intro T w K hB hF hD hK
        have g27 := get_eq (hD 1 27 (by simp [Region.binds]) (by kernel_rfl)) s27
        have g28 := get_eq (hD 2 28 (by simp [Region.binds]) (by kernel_rfl)) s28
        have g29 := get_eq (hD 3 29 (by simp [Region.binds]) (by kernel_rfl)) s29
        refine ob_yes (wanted_yes rfl (by kernel_rfl) g27) ?_
        clear hF hD
        go_simp
        refine (boxs_is y0 y1 y2 y3 y4 y5 y6 y7 (w2.heap.size) 4 2 _ by0 by1 by2 by3 by4 by5 by6 by7 (cell_call k11 hB) (cell_call k12 hB) (cell_call k13 hB) (cell_call k14 hB) (cell_call k15 hB) (cell_call k16 hB) (cell_call k17 hB) (cell_call k18 hB) HV).mono ?_; rintro e w9 ⟨rfl, hb⟩
        exact hK _ _ hb (rt_eq s30)
      refine obs_cons ?_ ?_
      · intro T w K hB hF hD hK
        have g27 := get_eq (hD 1 27 (by simp [Region.binds]) (by kernel_rfl)) s27
        have g30 := get_eq (hD 4 30 (by simp [Region.binds]) (by kernel_rfl)) s30
        refine ob_yes (wanted_yes rfl (by kernel_rfl) g27) ?_
        clear hF hD
        go_simp
        exact hK _ _ (Below.refl _ _) (rt_eq s31)
      refine obs_cons ?_ ?_
      · intro T w K hB hF hD hK
        have g27 := get_eq (hD 1 27 (by simp [Region.binds]) (by kernel_rfl)) s27
        have g31 := get_eq (hD 5 31 (by simp [Region.binds]) (by kernel_rfl)) s31
        refine ob_yes (wanted_none rfl) ?_
        clear hF hD
        go_simp
        exact hK _ _ (Below.refl _ _) (rt_eq s32)
      refine obs_cons ?_ ?_
      · intro T w K hB hF hD hK
        have g32 := get_eq (hD 6 32 (by simp [Region.binds]) (by kernel_rfl)) s32
        refine ob_yes (wanted_none rfl) ?_
        clear hF hD
        go_simp
        exact hK _ _ (Below.refl _ _) (rt_eq s33)
      refine obs_cons ?_ ?_
      · intro T w K hB hF hD hK
        have g33 := get_eq (hD 7 33 (by simp [Region.binds]) (by kernel_rfl)) s33
        have g8 : T[8]? = some (.pointer (some ⟨w2.heap.size, 0, none⟩)) := hF 8 (free_of (by kernel_rfl))
        refine ob_yes (wanted_yes rfl (by kernel_rfl) g33) ?_
        clear hF hD
        go_simp
        exact hK _ _ (Below.refl _ _) (rt_eq s34)
      refine obs_cons ?_ ?_
      · intro T w K hB hF hD hK
        have g33 := get_eq (hD 7 33 (by simp [Region.binds]) (by kernel_rfl)) s33
        have g34 := get_eq (hD 8 34 (by simp [Region.binds]) (by kernel_rfl)) s34
        refine ob_yes (wanted_yes rfl (by kernel_rfl) g33) ?_
        clear hF hD
        have c0 := cell_call k11 hB
        have c1 := cell_call k12 hB
        go_simp
        exact hK _ _ (Below.refl _ _) (rt_eq s35)
      refine obs_cons ?_ ?_
      · intro T w K hB hF hD hK
        have g33 := get_eq (hD 7 33 (by simp [Region.binds]) (by kernel_rfl)) s33
        have g8 : T[8]? = some (.pointer (some ⟨w2.heap.size, 0, none⟩)) := hF 8 (free_of (by kernel_rfl))
        refine ob_yes (wanted_yes rfl (by kernel_rfl) g33) ?_
        clear hF hD
        go_simp
        exact hK _ _ (Below.refl _ _) (rt_eq s36)
      refine obs_cons ?_ ?_
      · intro T w K hB hF hD hK
        have g33 := get_eq (hD 7 33 (by simp [Region.binds]) (by kernel_rfl)) s33
        have g36 := get_eq (hD 10 36 (by simp [Region.binds]) (by kernel_rfl)) s36
        refine ob_yes (wanted_yes rfl (by kernel_rfl) g33) ?_
        clear hF hD
        have c0 := cell_call k13 hB
        have c1 := cell_call k14 hB
        go_simp
        exact hK _ _ (Below.refl _ _) (rt_eq s37)
      refine obs_cons ?_ ?_
      · intro T w K hB hF hD hK
        have g33 := get_eq (hD 7 33 (by simp [Region.binds]) (by kernel_rfl)) s33
        have g10 : T[10]? = some (.pointer (some ⟨w4.heap.size, 0, none⟩)) := hF 10 (free_of (by kernel_rfl))
        refine ob_yes (wanted_yes rfl (by kernel_rfl) g33) ?_
        clear hF hD
        have c0 := cell_call k19 hB
        have c1 := cell_call k20 hB
        go_simp
        exact hK _ _ (Below.refl _ _) (rt_eq s38)
      refine obs_cons ?_ ?_
      · intro T w K hB hF hD hK
        have g33 := get_eq (hD 7 33 (by simp [Region.binds]) (by kernel_rfl)) s33
        have g35 := get_eq (hD 9 35 (by simp [Region.binds]) (by kernel_rfl)) s35
        have g37 := get_eq (hD 11 37 (by simp [Region.binds]) (by kernel_rfl)) s37
        have g38 := get_eq (hD 12 38 (by simp [Region.binds]) (by kernel_rfl)) s38
        refine ob_yes (wanted_yes rfl (by kernel_rfl) g33) ?_
        clear hF hD
        go_simp
        refine (onseg_is y0 y1 y2 y3 r0 r1 false _ by0.inr by1.inr by2.inr by3.inr ir0 ir1 H1).mono ?_; rintro e w9 ⟨rfl, hb⟩
        exact hK _ _ hb (rt_eq s39)
      refine obs_cons ?_ ?_
      · intro T w K hB hF hD hK
        have g33 := get_eq (hD 7 33 (by simp [Region.binds]) (by kernel_rfl)) s33
        have g39 := get_eq (hD 13 39 (by simp [Region.binds]) (by kernel_rfl)) s39
        refine ob_yes (wanted_yes rfl (by kernel_rfl) g33) ?_
        clear hF hD
        go_simp
        exact hK _ _ (Below.refl _ _) (rt_eq s40)
      refine obs_cons ?_ ?_
      · intro T w K hB hF hD hK
        have g40 := get_eq (hD 14 40 (by simp [Region.binds]) (by kernel_rfl)) s40
        refine ob_no (wanted_no rfl (by kernel_rfl) g40 rfl) ?_
        exact hK _ _ (Below.refl _ _) (rt_any s41)
      refine obs_cons ?_ ?_
      · intro T w K hB hF hD hK
        have g40 := get_eq (hD 14 40 (by simp [Region.binds]) (by kernel_rfl)) s40
        refine ob_no (wanted_no rfl (by kernel_rfl) g40 rfl) ?_
        exact hK _ _ (Below.refl _ _) (rt_any s42)
      refine obs_cons ?_ ?_
      · intro T w K hB hF hD hK
        have g40 := get_eq (hD 14 40 (by simp [Region.binds]) (by kernel_rfl)) s40
        refine ob_no (wanted_no rfl (by kernel_rfl) g40 rfl) ?_
        exact hK _ _ (Below.refl _ _) (rt_any s43)
      refine obs_cons ?_ ?_
      · intro T w K hB hF hD hK
        have g40 := get_eq (hD 14 40 (by simp [Region.binds]) (by kernel_rfl)) s40
        refine ob_no (wanted_no rfl (by kernel_rfl) g40 rfl) ?_
        exact hK _ _ (Below.refl _ _) (rt_any s44)
      refine obs_cons ?_ ?_
      · intro T w K hB hF hD hK
        have g40 := get_eq (hD 14 40 (by simp [Region.binds]) (by kernel_rfl)) s40
        refine ob_no (wanted_no rfl (by kernel_rfl) g40 rfl) ?_
        exact hK _ _ (Below.refl _ _) (rt_any s45)
      refine obs_cons ?_ ?_
      · intro T w K hB hF hD hK
        have g40 := get_eq (hD 14 40 (by simp [Region.binds]) (by kernel_rfl)) s40
        refine ob_no (wanted_no rfl (by kernel_rfl) g40 rfl) ?_
        exact hK _ _ (Below.refl _ _) (rt_any s46)
      refine obs_cons ?_ ?_
      · intro T w K hB hF hD hK
        have g33 := get_eq (hD 7 33 (by simp [Region.binds]) (by kernel_rfl)) s33
        have g40 := get_eq (hD 14 40 (by simp [Region.binds]) (by kernel_rfl)) s40
        refine ob_yes (wanted_yes rfl (by kernel_rfl) g33) ?_
        clear hF hD
        go_simp
        exact hK _ _ (Below.refl _ _) (rt_eq s47)
      refine obs_cons ?_ ?_
      · intro T w K hB hF hD hK
        have g33 := get_eq (hD 7 33 (by simp [Region.binds]) (by kernel_rfl)) s33
        have g47 := get_eq (hD 21 47 (by simp [Region.binds]) (by kernel_rfl)) s47
        refine ob_yes (wanted_yes rfl (by kernel_rfl) g33) ?_
        clear hF hD
        go_simp
        exact hK _ _ (Below.refl _ _) (rt_eq s48)
      refine obs_cons ?_ ?_
      · intro T w K hB hF hD hK
        have g48 := get_eq (hD 22 48 (by simp [Region.binds]) (by kernel_rfl)) s48
        refine ob_no (wanted_no rfl (by kernel_rfl) g48 rfl) ?_
        exact hK _ _ (Below.refl _ _) (rt_any s49)
      refine obs_cons ?_ ?_
      · intro T w K hB hF hD hK
        have g48 := get_eq (hD 22 48 (by simp [Region.binds]) (by kernel_rfl)) s48
        refine ob_no (wanted_no rfl (by kernel_rfl) g48 rfl) ?_
        exact hK _ _ (Below.refl _ _) (rt_any s50)
      refine obs_cons ?_ ?_
      · intro T w K hB hF hD hK
        have g33 := get_eq (hD 7 33 (by simp [Region.binds]) (by kernel_rfl)) s33
        have g48 := get_eq (hD 22 48 (by simp [Region.binds]) (by kernel_rfl)) s48
        refine ob_yes (wanted_yes rfl (by kernel_rfl) g33) ?_
        clear hF hD
        go_simp
        exact hK _ _ (Below.refl _ _) (rt_eq s51)
      refine obs_cons ?_ ?_
      · intro T w K hB hF hD hK
        have g33 := get_eq (hD 7 33 (by simp [Region.binds]) (by kernel_rfl)) s33
        have g51 := get_eq (hD 25 51 (by simp [Region.binds]) (by kernel_rfl)) s51
        refine ob_yes (wanted_none rfl) ?_
        clear hF hD
        go_simp
        exact hK _ _ (Below.refl _ _) (rt_eq s52)
      exact obs_nil
    · intro T w5 hb5 hF hs hD
      have g7 : T[7]? = some (.bool true) := hF 7 (free_of (by kernel_rfl))
      have g8 : T[8]? = some (.pointer (some ⟨w2.heap.size, 0, none⟩)) := hF 8 (free_of (by kernel_rfl))
      have g9 : T[9]? = some (.bool true) := hF 9 (free_of (by kernel_rfl))
      have g52 := get_eq (hD 26 52 (by kernel_rfl)) s52
      have hsz : T.size = 115 := hs
      clear hF hD hs s26 s27 s28 s29 s30 s31 s32 s33 s34 s35 s36 s37 s38 s39 s40 s41 s42 s43 s44 s45 s46 s47 s48 s49 s50 s51 s52 sp
      replace k11 := cell_call k11 hb5
      replace k12 := cell_call k12 hb5
      replace k13 := cell_call k13 hb5
      replace k14 := cell_call k14 hb5
      replace k15 := cell_call k15 hb5
      replace k16 := cell_call k16 hb5
      replace k17 := cell_call k17 hb5
      replace k18 := cell_call k18 hb5
      replace k19 := cell_call k19 hb5
      replace k20 := cell_call k20 hb5
      replace hB := belT hB hb5
      clear hb5 H1 H2 K HV
      go_upto_region 7 with fail
      refine wp_cond_false (getd g52) ?_
      go_upto_region 7 with fail
      obtain ⟨sp, hsp⟩ : ∃ sp : Told, sp = [none, none, none, none, none, none, some (.inl (.bool true)), none, none, none, none, none, none, none, none, none, none, none, none, none, none, none, none, none, none, none, none, none, none, none, none, none, none, none, none, none, none, none, none, none, none, none, none, none, none, none, none, none, none, none, none, none, none, some (.inl (.bool true)), some (.inl (.bool true)), some (.inl (.pointer (some ⟨w2.heap.size, 2, none⟩))), some (.inl (.agg #[.int .i64 y2, .int .i64 y3])), some (.inl (.pointer (some ⟨w2.heap.size, 0, none⟩))), some (.inl (.agg #[.int .i64 y0, .int .i64 y1])), some (.inl (.pointer (some ⟨w2.heap.size, 4, none⟩))), some (.inl (.agg #[.int .i64 y4, .int .i64 y5])), some (.inl (.pointer (some ⟨w2.heap.size, 6, none⟩))), some (.inl (.agg #[.int .i64 y6, .int .i64 y7])), some (.inl (.bool true)), some (.inl (.bool true)), some (.inl (.bool true)), some (.inl (.bool true)), some (.inl (.bool true)), some (.inl (.pointer (some ⟨w2.heap.size, 0, none⟩))), some (.inl (.agg #[.int .i64 y0, .int .i64 y1])), some (.inl (.pointer (some ⟨w2.heap.size, 2, none⟩))), some (.inl (.agg #[.int .i64 y2, .int .i64 y3])), some (.inl (.pointer (some ⟨w2.heap.size, 6, none⟩))), some (.inl (.agg #[.int .i64 y6, .int .i64 y7])), some (.inl (.pointer (some ⟨w2.heap.size, 4, none⟩))), some (.inl (.agg #[.int .i64 y4, .int .i64 y5])), some (.inl (.bool true)), some (.inl (.bool true)), some (.inl (.bool true)), some (.inl (.bool true)), some (.inl (.bool true)), some (.inl (.pointer (some ⟨w2.heap.size, 4, none⟩))), some (.inl (.agg #[.int .i64 y4, .int .i64 y5])), some (.inl (.pointer (some ⟨w2.heap.size, 6, none⟩))), some (.inl (.agg #[.int .i64 y6, .int .i64 y7])), some (.inl (.pointer (some ⟨w2.heap.size, 0, none⟩))), some (.inl (.agg #[.int .i64 y0, .int .i64 y1])), some (.inl (.pointer (some ⟨w2.heap.size, 2, none⟩))), some (.inl (.agg #[.int .i64 y2, .int .i64 y3])), some (.inl (.bool true)), some (.inl (.bool true)), some (.inl (.bool true)), some (.inl (.bool true)), some (.inl (.bool true)), some (.inl (.pointer (some ⟨w2.heap.size, 0, none⟩))), some (.inl (.agg #[.int .i64 y0, .int .i64 y1])), some (.inl (.pointer (some ⟨w2.heap.size, 2, none⟩))), some (.inl (.agg #[.int .i64 y2, .int .i64 y3])), some (.inl (.pointer (some ⟨w2.heap.size, 0, none⟩))), some (.inl (.agg #[.int .i64 y0, .int .i64 y1])), some (.inl (.pointer (some ⟨w2.heap.size, 6, none⟩))), some (.inl (.agg #[.int .i64 y6, .int .i64 y7])), some (.inl (.bool true)), some (.inl (.bool true)), some (.inl (.bool true)), some (.inl (.pointer (some ⟨w2.heap.size, 0, none⟩))), some (.inl (.agg #[.int .i64 y0, .int .i64 y1])), some (.inl (.pointer (some ⟨w2.heap.size, 2, none⟩))), some (.inl (.agg #[.int .i64 y2, .int .i64 y3])), some (.inl (.pointer (some ⟨w2.heap.size, 0, none⟩))), some (.inl (.agg #[.int .i64 y0, .int .i64 y1])), some (.inl (.pointer (some ⟨w2.heap.size, 2, none⟩))), some (.inl (.agg #[.int .i64 y2, .int .i64 y3])), some (.inl (.bool true)), some (.inl (.bool true))] := ⟨_, rfl⟩
      have s6 : sp.getD 6 none = some (.inl (.bool true)) := by rw [hsp]; rfl
      have s53 : sp.getD 53 none = some (.inl (.bool true)) := by rw [hsp]; rfl
      have s54 : sp.getD 54 none = some (.inl (.bool true)) := by rw [hsp]; rfl
      have s55 : sp.getD 55 none = some (.inl (.pointer (some ⟨w2.heap.size, 2, none⟩))) := by rw [hsp]; rfl
      have s56 : sp.getD 56 none = some (.inl (.agg #[.int .i64 y2, .int .i64 y3])) := by rw [hsp]; rfl
      have s57 : sp.getD 57 none = some (.inl (.pointer (some ⟨w2.heap.size, 0, none⟩))) := by rw [hsp]; rfl
      have s58 : sp.getD 58 none = some (.inl (.agg #[.int .i64 y0, .int .i64 y1])) := by rw [hsp]; rfl
      have s59 : sp.getD 59 none = some (.inl (.pointer (some ⟨w2.heap.size, 4, none⟩))) := by rw [hsp]; rfl
      have s60 : sp.getD 60 none = some (.inl (.agg #[.int .i64 y4, .int .i64 y5])) := by rw [hsp]; rfl
      have s61 : sp.getD 61 none = some (.inl (.pointer (some ⟨w2.heap.size, 6, none⟩))) := by rw [hsp]; rfl
      have s62 : sp.getD 62 none = some (.inl (.agg #[.int .i64 y6, .int .i64 y7])) := by rw [hsp]; rfl
      have s63 : sp.getD 63 none = some (.inl (.bool true)) := by rw [hsp]; rfl
      have s64 : sp.getD 64 none = some (.inl (.bool true)) := by rw [hsp]; rfl
      have s65 : sp.getD 65 none = some (.inl (.bool true)) := by rw [hsp]; rfl
      have s66 : sp.getD 66 none = some (.inl (.bool true)) := by rw [hsp]; rfl
      have s67 : sp.getD 67 none = some (.inl (.bool true)) := by rw [hsp]; rfl
      have s68 : sp.getD 68 none = some (.inl (.pointer (some ⟨w2.heap.size, 0, none⟩))) := by rw [hsp]; rfl
      have s69 : sp.getD 69 none = some (.inl (.agg #[.int .i64 y0, .int .i64 y1])) := by rw [hsp]; rfl
      have s70 : sp.getD 70 none = some (.inl (.pointer (some ⟨w2.heap.size, 2, none⟩))) := by rw [hsp]; rfl
      have s71 : sp.getD 71 none = some (.inl (.agg #[.int .i64 y2, .int .i64 y3])) := by rw [hsp]; rfl
      have s72 : sp.getD 72 none = some (.inl (.pointer (some ⟨w2.heap.size, 6, none⟩))) := by rw [hsp]; rfl
      have s73 : sp.getD 73 none = some (.inl (.agg #[.int .i64 y6, .int .i64 y7])) := by rw [hsp]; rfl
      have s74 : sp.getD 74 none = some (.inl (.pointer (some ⟨w2.heap.size, 4, none⟩))) := by rw [hsp]; rfl
      have s75 : sp.getD 75 none = some (.inl (.agg #[.int .i64 y4, .int .i64 y5])) := by rw [hsp]; rfl
      have s76 : sp.getD 76 none = some (.inl (.bool true)) := by rw [hsp]; rfl
      have s77 : sp.getD 77 none = some (.inl (.bool true)) := by rw [hsp]; rfl
      have s78 : sp.getD 78 none = some (.inl (.bool true)) := by rw [hsp]; rfl
      have s79 : sp.getD 79 none = some (.inl (.bool true)) := by rw [hsp]; rfl
      have s80 : sp.getD 80 none = some (.inl (.bool true)) := by rw [hsp]; rfl
      have s81 : sp.getD 81 none = some (.inl (.pointer (some ⟨w2.heap.size, 4, none⟩))) := by rw [hsp]; rfl
      have s82 : sp.getD 82 none = some (.inl (.agg #[.int .i64 y4, .int .i64 y5])) := by rw [hsp]; rfl
      have s83 : sp.getD 83 none = some (.inl (.pointer (some ⟨w2.heap.size, 6, none⟩))) := by rw [hsp]; rfl
      have s84 : sp.getD 84 none = some (.inl (.agg #[.int .i64 y6, .int .i64 y7])) := by rw [hsp]; rfl
      have s85 : sp.getD 85 none = some (.inl (.pointer (some ⟨w2.heap.size, 0, none⟩))) := by rw [hsp]; rfl
      have s86 : sp.getD 86 none = some (.inl (.agg #[.int .i64 y0, .int .i64 y1])) := by rw [hsp]; rfl
      have s87 : sp.getD 87 none = some (.inl (.pointer (some ⟨w2.heap.size, 2, none⟩))) := by rw [hsp]; rfl
      have s88 : sp.getD 88 none = some (.inl (.agg #[.int .i64 y2, .int .i64 y3])) := by rw [hsp]; rfl
      have s89 : sp.getD 89 none = some (.inl (.bool true)) := by rw [hsp]; rfl
      have s90 : sp.getD 90 none = some (.inl (.bool true)) := by rw [hsp]; rfl
      have s91 : sp.getD 91 none = some (.inl (.bool true)) := by rw [hsp]; rfl
      have s92 : sp.getD 92 none = some (.inl (.bool true)) := by rw [hsp]; rfl
      have s93 : sp.getD 93 none = some (.inl (.bool true)) := by rw [hsp]; rfl
      have s94 : sp.getD 94 none = some (.inl (.pointer (some ⟨w2.heap.size, 0, none⟩))) := by rw [hsp]; rfl
      have s95 : sp.getD 95 none = some (.inl (.agg #[.int .i64 y0, .int .i64 y1])) := by rw [hsp]; rfl
      have s96 : sp.getD 96 none = some (.inl (.pointer (some ⟨w2.heap.size, 2, none⟩))) := by rw [hsp]; rfl
      have s97 : sp.getD 97 none = some (.inl (.agg #[.int .i64 y2, .int .i64 y3])) := by rw [hsp]; rfl
      have s98 : sp.getD 98 none = some (.inl (.pointer (some ⟨w2.heap.size, 0, none⟩))) := by rw [hsp]; rfl
      have s99 : sp.getD 99 none = some (.inl (.agg #[.int .i64 y0, .int .i64 y1])) := by rw [hsp]; rfl
      have s100 : sp.getD 100 none = some (.inl (.pointer (some ⟨w2.heap.size, 6, none⟩))) := by rw [hsp]; rfl
      have s101 : sp.getD 101 none = some (.inl (.agg #[.int .i64 y6, .int .i64 y7])) := by rw [hsp]; rfl
      have s102 : sp.getD 102 none = some (.inl (.bool true)) := by rw [hsp]; rfl
      have s103 : sp.getD 103 none = some (.inl (.bool true)) := by rw [hsp]; rfl
      have s104 : sp.getD 104 none = some (.inl (.bool true)) := by rw [hsp]; rfl
      have s105 : sp.getD 105 none = some (.inl (.pointer (some ⟨w2.heap.size, 0, none⟩))) := by rw [hsp]; rfl
      have s106 : sp.getD 106 none = some (.inl (.agg #[.int .i64 y0, .int .i64 y1])) := by rw [hsp]; rfl
      have s107 : sp.getD 107 none = some (.inl (.pointer (some ⟨w2.heap.size, 2, none⟩))) := by rw [hsp]; rfl
      have s108 : sp.getD 108 none = some (.inl (.agg #[.int .i64 y2, .int .i64 y3])) := by rw [hsp]; rfl
      have s109 : sp.getD 109 none = some (.inl (.pointer (some ⟨w2.heap.size, 0, none⟩))) := by rw [hsp]; rfl
      have s110 : sp.getD 110 none = some (.inl (.agg #[.int .i64 y0, .int .i64 y1])) := by rw [hsp]; rfl
      have s111 : sp.getD 111 none = some (.inl (.pointer (some ⟨w2.heap.size, 2, none⟩))) := by rw [hsp]; rfl
      have s112 : sp.getD 112 none = some (.inl (.agg #[.int .i64 y2, .int .i64 y3])) := by rw [hsp]; rfl
      have s113 : sp.getD 113 none = some (.inl (.bool true)) := by rw [hsp]; rfl
      have s114 : sp.getD 114 none = some (.inl (.bool true)) := by rw [hsp]; rfl
      clear hsp
      refine region_text sp (by rw [hsz]; kernel_rfl) ?_ ?_
      · rw [List.toList_toArray]
        refine obs_cons ?_ ?_
        · intro T w K hB hF hD hK
          have g7 : T[7]? = some (.bool true) := (hF 7 (free_of (by kernel_rfl))).trans g7
          refine ob_yes (wanted_none rfl) ?_
          clear hF hD
          go_simp
          exact hK _ _ (Below.refl _ _) (rt_eq s53)
        refine obs_cons ?_ ?_
        · intro T w K hB hF hD hK
          have g53 := get_eq (hD 0 53 (by simp [Region.binds]) (by kernel_rfl)) s53
          refine ob_yes (wanted_none rfl) ?_
          clear hF hD
          go_simp
          exact hK _ _ (Below.refl _ _) (rt_eq s54)
        refine obs_cons ?_ ?_
        · intro T w K hB hF hD hK
          have g54 := get_eq (hD 1 54 (by simp [Region.binds]) (by kernel_rfl)) s54
          have g8 : T[8]? = some (.pointer (some ⟨w2.heap.size, 0, none⟩)) := (hF 8 (free_of (by kernel_rfl))).trans g8
          refine ob_yes (wanted_yes rfl (by kernel_rfl) g54) ?_
          clear hF hD
          go_simp
          exact hK _ _ (Below.refl _ _) (rt_eq s55)
        refine obs_cons ?_ ?_
        · intro T w K hB hF hD hK
          have g54 := get_eq (hD 1 54 (by simp [Region.binds]) (by kernel_rfl)) s54
          have g55 := get_eq (hD 2 55 (by simp [Region.binds]) (by kernel_rfl)) s55
          refine ob_yes (wanted_yes rfl (by kernel_rfl) g54) ?_
          clear hF hD
          have c0 := cell_call k13 hB
          have c1 := cell_call k14 hB
          go_simp
          exact hK _ _ (Below.refl _ _) (rt_eq s56)
        refine obs_cons ?_ ?_
        · intro T w K hB hF hD hK
          have g54 := get_eq (hD 1 54 (by simp [Region.binds]) (by kernel_rfl)) s54
          have g8 : T[8]? = some (.pointer (some ⟨w2.heap.size, 0, none⟩)) := (hF 8 (free_of (by kernel_rfl))).trans g8
          refine ob_yes (wanted_yes rfl (by kernel_rfl) g54) ?_
          clear hF hD
          go_simp
          exact hK _ _ (Below.refl _ _) (rt_eq s57)
        refine obs_cons ?_ ?_
        · intro T w K hB hF hD hK
          have g54 := get_eq (hD 1 54 (by simp [Region.binds]) (by kernel_rfl)) s54
          have g57 := get_eq (hD 4 57 (by simp [Region.binds]) (by kernel_rfl)) s57
          refine ob_yes (wanted_yes rfl (by kernel_rfl) g54) ?_
          clear hF hD
          have c0 := cell_call k11 hB
          have c1 := cell_call k12 hB
          go_simp
          exact hK _ _ (Below.refl _ _) (rt_eq s58)
        refine obs_cons ?_ ?_
        · intro T w K hB hF hD hK
          have g54 := get_eq (hD 1 54 (by simp [Region.binds]) (by kernel_rfl)) s54
          have g8 : T[8]? = some (.pointer (some ⟨w2.heap.size, 0, none⟩)) := (hF 8 (free_of (by kernel_rfl))).trans g8
          refine ob_yes (wanted_yes rfl (by kernel_rfl) g54) ?_
          clear hF hD
          go_simp
          exact hK _ _ (Below.refl _ _) (rt_eq s59)
        refine obs_cons ?_ ?_
        · intro T w K hB hF hD hK
          have g54 := get_eq (hD 1 54 (by simp [Region.binds]) (by kernel_rfl)) s54
          have g59 := get_eq (hD 6 59 (by simp [Region.binds]) (by kernel_rfl)) s59
          refine ob_yes (wanted_yes rfl (by kernel_rfl) g54) ?_
          clear hF hD
          have c0 := cell_call k15 hB
          have c1 := cell_call k16 hB
          go_simp
          exact hK _ _ (Below.refl _ _) (rt_eq s60)
        refine obs_cons ?_ ?_
        · intro T w K hB hF hD hK
          have g54 := get_eq (hD 1 54 (by simp [Region.binds]) (by kernel_rfl)) s54
          have g8 : T[8]? = some (.pointer (some ⟨w2.heap.size, 0, none⟩)) := (hF 8 (free_of (by kernel_rfl))).trans g8
          refine ob_yes (wanted_yes rfl (by kernel_rfl) g54) ?_
          clear hF hD
          go_simp
          exact hK _ _ (Below.refl _ _) (rt_eq s61)
        refine obs_cons ?_ ?_
        · intro T w K hB hF hD hK
          have g54 := get_eq (hD 1 54 (by simp [Region.binds]) (by kernel_rfl)) s54
          have g61 := get_eq (hD 8 61 (by simp [Region.binds]) (by kernel_rfl)) s61
          refine ob_yes (wanted_yes rfl (by kernel_rfl) g54) ?_
          clear hF hD
          have c0 := cell_call k17 hB
          have c1 := cell_call k18 hB
          go_simp
          exact hK _ _ (Below.refl _ _) (rt_eq s62)
        refine obs_cons ?_ ?_
        · intro T w K hB hF hD hK
          have g54 := get_eq (hD 1 54 (by simp [Region.binds]) (by kernel_rfl)) s54
          have g56 := get_eq (hD 3 56 (by simp [Region.binds]) (by kernel_rfl)) s56
          have g58 := get_eq (hD 5 58 (by simp [Region.binds]) (by kernel_rfl)) s58
          have g60 := get_eq (hD 7 60 (by simp [Region.binds]) (by kernel_rfl)) s60
          have g62 := get_eq (hD 9 62 (by simp [Region.binds]) (by kernel_rfl)) s62
          refine ob_yes (wanted_yes rfl (by kernel_rfl) g54) ?_
          clear hF hD
          go_simp
          refine (cross_is y2 y3 y0 y1 y4 y5 y6 y7 true _ by2.inr by3.inr by0.inr by1.inr by4.inr by5.inr by6.inr by7.inr S1).mono ?_; rintro e w9 ⟨rfl, hb⟩
          exact hK _ _ hb (rt_eq s63)
        refine obs_cons ?_ ?_
        · intro T w K hB hF hD hK
          have g54 := get_eq (hD 1 54 (by simp [Region.binds]) (by kernel_rfl)) s54
          have g9 : T[9]? = some (.bool true) := (hF 9 (free_of (by kernel_rfl))).trans g9
          refine ob_yes (wanted_yes rfl (by kernel_rfl) g54) ?_
          clear hF hD
          go_simp
          exact hK _ _ (Below.refl _ _) (rt_eq s64)
        refine obs_cons ?_ ?_
        · intro T w K hB hF hD hK
          have g54 := get_eq (hD 1 54 (by simp [Region.binds]) (by kernel_rfl)) s54
          have g63 := get_eq (hD 10 63 (by simp [Region.binds]) (by kernel_rfl)) s63
          have g64 := get_eq (hD 11 64 (by simp [Region.binds]) (by kernel_rfl)) s64
          refine ob_yes (wanted_yes rfl (by kernel_rfl) g54) ?_
          clear hF hD
          go_simp
          exact hK _ _ (Below.refl _ _) (rt_eq s65)
        refine obs_cons ?_ ?_
        · intro T w K hB hF hD hK
          have g54 := get_eq (hD 1 54 (by simp [Region.binds]) (by kernel_rfl)) s54
          have g65 := get_eq (hD 12 65 (by simp [Region.binds]) (by kernel_rfl)) s65
          refine ob_yes (wanted_none rfl) ?_
          clear hF hD
          go_simp
          exact hK _ _ (Below.refl _ _) (rt_eq s66)
        refine obs_cons ?_ ?_
        · intro T w K hB hF hD hK
          have g66 := get_eq (hD 13 66 (by simp [Region.binds]) (by kernel_rfl)) s66
          refine ob_yes (wanted_none rfl) ?_
          clear hF hD
          go_simp
          exact hK _ _ (Below.refl _ _) (rt_eq s67)
        refine obs_cons ?_ ?_
        · intro T w K hB hF hD hK
          have g67 := get_eq (hD 14 67 (by simp [Region.binds]) (by kernel_rfl)) s67
          have g8 : T[8]? = some (.pointer (some ⟨w2.heap.size, 0, none⟩)) := (hF 8 (free_of (by kernel_rfl))).trans g8
          refine ob_yes (wanted_yes rfl (by kernel_rfl) g67) ?_
          clear hF hD
          go_simp
          exact hK _ _ (Below.refl _ _) (rt_eq s68)
        refine obs_cons ?_ ?_
        · intro T w K hB hF hD hK
          have g67 := get_eq (hD 14 67 (by simp [Region.binds]) (by kernel_rfl)) s67
          have g68 := get_eq (hD 15 68 (by simp [Region.binds]) (by kernel_rfl)) s68
          refine ob_yes (wanted_yes rfl (by kernel_rfl) g67) ?_
          clear hF hD
          have c0 := cell_call k11 hB
          have c1 := cell_call k12 hB
          go_simp
          exact hK _ _ (Below.refl _ _) (rt_eq s69)
        refine obs_cons ?_ ?_
        · intro T w K hB hF hD hK
          have g67 := get_eq (hD 14 67 (by simp [Region.binds]) (by kernel_rfl)) s67
          have g8 : T[8]? = some (.pointer (some ⟨w2.heap.size, 0, none⟩)) := (hF 8 (free_of (by kernel_rfl))).trans g8
          refine ob_yes (wanted_yes rfl (by kernel_rfl) g67) ?_
          clear hF hD
          go_simp
          exact hK _ _ (Below.refl _ _) (rt_eq s70)
        refine obs_cons ?_ ?_
        · intro T w K hB hF hD hK
          have g67 := get_eq (hD 14 67 (by simp [Region.binds]) (by kernel_rfl)) s67
          have g70 := get_eq (hD 17 70 (by simp [Region.binds]) (by kernel_rfl)) s70
          refine ob_yes (wanted_yes rfl (by kernel_rfl) g67) ?_
          clear hF hD
          have c0 := cell_call k13 hB
          have c1 := cell_call k14 hB
          go_simp
          exact hK _ _ (Below.refl _ _) (rt_eq s71)
        refine obs_cons ?_ ?_
        · intro T w K hB hF hD hK
          have g67 := get_eq (hD 14 67 (by simp [Region.binds]) (by kernel_rfl)) s67
          have g8 : T[8]? = some (.pointer (some ⟨w2.heap.size, 0, none⟩)) := (hF 8 (free_of (by kernel_rfl))).trans g8
          refine ob_yes (wanted_yes rfl (by kernel_rfl) g67) ?_
          clear hF hD
          go_simp
          exact hK _ _ (Below.refl _ _) (rt_eq s72)
        refine obs_cons ?_ ?_
        · intro T w K hB hF hD hK
          have g67 := get_eq (hD 14 67 (by simp [Region.binds]) (by kernel_rfl)) s67
          have g72 := get_eq (hD 19 72 (by simp [Region.binds]) (by kernel_rfl)) s72
          refine ob_yes (wanted_yes rfl (by kernel_rfl) g67) ?_
          clear hF hD
          have c0 := cell_call k17 hB
          have c1 := cell_call k18 hB
          go_simp
          exact hK _ _ (Below.refl _ _) (rt_eq s73)
        refine obs_cons ?_ ?_
        · intro T w K hB hF hD hK
          have g67 := get_eq (hD 14 67 (by simp [Region.binds]) (by kernel_rfl)) s67
          have g8 : T[8]? = some (.pointer (some ⟨w2.heap.size, 0, none⟩)) := (hF 8 (free_of (by kernel_rfl))).trans g8
          refine ob_yes (wanted_yes rfl (by kernel_rfl) g67) ?_
          clear hF hD
          go_simp
          exact hK _ _ (Below.refl _ _) (rt_eq s74)
        refine obs_cons ?_ ?_
        · intro T w K hB hF hD hK
          have g67 := get_eq (hD 14 67 (by simp [Region.binds]) (by kernel_rfl)) s67
          have g74 := get_eq (hD 21 74 (by simp [Region.binds]) (by kernel_rfl)) s74
          refine ob_yes (wanted_yes rfl (by kernel_rfl) g67) ?_
          clear hF hD
          have c0 := cell_call k15 hB
          have c1 := cell_call k16 hB
          go_simp
          exact hK _ _ (Below.refl _ _) (rt_eq s75)
        refine obs_cons ?_ ?_
        · intro T w K hB hF hD hK
          have g67 := get_eq (hD 14 67 (by simp [Region.binds]) (by kernel_rfl)) s67
          have g69 := get_eq (hD 16 69 (by simp [Region.binds]) (by kernel_rfl)) s69
          have g71 := get_eq (hD 18 71 (by simp [Region.binds]) (by kernel_rfl)) s71
          have g73 := get_eq (hD 20 73 (by simp [Region.binds]) (by kernel_rfl)) s73
          have g75 := get_eq (hD 22 75 (by simp [Region.binds]) (by kernel_rfl)) s75
          refine ob_yes (wanted_yes rfl (by kernel_rfl) g67) ?_
          clear hF hD
          go_simp
          refine (cross_is y0 y1 y2 y3 y6 y7 y4 y5 true _ by0.inr by1.inr by2.inr by3.inr by6.inr by7.inr by4.inr by5.inr S2).mono ?_; rintro e w9 ⟨rfl, hb⟩
          exact hK _ _ hb (rt_eq s76)
        refine obs_cons ?_ ?_
        · intro T w K hB hF hD hK
          have g67 := get_eq (hD 14 67 (by simp [Region.binds]) (by kernel_rfl)) s67
          have g9 : T[9]? = some (.bool true) := (hF 9 (free_of (by kernel_rfl))).trans g9
          refine ob_yes (wanted_yes rfl (by kernel_rfl) g67) ?_
          clear hF hD
          go_simp
          exact hK _ _ (Below.refl _ _) (rt_eq s77)
        refine obs_cons ?_ ?_
        · intro T w K hB hF hD hK
          have g67 := get_eq (hD 14 67 (by simp [Region.binds]) (by kernel_rfl)) s67
          have g76 := get_eq (hD 23 76 (by simp [Region.binds]) (by kernel_rfl)) s76
          have g77 := get_eq (hD 24 77 (by simp [Region.binds]) (by kernel_rfl)) s77
          refine ob_yes (wanted_yes rfl (by kernel_rfl) g67) ?_
          clear hF hD
          go_simp
          exact hK _ _ (Below.refl _ _) (rt_eq s78)
        refine obs_cons ?_ ?_
        · intro T w K hB hF hD hK
          have g67 := get_eq (hD 14 67 (by simp [Region.binds]) (by kernel_rfl)) s67
          have g78 := get_eq (hD 25 78 (by simp [Region.binds]) (by kernel_rfl)) s78
          refine ob_yes (wanted_none rfl) ?_
          clear hF hD
          go_simp
          exact hK _ _ (Below.refl _ _) (rt_eq s79)
        refine obs_cons ?_ ?_
        · intro T w K hB hF hD hK
          have g79 := get_eq (hD 26 79 (by simp [Region.binds]) (by kernel_rfl)) s79
          refine ob_yes (wanted_none rfl) ?_
          clear hF hD
          go_simp
          exact hK _ _ (Below.refl _ _) (rt_eq s80)
        refine obs_cons ?_ ?_
        · intro T w K hB hF hD hK
          have g80 := get_eq (hD 27 80 (by simp [Region.binds]) (by kernel_rfl)) s80
          have g8 : T[8]? = some (.pointer (some ⟨w2.heap.size, 0, none⟩)) := (hF 8 (free_of (by kernel_rfl))).trans g8
          refine ob_yes (wanted_yes rfl (by kernel_rfl) g80) ?_
          clear hF hD
          go_simp
          exact hK _ _ (Below.refl _ _) (rt_eq s81)
        refine obs_cons ?_ ?_
        · intro T w K hB hF hD hK
          have g80 := get_eq (hD 27 80 (by simp [Region.binds]) (by kernel_rfl)) s80
          have g81 := get_eq (hD 28 81 (by simp [Region.binds]) (by kernel_rfl)) s81
          refine ob_yes (wanted_yes rfl (by kernel_rfl) g80) ?_
          clear hF hD
          have c0 := cell_call k15 hB
          have c1 := cell_call k16 hB
          go_simp
          exact hK _ _ (Below.refl _ _) (rt_eq s82)
        refine obs_cons ?_ ?_
        · intro T w K hB hF hD hK
          have g80 := get_eq (hD 27 80 (by simp [Region.binds]) (by kernel_rfl)) s80
          have g8 : T[8]? = some (.pointer (some ⟨w2.heap.size, 0, none⟩)) := (hF 8 (free_of (by kernel_rfl))).trans g8
          refine ob_yes (wanted_yes rfl (by kernel_rfl) g80) ?_
          clear hF hD
          go_simp
          exact hK _ _ (Below.refl _ _) (rt_eq s83)
        refine obs_cons ?_ ?_
        · intro T w K hB hF hD hK
          have g80 := get_eq (hD 27 80 (by simp [Region.binds]) (by kernel_rfl)) s80
          have g83 := get_eq (hD 30 83 (by simp [Region.binds]) (by kernel_rfl)) s83
          refine ob_yes (wanted_yes rfl (by kernel_rfl) g80) ?_
          clear hF hD
          have c0 := cell_call k17 hB
          have c1 := cell_call k18 hB
          go_simp
          exact hK _ _ (Below.refl _ _) (rt_eq s84)
        refine obs_cons ?_ ?_
        · intro T w K hB hF hD hK
          have g80 := get_eq (hD 27 80 (by simp [Region.binds]) (by kernel_rfl)) s80
          have g8 : T[8]? = some (.pointer (some ⟨w2.heap.size, 0, none⟩)) := (hF 8 (free_of (by kernel_rfl))).trans g8
          refine ob_yes (wanted_yes rfl (by kernel_rfl) g80) ?_
          clear hF hD
          go_simp
          exact hK _ _ (Below.refl _ _) (rt_eq s85)
        refine obs_cons ?_ ?_
        · intro T w K hB hF hD hK
          have g80 := get_eq (hD 27 80 (by simp [Region.binds]) (by kernel_rfl)) s80
          have g85 := get_eq (hD 32 85 (by simp [Region.binds]) (by kernel_rfl)) s85
          refine ob_yes (wanted_yes rfl (by kernel_rfl) g80) ?_
          clear hF hD
          have c0 := cell_call k11 hB
          have c1 := cell_call k12 hB
          go_simp
          exact hK _ _ (Below.refl _ _) (rt_eq s86)
        refine obs_cons ?_ ?_
        · intro T w K hB hF hD hK
          have g80 := get_eq (hD 27 80 (by simp [Region.binds]) (by kernel_rfl)) s80
          have g8 : T[8]? = some (.pointer (some ⟨w2.heap.size, 0, none⟩)) := (hF 8 (free_of (by kernel_rfl))).trans g8
          refine ob_yes (wanted_yes rfl (by kernel_rfl) g80) ?_
          clear hF hD
          go_simp
          exact hK _ _ (Below.refl _ _) (rt_eq s87)
        refine obs_cons ?_ ?_
        · intro T w K hB hF hD hK
          have g80 := get_eq (hD 27 80 (by simp [Region.binds]) (by kernel_rfl)) s80
          have g87 := get_eq (hD 34 87 (by simp [Region.binds]) (by kernel_rfl)) s87
          refine ob_yes (wanted_yes rfl (by kernel_rfl) g80) ?_
          clear hF hD
          have c0 := cell_call k13 hB
          have c1 := cell_call k14 hB
          go_simp
          exact hK _ _ (Below.refl _ _) (rt_eq s88)
        refine obs_cons ?_ ?_
        · intro T w K hB hF hD hK
          have g80 := get_eq (hD 27 80 (by simp [Region.binds]) (by kernel_rfl)) s80
          have g82 := get_eq (hD 29 82 (by simp [Region.binds]) (by kernel_rfl)) s82
          have g84 := get_eq (hD 31 84 (by simp [Region.binds]) (by kernel_rfl)) s84
          have g86 := get_eq (hD 33 86 (by simp [Region.binds]) (by kernel_rfl)) s86
          have g88 := get_eq (hD 35 88 (by simp [Region.binds]) (by kernel_rfl)) s88
          refine ob_yes (wanted_yes rfl (by kernel_rfl) g80) ?_
          clear hF hD
          go_simp
          refine (cross_is y4 y5 y6 y7 y0 y1 y2 y3 true _ by4.inr by5.inr by6.inr by7.inr by0.inr by1.inr by2.inr by3.inr S3).mono ?_; rintro e w9 ⟨rfl, hb⟩
          exact hK _ _ hb (rt_eq s89)
        refine obs_cons ?_ ?_
        · intro T w K hB hF hD hK
          have g80 := get_eq (hD 27 80 (by simp [Region.binds]) (by kernel_rfl)) s80
          have g9 : T[9]? = some (.bool true) := (hF 9 (free_of (by kernel_rfl))).trans g9
          refine ob_yes (wanted_yes rfl (by kernel_rfl) g80) ?_
          clear hF hD
          go_simp
          exact hK _ _ (Below.refl _ _) (rt_eq s90)
        refine obs_cons ?_ ?_
        · intro T w K hB hF hD hK
          have g80 := get_eq (hD 27 80 (by simp [Region.binds]) (by kernel_rfl)) s80
          have g89 := get_eq (hD 36 89 (by simp [Region.binds]) (by kernel_rfl)) s89
          have g90 := get_eq (hD 37 90 (by simp [Region.binds]) (by kernel_rfl)) s90
          refine ob_yes (wanted_yes rfl (by kernel_rfl) g80) ?_
          clear hF hD
          go_simp
          exact hK _ _ (Below.refl _ _) (rt_eq s91)
        refine obs_cons ?_ ?_
        · intro T w K hB hF hD hK
          have g80 := get_eq (hD 27 80 (by simp [Region.binds]) (by kernel_rfl)) s80
          have g91 := get_eq (hD 38 91 (by simp [Region.binds]) (by kernel_rfl)) s91
          refine ob_yes (wanted_none rfl) ?_
          clear hF hD
          go_simp
          exact hK _ _ (Below.refl _ _) (rt_eq s92)
        refine obs_cons ?_ ?_
        · intro T w K hB hF hD hK
          have g92 := get_eq (hD 39 92 (by simp [Region.binds]) (by kernel_rfl)) s92
          refine ob_yes (wanted_none rfl) ?_
          clear hF hD
          go_simp
          exact hK _ _ (Below.refl _ _) (rt_eq s93)
        refine obs_cons ?_ ?_
        · intro T w K hB hF hD hK
          have g93 := get_eq (hD 40 93 (by simp [Region.binds]) (by kernel_rfl)) s93
          have g8 : T[8]? = some (.pointer (some ⟨w2.heap.size, 0, none⟩)) := (hF 8 (free_of (by kernel_rfl))).trans g8
          refine ob_yes (wanted_yes rfl (by kernel_rfl) g93) ?_
          clear hF hD
          go_simp
          exact hK _ _ (Below.refl _ _) (rt_eq s94)
        refine obs_cons ?_ ?_
        · intro T w K hB hF hD hK
          have g93 := get_eq (hD 40 93 (by simp [Region.binds]) (by kernel_rfl)) s93
          have g94 := get_eq (hD 41 94 (by simp [Region.binds]) (by kernel_rfl)) s94
          refine ob_yes (wanted_yes rfl (by kernel_rfl) g93) ?_
          clear hF hD
          have c0 := cell_call k11 hB
          have c1 := cell_call k12 hB
          go_simp
          exact hK _ _ (Below.refl _ _) (rt_eq s95)
        refine obs_cons ?_ ?_
        · intro T w K hB hF hD hK
          have g93 := get_eq (hD 40 93 (by simp [Region.binds]) (by kernel_rfl)) s93
          have g8 : T[8]? = some (.pointer (some ⟨w2.heap.size, 0, none⟩)) := (hF 8 (free_of (by kernel_rfl))).trans g8
          refine ob_yes (wanted_yes rfl (by kernel_rfl) g93) ?_
          clear hF hD
          go_simp
          exact hK _ _ (Below.refl _ _) (rt_eq s96)
        refine obs_cons ?_ ?_
        · intro T w K hB hF hD hK
          have g93 := get_eq (hD 40 93 (by simp [Region.binds]) (by kernel_rfl)) s93
          have g96 := get_eq (hD 43 96 (by simp [Region.binds]) (by kernel_rfl)) s96
          refine ob_yes (wanted_yes rfl (by kernel_rfl) g93) ?_
          clear hF hD
          have c0 := cell_call k13 hB
          have c1 := cell_call k14 hB
          go_simp
          exact hK _ _ (Below.refl _ _) (rt_eq s97)
        refine obs_cons ?_ ?_
        · intro T w K hB hF hD hK
          have g93 := get_eq (hD 40 93 (by simp [Region.binds]) (by kernel_rfl)) s93
          have g8 : T[8]? = some (.pointer (some ⟨w2.heap.size, 0, none⟩)) := (hF 8 (free_of (by kernel_rfl))).trans g8
          refine ob_yes (wanted_yes rfl (by kernel_rfl) g93) ?_
          clear hF hD
          go_simp
          exact hK _ _ (Below.refl _ _) (rt_eq s98)
        refine obs_cons ?_ ?_
        · intro T w K hB hF hD hK
          have g93 := get_eq (hD 40 93 (by simp [Region.binds]) (by kernel_rfl)) s93
          have g98 := get_eq (hD 45 98 (by simp [Region.binds]) (by kernel_rfl)) s98
          refine ob_yes (wanted_yes rfl (by kernel_rfl) g93) ?_
          clear hF hD
          have c0 := cell_call k11 hB
          have c1 := cell_call k12 hB
          go_simp
          exact hK _ _ (Below.refl _ _) (rt_eq s99)
        refine obs_cons ?_ ?_
        · intro T w K hB hF hD hK
          have g93 := get_eq (hD 40 93 (by simp [Region.binds]) (by kernel_rfl)) s93
          have g8 : T[8]? = some (.pointer (some ⟨w2.heap.size, 0, none⟩)) := (hF 8 (free_of (by kernel_rfl))).trans g8
          refine ob_yes (wanted_yes rfl (by kernel_rfl) g93) ?_
          clear hF hD
          go_simp
          exact hK _ _ (Below.refl _ _) (rt_eq s100)
        refine obs_cons ?_ ?_
        · intro T w K hB hF hD hK
          have g93 := get_eq (hD 40 93 (by simp [Region.binds]) (by kernel_rfl)) s93
          have g100 := get_eq (hD 47 100 (by simp [Region.binds]) (by kernel_rfl)) s100
          refine ob_yes (wanted_yes rfl (by kernel_rfl) g93) ?_
          clear hF hD
          have c0 := cell_call k17 hB
          have c1 := cell_call k18 hB
          go_simp
          exact hK _ _ (Below.refl _ _) (rt_eq s101)
        refine obs_cons ?_ ?_
        · intro T w K hB hF hD hK
          have g93 := get_eq (hD 40 93 (by simp [Region.binds]) (by kernel_rfl)) s93
          have g95 := get_eq (hD 42 95 (by simp [Region.binds]) (by kernel_rfl)) s95
          have g97 := get_eq (hD 44 97 (by simp [Region.binds]) (by kernel_rfl)) s97
          have g99 := get_eq (hD 46 99 (by simp [Region.binds]) (by kernel_rfl)) s99
          have g101 := get_eq (hD 48 101 (by simp [Region.binds]) (by kernel_rfl)) s101
          refine ob_yes (wanted_yes rfl (by kernel_rfl) g93) ?_
          clear hF hD
          go_simp
          refine (cross_is y0 y1 y2 y3 y0 y1 y6 y7 true _ by0.inr by1.inr by2.inr by3.inr by0.inr by1.inr by6.inr by7.inr S4).mono ?_; rintro e w9 ⟨rfl, hb⟩
          exact hK _ _ hb (rt_eq s102)
        refine obs_cons ?_ ?_
        · intro T w K hB hF hD hK
          have g93 := get_eq (hD 40 93 (by simp [Region.binds]) (by kernel_rfl)) s93
          have g102 := get_eq (hD 49 102 (by simp [Region.binds]) (by kernel_rfl)) s102
          refine ob_yes (wanted_none rfl) ?_
          clear hF hD
          go_simp
          exact hK _ _ (Below.refl _ _) (rt_eq s103)
        refine obs_cons ?_ ?_
        · intro T w K hB hF hD hK
          have g103 := get_eq (hD 50 103 (by simp [Region.binds]) (by kernel_rfl)) s103
          refine ob_yes (wanted_none rfl) ?_
          clear hF hD
          go_simp
          exact hK _ _ (Below.refl _ _) (rt_eq s104)
        refine obs_cons ?_ ?_
        · intro T w K hB hF hD hK
          have g104 := get_eq (hD 51 104 (by simp [Region.binds]) (by kernel_rfl)) s104
          have g8 : T[8]? = some (.pointer (some ⟨w2.heap.size, 0, none⟩)) := (hF 8 (free_of (by kernel_rfl))).trans g8
          refine ob_yes (wanted_yes rfl (by kernel_rfl) g104) ?_
          clear hF hD
          go_simp
          exact hK _ _ (Below.refl _ _) (rt_eq s105)
        refine obs_cons ?_ ?_
        · intro T w K hB hF hD hK
          have g104 := get_eq (hD 51 104 (by simp [Region.binds]) (by kernel_rfl)) s104
          have g105 := get_eq (hD 52 105 (by simp [Region.binds]) (by kernel_rfl)) s105
          refine ob_yes (wanted_yes rfl (by kernel_rfl) g104) ?_
          clear hF hD
          have c0 := cell_call k11 hB
          have c1 := cell_call k12 hB
          go_simp
          exact hK _ _ (Below.refl _ _) (rt_eq s106)
        refine obs_cons ?_ ?_
        · intro T w K hB hF hD hK
          have g104 := get_eq (hD 51 104 (by simp [Region.binds]) (by kernel_rfl)) s104
          have g8 : T[8]? = some (.pointer (some ⟨w2.heap.size, 0, none⟩)) := (hF 8 (free_of (by kernel_rfl))).trans g8
          refine ob_yes (wanted_yes rfl (by kernel_rfl) g104) ?_
          clear hF hD
          go_simp
          exact hK _ _ (Below.refl _ _) (rt_eq s107)
        refine obs_cons ?_ ?_
        · intro T w K hB hF hD hK
          have g104 := get_eq (hD 51 104 (by simp [Region.binds]) (by kernel_rfl)) s104
          have g107 := get_eq (hD 54 107 (by simp [Region.binds]) (by kernel_rfl)) s107
          refine ob_yes (wanted_yes rfl (by kernel_rfl) g104) ?_
          clear hF hD
          have c0 := cell_call k13 hB
          have c1 := cell_call k14 hB
          go_simp
          exact hK _ _ (Below.refl _ _) (rt_eq s108)
        refine obs_cons ?_ ?_
        · intro T w K hB hF hD hK
          have g104 := get_eq (hD 51 104 (by simp [Region.binds]) (by kernel_rfl)) s104
          have g8 : T[8]? = some (.pointer (some ⟨w2.heap.size, 0, none⟩)) := (hF 8 (free_of (by kernel_rfl))).trans g8
          refine ob_yes (wanted_yes rfl (by kernel_rfl) g104) ?_
          clear hF hD
          go_simp
          exact hK _ _ (Below.refl _ _) (rt_eq s109)
        refine obs_cons ?_ ?_
        · intro T w K hB hF hD hK
          have g104 := get_eq (hD 51 104 (by simp [Region.binds]) (by kernel_rfl)) s104
          have g109 := get_eq (hD 56 109 (by simp [Region.binds]) (by kernel_rfl)) s109
          refine ob_yes (wanted_yes rfl (by kernel_rfl) g104) ?_
          clear hF hD
          have c0 := cell_call k11 hB
          have c1 := cell_call k12 hB
          go_simp
          exact hK _ _ (Below.refl _ _) (rt_eq s110)
        refine obs_cons ?_ ?_
        · intro T w K hB hF hD hK
          have g104 := get_eq (hD 51 104 (by simp [Region.binds]) (by kernel_rfl)) s104
          have g8 : T[8]? = some (.pointer (some ⟨w2.heap.size, 0, none⟩)) := (hF 8 (free_of (by kernel_rfl))).trans g8
          refine ob_yes (wanted_yes rfl (by kernel_rfl) g104) ?_
          clear hF hD
          go_simp
          exact hK _ _ (Below.refl _ _) (rt_eq s111)
        refine obs_cons ?_ ?_
        · intro T w K hB hF hD hK
          have g104 := get_eq (hD 51 104 (by simp [Region.binds]) (by kernel_rfl)) s104
          have g111 := get_eq (hD 58 111 (by simp [Region.binds]) (by kernel_rfl)) s111
          refine ob_yes (wanted_yes rfl (by kernel_rfl) g104) ?_
          clear hF hD
          have c0 := cell_call k13 hB
          have c1 := cell_call k14 hB
          go_simp
          exact hK _ _ (Below.refl _ _) (rt_eq s112)
        refine obs_cons ?_ ?_
        · intro T w K hB hF hD hK
          have g104 := get_eq (hD 51 104 (by simp [Region.binds]) (by kernel_rfl)) s104
          have g106 := get_eq (hD 53 106 (by simp [Region.binds]) (by kernel_rfl)) s106
          have g108 := get_eq (hD 55 108 (by simp [Region.binds]) (by kernel_rfl)) s108
          have g110 := get_eq (hD 57 110 (by simp [Region.binds]) (by kernel_rfl)) s110
          have g112 := get_eq (hD 59 112 (by simp [Region.binds]) (by kernel_rfl)) s112
          refine ob_yes (wanted_yes rfl (by kernel_rfl) g104) ?_
          clear hF hD
          go_simp
          refine (cross_is y0 y1 y2 y3 y0 y1 y2 y3 true _ by0.inr by1.inr by2.inr by3.inr by0.inr by1.inr by2.inr by3.inr S5).mono ?_; rintro e w9 ⟨rfl, hb⟩
          exact hK _ _ hb (rt_eq s113)
        refine obs_cons ?_ ?_
        · intro T w K hB hF hD hK
          have g104 := get_eq (hD 51 104 (by simp [Region.binds]) (by kernel_rfl)) s104
          have g113 := get_eq (hD 60 113 (by simp [Region.binds]) (by kernel_rfl)) s113
          refine ob_yes (wanted_none rfl) ?_
          clear hF hD
          go_simp
          exact hK _ _ (Below.refl _ _) (rt_eq s114)
        refine obs_cons ?_ ?_
        · intro T w K hB hF hD hK
          have g114 := get_eq (hD 61 114 (by simp [Region.binds]) (by kernel_rfl)) s114
          refine ob_yes (wanted_none rfl) ?_
          clear hF hD
          go_simp
          exact hK _ _ (Below.refl _ _) (rt_eq s6)
        exact obs_nil
      · intro T2 w6 hb hF hs hD
        have g6 := get_eq (hD 62 6 (by kernel_rfl)) s6
        have fin := Lib.hid (hB.trans (hb.mono hB.size))
        clear hF hD hs hb
        go_wp2_with fail
        refine bodyPost_ret (v := .bool true) (by simp [results, Try.results7, go_sem, g6]) rfl ?_
        exact ⟨rfl, fin.out⟩
  · cases e2
    · obtain ⟨sp, hsp⟩ : ∃ sp : Told, sp = [none, none, none, none, none, none, none, none, none, none, none, none, none, none, none, none, none, none, none, none, none, none, none, none, none, none, some (.inl (.bool true)), some (.inl (.bool true)), some (.inl (.slice (some ⟨w2.heap.size, 0, none⟩) 2 4)), some (.inl (.slice (some ⟨w2.heap.size, 4, none⟩) 2 2)), some (.inl (.int .i64 0)), some (.inl (.bool false)), some (.inl (.bool false)), some (.inl (.bool false)), some (.inl (.pointer (some ⟨w2.heap.size, 0, none⟩))), some (.inl (.agg #[.int .i64 y0, .int .i64 y1])), some (.inl (.pointer (some ⟨w2.heap.size, 2, none⟩))), some (.inl (.agg #[.int .i64 y2, .int .i64 y3])), some (.inl (.agg #[.int .i64 r0, .int .i64 r1])), some (.inl (.bool true)), some (.inl (.bool true)), some (.inl (.pointer (some ⟨w2.heap.size, 4, none⟩))), some (.inl (.agg #[.int .i64 y4, .int .i64 y5])), some (.inl (.pointer (some ⟨w2.heap.size, 6, none⟩))), some (.inl (.agg #[.int .i64 y6, .int .i64 y7])), some (.inl (.agg #[.int .i64 r0, .int .i64 r1])), some (.inl (.bool false)), some (.inl (.bool false)), some (.inl (.bool false)), none, none, some (.inl (.bool false)), some (.inl (.bool false))] := ⟨_, rfl⟩
      have s26 : sp.getD 26 none = some (.inl (.bool true)) := by rw [hsp]; rfl
      have s27 : sp.getD 27 none = some (.inl (.bool true)) := by rw [hsp]; rfl
      have s28 : sp.getD 28 none = some (.inl (.slice (some ⟨w2.heap.size, 0, none⟩) 2 4)) := by rw [hsp]; rfl
      have s29 : sp.getD 29 none = some (.inl (.slice (some ⟨w2.heap.size, 4, none⟩) 2 2)) := by rw [hsp]; rfl
      have s30 : sp.getD 30 none = some (.inl (.int .i64 0)) := by rw [hsp]; rfl
      have s31 : sp.getD 31 none = some (.inl (.bool false)) := by rw [hsp]; rfl
      have s32 : sp.getD 32 none = some (.inl (.bool false)) := by rw [hsp]; rfl
      have s33 : sp.getD 33 none = some (.inl (.bool false)) := by rw [hsp]; rfl
      have s34 : sp.getD 34 none = some (.inl (.pointer (some ⟨w2.heap.size, 0, none⟩))) := by rw [hsp]; rfl
      have s35 : sp.getD 35 none = some (.inl (.agg #[.int .i64 y0, .int .i64 y1])) := by rw [hsp]; rfl
      have s36 : sp.getD 36 none = some (.inl (.pointer (some ⟨w2.heap.size, 2, none⟩))) := by rw [hsp]; rfl
      have s37 : sp.getD 37 none = some (.inl (.agg #[.int .i64 y2, .int .i64 y3])) := by rw [hsp]; rfl
      have s38 : sp.getD 38 none = some (.inl (.agg #[.int .i64 r0, .int .i64 r1])) := by rw [hsp]; rfl
      have s39 : sp.getD 39 none = some (.inl (.bool true)) := by rw [hsp]; rfl
      have s40 : sp.getD 40 none = some (.inl (.bool true)) := by rw [hsp]; rfl
      have s41 : sp.getD 41 none = some (.inl (.pointer (some ⟨w2.heap.size, 4, none⟩))) := by rw [hsp]; rfl
      have s42 : sp.getD 42 none = some (.inl (.agg #[.int .i64 y4, .int .i64 y5])) := by rw [hsp]; rfl
      have s43 : sp.getD 43 none = some (.inl (.pointer (some ⟨w2.heap.size, 6, none⟩))) := by rw [hsp]; rfl
      have s44 : sp.getD 44 none = some (.inl (.agg #[.int .i64 y6, .int .i64 y7])) := by rw [hsp]; rfl
      have s45 : sp.getD 45 none = some (.inl (.agg #[.int .i64 r0, .int .i64 r1])) := by rw [hsp]; rfl
      have s46 : sp.getD 46 none = some (.inl (.bool false)) := by rw [hsp]; rfl
      have s47 : sp.getD 47 none = some (.inl (.bool false)) := by rw [hsp]; rfl
      have s48 : sp.getD 48 none = some (.inl (.bool false)) := by rw [hsp]; rfl
      have s49 : sp.getD 49 none = none := by rw [hsp]; rfl
      have s50 : sp.getD 50 none = none := by rw [hsp]; rfl
      have s51 : sp.getD 51 none = some (.inl (.bool false)) := by rw [hsp]; rfl
      have s52 : sp.getD 52 none = some (.inl (.bool false)) := by rw [hsp]; rfl
      clear hsp
      refine region_obs sp (by kernel_rfl) (by kernel_rfl) ?_ ?_
      · rw [List.toList_toArray]
        refine obs_cons ?_ ?_
        · intro T w K hB hF hD hK
          have g9 : T[9]? = some (.bool true) := hF 9 (free_of (by kernel_rfl))
          refine ob_yes (wanted_none rfl) ?_
          clear hF hD
          go_simp
          exact hK _ _ (Below.refl _ _) (rt_eq s26)
        refine obs_cons ?_ ?_
        · intro T w K hB hF hD hK
          have g26 := get_eq (hD 0 26 (by simp [Region.binds]) (by kernel_rfl)) s26
          refine ob_yes (wanted_none rfl) ?_
          clear hF hD
          go_simp
          exact hK _ _ (Below.refl _ _) (rt_eq s27)
        refine obs_cons ?_ ?_
        · intro T w K hB hF hD hK
          have g27 := get_eq (hD 1 27 (by simp [Region.binds]) (by kernel_rfl)) s27
          have g8 : T[8]? = some (.pointer (some ⟨w2.heap.size, 0, none⟩)) := hF 8 (free_of (by kernel_rfl))
          refine ob_yes (wanted_yes rfl (by kernel_rfl) g27) ?_
          clear hF hD
          go_simp
          exact hK _ _ (Below.refl _ _) (rt_eq s28)
        refine obs_cons ?_ ?_
        · intro T w K hB hF hD hK
          have g27 := get_eq (hD 1 27 (by simp [Region.binds]) (by kernel_rfl)) s27
          have g8 : T[8]? = some (.pointer (some ⟨w2.heap.size, 0, none⟩)) := hF 8 (free_of (by kernel_rfl))
          refine ob_yes (wanted_yes rfl (by kernel_rfl) g27) ?_
          clear hF hD
          go_simp
          exact hK _ _ (Below.refl _ _) (rt_eq s29)
        refine obs_cons ?_ ?_
        · intro T w K hB hF hD hK
          have g27 := get_eq (hD 1 27 (by simp [Region.binds]) (by kernel_rfl)) s27
          have g28 := get_eq (hD 2 28 (by simp [Region.binds]) (by kernel_rfl)) s28
          have g29 := get_eq (hD 3 29 (by simp [Region.binds]) (by kernel_rfl)) s29
          refine ob_yes (wanted_yes rfl (by kernel_rfl) g27) ?_
          clear hF hD
          go_simp
          refine (boxs_is y0 y1 y2 y3 y4 y5 y6 y7 (w2.heap.size) 4 2 _ by0 by1 by2 by3 by4 by5 by6 by7 (cell_call k11 hB) (cell_call k12 hB) (cell_call k13 hB) (cell_call k14 hB) (cell_call k15 hB) (cell_call k16 hB) (cell_call k17 hB) (cell_call k18 hB) HV).mono ?_; rintro e w9 ⟨rfl, hb⟩
          exact hK _ _ hb (rt_eq s30)
        refine obs_cons ?_ ?_
        · intro T w K hB hF hD hK
          have g27 := get_eq (hD 1 27 (by simp [Region.binds]) (by kernel_rfl)) s27
          have g30 := get_eq (hD 4 30 (by simp [Region.binds]) (by kernel_rfl)) s30
          refine ob_yes (wanted_yes rfl (by kernel_rfl) g27) ?_
          clear hF hD
          go_simp
          exact hK _ _ (Below.refl _ _) (rt_eq s31)
        refine obs_cons ?_ ?_
        · intro T w K hB hF hD hK
          have g27 := get_eq (hD 1 27 (by simp [Region.binds]) (by kernel_rfl)) s27
          have g31 := get_eq (hD 5 31 (by simp [Region.binds]) (by kernel_rfl)) s31
          refine ob_yes (wanted_none rfl) ?_
          clear hF hD
          go_simp
          exact hK _ _ (Below.refl _ _) (rt_eq s32)
        refine obs_cons ?_ ?_
        · intro T w K hB hF hD hK
          have g32 := get_eq (hD 6 32 (by simp [Region.binds]) (by kernel_rfl)) s32
          refine ob_yes (wanted_none rfl) ?_
          clear hF hD
          go_simp
          exact hK _ _ (Below.refl _ _) (rt_eq s33)
        refine obs_cons ?_ ?_
        · intro T w K hB hF hD hK
          have g33 := get_eq (hD 7 33 (by simp [Region.binds]) (by kernel_rfl)) s33
          have g8 : T[8]? = some (.pointer (some ⟨w2.heap.size, 0, none⟩)) := hF 8 (free_of (by kernel_rfl))
          refine ob_yes (wanted_yes rfl (by kernel_rfl) g33) ?_
          clear hF hD
          go_simp
          exact hK _ _ (Below.refl _ _) (rt_eq s34)
        refine obs_cons ?_ ?_
        · intro T w K hB hF hD hK
          have g33 := get_eq (hD 7 33 (by simp [Region.binds]) (by kernel_rfl)) s33
          have g34 := get_eq (hD 8 34 (by simp [Region.binds]) (by kernel_rfl)) s34
          refine ob_yes (wanted_yes rfl (by kernel_rfl) g33) ?_
          clear hF hD
          have c0 := cell_call k11 hB
          have c1 := cell_call k12 hB
          go_simp
          exact hK _ _ (Below.refl _ _) (rt_eq s35)
        refine obs_cons ?_ ?_
        · intro T w K hB hF hD hK
          have g33 := get_eq (hD 7 33 (by simp [Region.binds]) (by kernel_rfl)) s33
          have g8 : T[8]? = some (.pointer (some ⟨w2.heap.size, 0, none⟩)) := hF 8 (free_of (by kernel_rfl))
          refine ob_yes (wanted_yes rfl (by kernel_rfl) g33) ?_
          clear hF hD
          go_simp
          exact hK _ _ (Below.refl _ _) (rt_eq s36)
        refine obs_cons ?_ ?_
        · intro T w K hB hF hD hK
          have g33 := get_eq (hD 7 33 (by simp [Region.binds]) (by kernel_rfl)) s33
          have g36 := get_eq (hD 10 36 (by simp [Region.binds]) (by kernel_rfl)) s36
          refine ob_yes (wanted_yes rfl (by kernel_rfl) g33) ?_
          clear hF hD
          have c0 := cell_call k13 hB
          have c1 := cell_call k14 hB
          go_simp
          exact hK _ _ (Below.refl _ _) (rt_eq s37)
        refine obs_cons ?_ ?_
        · intro T w K hB hF hD hK
          have g33 := get_eq (hD 7 33 (by simp [Region.binds]) (by kernel_rfl)) s33
          have g10 : T[10]? = some (.pointer (some ⟨w4.heap.size, 0, none⟩)) := hF 10 (free_of (by kernel_rfl))
          refine ob_yes (wanted_yes rfl (by kernel_rfl) g33) ?_
          clear hF hD
          have c0 := cell_call k19 hB
          have c1 := cell_call k20 hB
          go_simp
          exact hK _ _ (Below.refl _ _) (rt_eq s38)
        refine obs_cons ?_ ?_
        · intro T w K hB hF hD hK
          have g33 := get_eq (hD 7 33 (by simp [Region.binds]) (by kernel_rfl)) s33
          have g35 := get_eq (hD 9 35 (by simp [Region.binds]) (by kernel_rfl)) s35
          have g37 := get_eq (hD 11 37 (by simp [Region.binds]) (by kernel_rfl)) s37
          have g38 := get_eq (hD 12 38 (by simp [Region.binds]) (by kernel_rfl)) s38
          refine ob_yes (wanted_yes rfl (by kernel_rfl) g33) ?_
          clear hF hD
          go_simp
          refine (onseg_is y0 y1 y2 y3 r0 r1 true _ by0.inr by1.inr by2.inr by3.inr ir0 ir1 H1).mono ?_; rintro e w9 ⟨rfl, hb⟩
          exact hK _ _ hb (rt_eq s39)
        refine obs_cons ?_ ?_
        · intro T w K hB hF hD hK
          have g33 := get_eq (hD 7 33 (by simp [Region.binds]) (by kernel_rfl)) s33
          have g39 := get_eq (hD 13 39 (by simp [Region.binds]) (by kernel_rfl)) s39
          refine ob_yes (wanted_yes rfl (by kernel_rfl) g33) ?_
          clear hF hD
          go_simp
          exact hK _ _ (Below.refl _ _) (rt_eq s40)
        refine obs_cons ?_ ?_
        · intro T w K hB hF hD hK
          have g40 := get_eq (hD 14 40 (by simp [Region.binds]) (by kernel_rfl)) s40
          have g8 : T[8]? = some (.pointer (some ⟨w2.heap.size, 0, none⟩)) := hF 8 (free_of (by kernel_rfl))
          refine ob_yes (wanted_yes rfl (by kernel_rfl) g40) ?_
          clear hF hD
          go_simp
          exact hK _ _ (Below.refl _ _) (rt_eq s41)
        refine obs_cons ?_ ?_
        · intro T w K hB hF hD hK
          have g40 := get_eq (hD 14 40 (by simp [Region.binds]) (by kernel_rfl)) s40
          have g41 := get_eq (hD 15 41 (by simp [Region.binds]) (by kernel_rfl)) s41
          refine ob_yes (wanted_yes rfl (by kernel_rfl) g40) ?_
          clear hF hD
          have c0 := cell_call k15 hB
          have c1 := cell_call k16 hB
          go_simp
          exact hK _ _ (Below.refl _ _) (rt_eq s42)
        refine obs_cons ?_ ?_
        · intro T w K hB hF hD hK
          have g40 := get_eq (hD 14 40 (by simp [Region.binds]) (by kernel_rfl)) s40
          have g8 : T[8]? = some (.pointer (some ⟨w2.heap.size, 0, none⟩)) := hF 8 (free_of (by kernel_rfl))
          refine ob_yes (wanted_yes rfl (by kernel_rfl) g40) ?_
          clear hF hD
          go_simp
          exact hK _ _ (Below.refl _ _) (rt_eq s43)
        refine obs_cons ?_ ?_
        · intro T w K hB hF hD hK
          have g40 := get_eq (hD 14 40 (by simp [Region.binds]) (by kernel_rfl)) s40
          have g43 := get_eq (hD 17 43 (by simp [Region.binds]) (by kernel_rfl)) s43
          refine ob_yes (wanted_yes rfl (by kernel_rfl) g40) ?_
          clear hF hD
          have c0 := cell_call k17 hB
          have c1 := cell_call k18 hB
          go_simp
          exact hK _ _ (Below.refl _ _) (rt_eq s44)
        refine obs_cons ?_ ?_
        · intro T w K hB hF hD hK
          have g40 := get_eq (hD 14 40 (by simp [Region.binds]) (by kernel_rfl)) s40
          have g10 : T[10]? = some (.pointer (some ⟨w4.heap.size, 0, none⟩)) := hF 10 (free_of (by kernel_rfl))
          refine ob_yes (wanted_yes rfl (by kernel_rfl) g40) ?_
          clear hF hD
          have c0 := cell_call k19 hB
          have c1 := cell_call k20 hB
          go_simp
          exact hK _ _ (Below.refl _ _) (rt_eq s45)
        refine obs_cons ?_ ?_
        · intro T w K hB hF hD hK
          have g40 := get_eq (hD 14 40 (by simp [Region.binds]) (by kernel_rfl)) s40
          have g42 := get_eq (hD 16 42 (by simp [Region.binds]) (by kernel_rfl)) s42
          have g44 := get_eq (hD 18 44 (by simp [Region.binds]) (by kernel_rfl)) s44
          have g45 := get_eq (hD 19 45 (by simp [Region.binds]) (by kernel_rfl)) s45
          refine ob_yes (wanted_yes rfl (by kernel_rfl) g40) ?_
          clear hF hD
          go_simp
          refine (onseg_is y4 y5 y6 y7 r0 r1 false _ by4.inr by5.inr by6.inr by7.inr ir0 ir1 H2).mono ?_; rintro e w9 ⟨rfl, hb⟩
          exact hK _ _ hb (rt_eq s46)
        refine obs_cons ?_ ?_
        · intro T w K hB hF hD hK
          have g33 := get_eq (hD 7 33 (by simp [Region.binds]) (by kernel_rfl)) s33
          have g40 := get_eq (hD 14 40 (by simp [Region.binds]) (by kernel_rfl)) s40
          have g46 := get_eq (hD 20 46 (by simp [Region.binds]) (by kernel_rfl)) s46
          refine ob_yes (wanted_yes rfl (by kernel_rfl) g33) ?_
          clear hF hD
          go_simp
          exact hK _ _ (Below.refl _ _) (rt_eq s47)
        refine obs_cons ?_ ?_
        · intro T w K hB hF hD hK
          have g33 := get_eq (hD 7 33 (by simp [Region.binds]) (by kernel_rfl)) s33
          have g47 := get_eq (hD 21 47 (by simp [Region.binds]) (by kernel_rfl)) s47
          refine ob_yes (wanted_yes rfl (by kernel_rfl) g33) ?_
          clear hF hD
          go_simp
          exact hK _ _ (Below.refl _ _) (rt_eq s48)
        refine obs_cons ?_ ?_
        · intro T w K hB hF hD hK
          have g48 := get_eq (hD 22 48 (by simp [Region.binds]) (by kernel_rfl)) s48
          refine ob_no (wanted_no rfl (by kernel_rfl) g48 rfl) ?_
          exact hK _ _ (Below.refl _ _) (rt_any s49)
        refine obs_cons ?_ ?_
        · intro T w K hB hF hD hK
          have g48 := get_eq (hD 22 48 (by simp [Region.binds]) (by kernel_rfl)) s48
          refine ob_no (wanted_no rfl (by kernel_rfl) g48 rfl) ?_
          exact hK _ _ (Below.refl _ _) (rt_any s50)
        refine obs_cons ?_ ?_
        · intro T w K hB hF hD hK
          have g33 := get_eq (hD 7 33 (by simp [Region.binds]) (by kernel_rfl)) s33
          have g48 := get_eq (hD 22 48 (by simp [Region.binds]) (by kernel_rfl)) s48
          refine ob_yes (wanted_yes rfl (by kernel_rfl) g33) ?_
          clear hF hD
          go_simp
          exact hK _ _ (Below.refl _ _) (rt_eq s51)
        refine obs_cons ?_ ?_
        · intro T w K hB hF hD hK
          have g33 := get_eq (hD 7 33 (by simp [Region.binds]) (by kernel_rfl)) s33
          have g51 := get_eq (hD 25 51 (by simp [Region.binds]) (by kernel_rfl)) s51
          refine ob_yes (wanted_none rfl) ?_
          clear hF hD
          go_simp
          exact hK _ _ (Below.refl _ _) (rt_eq s52)
        exact obs_nil
      · intro T w5 hb5 hF hs hD
        have g7 : T[7]? = some (.bool true) := hF 7 (free_of (by kernel_rfl))
        have g8 : T[8]? = some (.pointer (some ⟨w2.heap.size, 0, none⟩)) := hF 8 (free_of (by kernel_rfl))
        have g9 : T[9]? = some (.bool true) := hF 9 (free_of (by kernel_rfl))
        have g52 := get_eq (hD 26 52 (by kernel_rfl)) s52
        have hsz : T.size = 115 := hs
        clear hF hD hs s26 s27 s28 s29 s30 s31 s32 s33 s34 s35 s36 s37 s38 s39 s40 s41 s42 s43 s44 s45 s46 s47 s48 s49 s50 s51 s52 sp
        replace k11 := cell_call k11 hb5
        replace k12 := cell_call k12 hb5
        replace k13 := cell_call k13 hb5
        replace k14 := cell_call k14 hb5
        replace k15 := cell_call k15 hb5
        replace k16 := cell_call k16 hb5
        replace k17 := cell_call k17 hb5
        replace k18 := cell_call k18 hb5
        replace k19 := cell_call k19 hb5
        replace k20 := cell_call k20 hb5
        replace hB := belT hB hb5
        clear hb5 H1 H2 K HV
        go_upto_region 7 with fail
        refine wp_cond_false (getd g52) ?_
        go_upto_region 7 with fail
        obtain ⟨sp, hsp⟩ : ∃ sp : Told, sp = [none, none, none, none, none, none, some (.inl (.bool true)), none, none, none, none, none, none, none, none, none, none, none, none, none, none, none, none, none, none, none, none, none, none, none, none, none, none, none, none, none, none, none, none, none, none, none, none, none, none, none, none, none, none, none, none, none, none, some (.inl (.bool true)), some (.inl (.bool true)), some (.inl (.pointer (some ⟨w2.heap.size, 2, none⟩))), some (.inl (.agg #[.int .i64 y2, .int .i64 y3])), some (.inl (.pointer (some ⟨w2.heap.size, 0, none⟩))), some (.inl (.agg #[.int .i64 y0, .int .i64 y1])), some (.inl (.pointer (some ⟨w2.heap.size, 4, none⟩))), some (.inl (.agg #[.int .i64 y4, .int .i64 y5])), some (.inl (.pointer (some ⟨w2.heap.size, 6, none⟩))), some (.inl (.agg #[.int .i64 y6, .int .i64 y7])), some (.inl (.bool true)), some (.inl (.bool true)), some (.inl (.bool true)), some (.inl (.bool true)), some (.inl (.bool true)), some (.inl (.pointer (some ⟨w2.heap.size, 0, none⟩))), some (.inl (.agg #[.int .i64 y0, .int .i64 y1])), some (.inl (.pointer (some ⟨w2.heap.size, 2, none⟩))), some (.inl (.agg #[.int .i64 y2, .int .i64 y3])), some (.inl (.pointer (some ⟨w2.heap.size, 6, none⟩))), some (.inl (.agg #[.int .i64 y6, .int .i64 y7])), some (.inl (.pointer (some ⟨w2.heap.size, 4, none⟩))), some (.inl (.agg #[.int .i64 y4, .int .i64 y5])), some (.inl (.bool true)), some (.inl (.bool true)), some (.inl (.bool true)), some (.inl (.bool true)), some (.inl (.bool true)), some (.inl (.pointer (some ⟨w2.heap.size, 4, none⟩))), some (.inl (.agg #[.int .i64 y4, .int .i64 y5])), some (.inl (.pointer (some ⟨w2.heap.size, 6, none⟩))), some (.inl (.agg #[.int .i64 y6, .int .i64 y7])), some (.inl (.pointer (some ⟨w2.heap.size, 0, none⟩))), some (.inl (.agg #[.int .i64 y0, .int .i64 y1])), some (.inl (.pointer (some ⟨w2.heap.size, 2, none⟩))), some (.inl (.agg #[.int .i64 y2, .int .i64 y3])), some (.inl (.bool true)), some (.inl (.bool true)), some (.inl (.bool true)), some (.inl (.bool true)), some (.inl (.bool true)), some (.inl (.pointer (some ⟨w2.heap.size, 0, none⟩))), some (.inl (.agg #[.int .i64 y0, .int .i64 y1])), some (.inl (.pointer (some ⟨w2.heap.size, 2, none⟩))), some (.inl (.agg #[.int .i64 y2, .int .i64 y3])), some (.inl (.pointer (some ⟨w2.heap.size, 0, none⟩))), some (.inl (.agg #[.int .i64 y0, .int .i64 y1])), some (.inl (.pointer (some ⟨w2.heap.size, 6, none⟩))), some (.inl (.agg #[.int .i64 y6, .int .i64 y7])), some (.inl (.bool true)), some (.inl (.bool true)), some (.inl (.bool true)), some (.inl (.pointer (some ⟨w2.heap.size, 0, none⟩))), some (.inl (.agg #[.int .i64 y0, .int .i64 y1])), some (.inl (.pointer (some ⟨w2.heap.size, 2, none⟩))), some (.inl (.agg #[.int .i64 y2, .int .i64 y3])), some (.inl (.pointer (some ⟨w2.heap.size, 0, none⟩))), some (.inl (.agg #[.int .i64 y0, .int .i64 y1])), some (.inl (.pointer (some ⟨w2.heap.size, 2, none⟩))), some (.inl (.agg #[.int .i64 y2, .int .i64 y3])), some (.inl (.bool true)), some (.inl (.bool true))] := ⟨_, rfl⟩
        have s6 : sp.getD 6 none = some (.inl (.bool true)) := by rw [hsp]; rfl
        have s53 : sp.getD 53 none = some (.inl (.bool true)) := by rw [hsp]; rfl
        have s54 : sp.getD 54 none = some (.inl (.bool true)) := by rw [hsp]; rfl
        have s55 : sp.getD 55 none = some (.inl (.pointer (some ⟨w2.heap.size, 2, none⟩))) := by rw [hsp]; rfl
        have s56 : sp.getD 56 none = some (.inl (.agg #[.int .i64 y2, .int .i64 y3])) := by rw [hsp]; rfl
        have s57 : sp.getD 57 none = some (.inl (.pointer (some ⟨w2.heap.size, 0, none⟩))) := by rw [hsp]; rfl
        have s58 : sp.getD 58 none = some (.inl (.agg #[.int .i64 y0, .int .i64 y1])) := by rw [hsp]; rfl
        have s59 : sp.getD 59 none = some (.inl (.pointer (some ⟨w2.heap.size, 4, none⟩))) := by rw [hsp]; rfl
        have s60 : sp.getD 60 none = some (.inl (.agg #[.int .i64 y4, .int .i64 y5])) := by rw [hsp]; rfl
        have s61 : sp.getD 61 none = some (.inl (.pointer (some ⟨w2.heap.size, 6, none⟩))) := by rw [hsp]; rfl
        have s62 : sp.getD 62 none = some (.inl (.agg #[.int .i64 y6, .int .i64 y7])) := by rw [hsp]; rfl
        have s63 : sp.getD 63 none = some (.inl (.bool true)) := by rw [hsp]; rfl
        have s64 : sp.getD 64 none = some (.inl (.bool true)) := by rw [hsp]; rfl
        have s65 : sp.getD 65 none = some (.inl (.bool true)) := by rw [hsp]; rfl
        have s66 : sp.getD 66 none = some (.inl (.bool true)) := by rw [hsp]; rfl
        have s67 : sp.getD 67 none = some (.inl (.bool true)) := by rw [hsp]; rfl
        have s68 : sp.getD 68 none = some (.inl (.pointer (some ⟨w2.heap.size, 0, none⟩))) := by rw [hsp]; rfl
        have s69 : sp.getD 69 none = some (.inl (.agg #[.int .i64 y0, .int .i64 y1])) := by rw [hsp]; rfl
        have s70 : sp.getD 70 none = some (.inl (.pointer (some ⟨w2.heap.size, 2, none⟩))) := by rw [hsp]; rfl
        have s71 : sp.getD 71 none = some (.inl (.agg #[.int .i64 y2, .int .i64 y3])) := by rw [hsp]; rfl
        have s72 : sp.getD 72 none = some (.inl (.pointer (some ⟨w2.heap.size, 6, none⟩))) := by rw [hsp]; rfl
        have s73 : sp.getD 73 none = some (.inl (.agg #[.int .i64 y6, .int .i64 y7])) := by rw [hsp]; rfl
        have s74 : sp.getD 74 none = some (.inl (.pointer (some ⟨w2.heap.size, 4, none⟩))) := by rw [hsp]; rfl
        have s75 : sp.getD 75 none = some (.inl (.agg #[.int .i64 y4, .int .i64 y5])) := by rw [hsp]; rfl
        have s76 : sp.getD 76 none = some (.inl (.bool true)) := by rw [hsp]; rfl
        have s77 : sp.getD 77 none = some (.inl (.bool true)) := by rw [hsp]; rfl
        have s78 : sp.getD 78 none = some (.inl (.bool true)) := by rw [hsp]; rfl
        have s79 : sp.getD 79 none = some (.inl (.bool true)) := by rw [hsp]; rfl
        have s80 : sp.getD 80 none = some (.inl (.bool true)) := by rw [hsp]; rfl
        have s81 : sp.getD 81 none = some (.inl (.pointer (some ⟨w2.heap.size, 4, none⟩))) := by rw [hsp]; rfl
        have s82 : sp.getD 82 none = some (.inl (.agg #[.int .i64 y4, .int .i64 y5])) := by rw [hsp]; rfl
        have s83 : sp.getD 83 none = some (.inl (.pointer (some ⟨w2.heap.size, 6, none⟩))) := by rw [hsp]; rfl
        have s84 : sp.getD 84 none = some (.inl (.agg #[.int .i64 y6, .int .i64 y7])) := by rw [hsp]; rfl
        have s85 : sp.getD 85 none = some (.inl (.pointer (some ⟨w2.heap.size, 0, none⟩))) := by rw [hsp]; rfl
        have s86 : sp.getD 86 none = some (.inl (.agg #[.int .i64 y0, .int .i64 y1])) := by rw [hsp]; rfl
        have s87 : sp.getD 87 none = some (.inl (.pointer (some ⟨w2.heap.size, 2, none⟩))) := by rw [hsp]; rfl
        have s88 : sp.getD 88 none = some (.inl (.agg #[.int .i64 y2, .int .i64 y3])) := by rw [hsp]; rfl
        have s89 : sp.getD 89 none = some (.inl (.bool true)) := by rw [hsp]; rfl
        have s90 : sp.getD 90 none = some (.inl (.bool true)) := by rw [hsp]; rfl
        have s91 : sp.getD 91 none = some (.inl (.bool true)) := by rw [hsp]; rfl
        have s92 : sp.getD 92 none = some (.inl (.bool true)) := by rw [hsp]; rfl
        have s93 : sp.getD 93 none = some (.inl (.bool true)) := by rw [hsp]; rfl
        have s94 : sp.getD 94 none = some (.inl (.pointer (some ⟨w2.heap.size, 0, none⟩))) := by rw [hsp]; rfl
        have s95 : sp.getD 95 none = some (.inl (.agg #[.int .i64 y0, .int .i64 y1])) := by rw [hsp]; rfl
        have s96 : sp.getD 96 none = some (.inl (.pointer (some ⟨w2.heap.size, 2, none⟩))) := by rw [hsp]; rfl
        have s97 : sp.getD 97 none = some (.inl (.agg #[.int .i64 y2, .int .i64 y3])) := by rw [hsp]; rfl
        have s98 : sp.getD 98 none = some (.inl (.pointer (some ⟨w2.heap.size, 0, none⟩))) := by rw [hsp]; rfl
        have s99 : sp.getD 99 none = some (.inl (.agg #[.int .i64 y0, .int .i64 y1])) := by rw [hsp]; rfl
        have s100 : sp.getD 100 none = some (.inl (.pointer (some ⟨w2.heap.size, 6, none⟩))) := by rw [hsp]; rfl
        have s101 : sp.getD 101 none = some (.inl (.agg #[.int .i64 y6, .int .i64 y7])) := by rw [hsp]; rfl
        have s102 : sp.getD 102 none = some (.inl (.bool true)) := by rw [hsp]; rfl
        have s103 : sp.getD 103 none = some (.inl (.bool true)) := by rw [hsp]; rfl
        have s104 : sp.getD 104 none = some (.inl (.bool true)) := by rw [hsp]; rfl
        have s105 : sp.getD 105 none = some (.inl (.pointer (some ⟨w2.heap.size, 0, none⟩))) := by rw [hsp]; rfl
        have s106 : sp.getD 106 none = some (.inl (.agg #[.int .i64 y0, .int .i64 y1])) := by rw [hsp]; rfl
        have s107 : sp.getD 107 none = some (.inl (.pointer (some ⟨w2.heap.size, 2, none⟩))) := by rw [hsp]; rfl
        have s108 : sp.getD 108 none = some (.inl (.agg #[.int .i64 y2, .int .i64 y3])) := by rw [hsp]; rfl
        have s109 : sp.getD 109 none = some (.inl (.pointer (some ⟨w2.heap.size, 0, none⟩))) := by rw [hsp]; rfl
        have s110 : sp.getD 110 none = some (.inl (.agg #[.int .i64 y0, .int .i64 y1])) := by rw [hsp]; rfl
        have s111 : sp.getD 111 none = some (.inl (.pointer (some ⟨w2.heap.size, 2, none⟩))) := by rw [hsp]; rfl
        have s112 : sp.getD 112 none = some (.inl (.agg #[.int .i64 y2, .int .i64 y3])) := by rw [hsp]; rfl
        have s113 : sp.getD 113 none = some (.inl (.bool true)) := by rw [hsp]; rfl
        have s114 : sp.getD 114 none = some (.inl (.bool true)) := by rw [hsp]; rfl
        clear hsp
        refine region_text sp (by rw [hsz]; kernel_rfl) ?_ ?_
        · rw [List.toList_toArray]
          refine obs_cons ?_ ?_
          · intro T w K hB hF hD hK
            have g7 : T[7]? = some (.bool true) := (hF 7 (free_of (by kernel_rfl))).trans g7
            refine ob_yes (wanted_none rfl) ?_
            clear hF hD
            go_simp
            exact hK _ _ (Below.refl _ _) (rt_eq s53)
          refine obs_cons ?_ ?_
          · intro T w K hB hF hD hK
            have g53 := get_eq (hD 0 53 (by simp [Region.binds]) (by kernel_rfl)) s53
            refine ob_yes (wanted_none rfl) ?_
            clear hF hD
            go_simp
            exact hK _ _ (Below.refl _ _) (rt_eq s54)
          refine obs_cons ?_ ?_
          · intro T w K hB hF hD hK
            have g54 := get_eq (hD 1 54 (by simp [Region.binds]) (by kernel_rfl)) s54
            have g8 : T[8]? = some (.pointer (some ⟨w2.heap.size, 0, none⟩)) := (hF 8 (free_of (by kernel_rfl))).trans g8
            refine ob_yes (wanted_yes rfl (by kernel_rfl) g54) ?_
            clear hF hD
            go_simp
            exact hK _ _ (Below.refl _ _) (rt_eq s55)
          refine obs_cons ?_ ?_
          · intro T w K hB hF hD hK
            have g54 := get_eq (hD 1 54 (by simp [Region.binds]) (by kernel_rfl)) s54
            have g55 := get_eq (hD 2 55 (by simp [Region.binds]) (by kernel_rfl)) s55
            refine ob_yes (wanted_yes rfl (by kernel_rfl) g54) ?_
            clear hF hD
            have c0 := cell_call k13 hB
            have c1 := cell_call k14 hB
            go_simp
            exact hK _ _ (Below.refl _ _) (rt_eq s56)
          refine obs_cons ?_ ?_
          · intro T w K hB hF hD hK
            have g54 := get_eq (hD 1 54 (by simp [Region.binds]) (by kernel_rfl)) s54
            have g8 : T[8]? = some (.pointer (some ⟨w2.heap.size, 0, none⟩)) := (hF 8 (free_of (by kernel_rfl))).trans g8
            refine ob_yes (wanted_yes rfl (by kernel_rfl) g54) ?_
            clear hF hD
            go_simp
            exact hK _ _ (Below.refl _ _) (rt_eq s57)
          refine obs_cons ?_ ?_
          · intro T w K hB hF hD hK
            have g54 := get_eq (hD 1 54 (by simp [Region.binds]) (by kernel_rfl)) s54
            have g57 := get_eq (hD 4 57 (by simp [Region.binds]) (by kernel_rfl)) s57
            refine ob_yes (wanted_yes rfl (by kernel_rfl) g54) ?_
            clear hF hD
            have c0 := cell_call k11 hB
            have c1 := cell_call k12 hB
            go_simp
            exact hK _ _ (Below.refl _ _) (rt_eq s58)
          refine obs_cons ?_ ?_
          · intro T w K hB hF hD hK
            have g54 := get_eq (hD 1 54 (by simp [Region.binds]) (by kernel_rfl)) s54
            have g8 : T[8]? = some (.pointer (some ⟨w2.heap.size, 0, none⟩)) := (hF 8 (free_of (by kernel_rfl))).trans g8
            refine ob_yes (wanted_yes rfl (by kernel_rfl) g54) ?_
            clear hF hD
            go_simp
            exact hK _ _ (Below.refl _ _) (rt_eq s59)
          refine obs_cons ?_ ?_
          · intro T w K hB hF hD hK
            have g54 := get_eq (hD 1 54 (by simp [Region.binds]) (by kernel_rfl)) s54
            have g59 := get_eq (hD 6 59 (by simp [Region.binds]) (by kernel_rfl)) s59
            refine ob_yes (wanted_yes rfl (by kernel_rfl) g54) ?_
            clear hF hD
            have c0 := cell_call k15 hB
            have c1 := cell_call k16 hB
            go_simp
            exact hK _ _ (Below.refl _ _) (rt_eq s60)
          refine obs_cons ?_ ?_
          · intro T w K hB hF hD hK
            have g54 := get_eq (hD 1 54 (by simp [Region.binds]) (by kernel_rfl)) s54
            have g8 : T[8]? = some (.pointer (some ⟨w2.heap.size, 0, none⟩)) := (hF 8 (free_of (by kernel_rfl))).trans g8
            refine ob_yes (wanted_yes rfl (by kernel_rfl) g54) ?_
            clear hF hD
            go_simp
            exact hK _ _ (Below.refl _ _) (rt_eq s61)
          refine obs_cons ?_ ?_
          · intro T w K hB hF hD hK
            have g54 := get_eq (hD 1 54 (by simp [Region.binds]) (by kernel_rfl)) s54
            have g61 := get_eq (hD 8 61 (by simp [Region.binds]) (by kernel_rfl)) s61
            refine ob_yes (wanted_yes rfl (by kernel_rfl) g54) ?_
            clear hF hD
            have c0 := cell_call k17 hB
            have c1 := cell_call k18 hB
            go_simp
            exact hK _ _ (Below.refl _ _) (rt_eq s62)
          refine obs_cons ?_ ?_
          · intro T w K hB hF hD hK
            have g54 := get_eq (hD 1 54 (by simp [Region.binds]) (by kernel_rfl)) s54
            have g56 := get_eq (hD 3 56 (by simp [Region.binds]) (by kernel_rfl)) s56
            have g58 := get_eq (hD 5 58 (by simp [Region.binds]) (by kernel_rfl)) s58
            have g60 := get_eq (hD 7 60 (by simp [Region.binds]) (by kernel_rfl)) s60
            have g62 := get_eq (hD 9 62 (by simp [Region.binds]) (by kernel_rfl)) s62
            refine ob_yes (wanted_yes rfl (by kernel_rfl) g54) ?_
            clear hF hD
            go_simp
            refine (cross_is y2 y3 y0 y1 y4 y5 y6 y7 true _ by2.inr by3.inr by0.inr by1.inr by4.inr by5.inr by6.inr by7.inr S1).mono ?_; rintro e w9 ⟨rfl, hb⟩
            exact hK _ _ hb (rt_eq s63)
          refine obs_cons ?_ ?_
          · intro T w K hB hF hD hK
            have g54 := get_eq (hD 1 54 (by simp [Region.binds]) (by kernel_rfl)) s54
            have g9 : T[9]? = some (.bool true) := (hF 9 (free_of (by kernel_rfl))).trans g9
            refine ob_yes (wanted_yes rfl (by kernel_rfl) g54) ?_
            clear hF hD
            go_simp
            exact hK _ _ (Below.refl _ _) (rt_eq s64)
          refine obs_cons ?_ ?_
          · intro T w K hB hF hD hK
            have g54 := get_eq (hD 1 54 (by simp [Region.binds]) (by kernel_rfl)) s54
            have g63 := get_eq (hD 10 63 (by simp [Region.binds]) (by kernel_rfl)) s63
            have g64 := get_eq (hD 11 64 (by simp [Region.binds]) (by kernel_rfl)) s64
            refine ob_yes (wanted_yes rfl (by kernel_rfl) g54) ?_
            clear hF hD
            go_simp
            exact hK _ _ (Below.refl _ _) (rt_eq s65)
          refine obs_cons ?_ ?_
          · intro T w K hB hF hD hK
            have g54 := get_eq (hD 1 54 (by simp [Region.binds]) (by kernel_rfl)) s54
            have g65 := get_eq (hD 12 65 (by simp [Region.binds]) (by kernel_rfl)) s65
            refine ob_yes (wanted_none rfl) ?_
            clear hF hD
            go_simp
            exact hK _ _ (Below.refl _ _) (rt_eq s66)
          refine obs_cons ?_ ?_
          · intro T w K hB hF hD hK
            have g66 := get_eq (hD 13 66 (by simp [Region.binds]) (by kernel_rfl)) s66
            refine ob_yes (wanted_none rfl) ?_
            clear hF hD
            go_simp
            exact hK _ _ (Below.refl _ _) (rt_eq s67)
          refine obs_cons ?_ ?_
          · intro T w K hB hF hD hK
            have g67 := get_eq (hD 14 67 (by simp [Region.binds]) (by kernel_rfl)) s67
            have g8 : T[8]? = some (.pointer (some ⟨w2.heap.size, 0, none⟩)) := (hF 8 (free_of (by kernel_rfl))).trans g8
            refine ob_yes (wanted_yes rfl (by kernel_rfl) g67) ?_
            clear hF hD
            go_simp
            exact hK _ _ (Below.refl _ _) (rt_eq s68)
          refine obs_cons ?_ ?_
          · intro T w K hB hF hD hK
            have g67 := get_eq (hD 14 67 (by simp [Region.binds]) (by kernel_rfl)) s67
            have g68 := get_eq (hD 15 68 (by simp [Region.binds]) (by kernel_rfl)) s68
            refine ob_yes (wanted_yes rfl (by kernel_rfl) g67) ?_
            clear hF hD
            have c0 := cell_call k11 hB
            have c1 := cell_call k12 hB
            go_simp
            exact hK _ _ (Below.refl _ _) (rt_eq s69)
          refine obs_cons ?_ ?_
          · intro T w K hB hF hD hK
            have g67 := get_eq (hD 14 67 (by simp [Region.binds]) (by kernel_rfl)) s67
            have g8 : T[8]? = some (.pointer (some ⟨w2.heap.size, 0, none⟩)) := (hF 8 (free_of (by kernel_rfl))).trans g8
            refine ob_yes (wanted_yes rfl (by kernel_rfl) g67) ?_
            clear hF hD
            go_simp
            exact hK _ _ (Below.refl _ _) (rt_eq s70)
          refine obs_cons ?_ ?_
          · intro T w K hB hF hD hK
            have g67 := get_eq (hD 14 67 (by simp [Region.binds]) (by kernel_rfl)) s67
            have g70 := get_eq (hD 17 70 (by simp [Region.binds]) (by kernel_rfl)) s70
            refine ob_yes (wanted_yes rfl (by kernel_rfl) g67) ?_
            clear hF hD
            have c0 := cell_call k13 hB
            have c1 := cell_call k14 hB
            go_simp
            exact hK _ _ (Below.refl _ _) (rt_eq s71)
          refine obs_cons ?_ ?_
          · intro T w K hB hF hD hK
            have g67 := get_eq (hD 14 67 (by simp [Region.binds]) (by kernel_rfl)) s67
            have g8 : T[8]? = some (.pointer (some ⟨w2.heap.size, 0, none⟩)) := (hF 8 (free_of (by kernel_rfl))).trans g8
            refine ob_yes (wanted_yes rfl (by kernel_rfl) g67) ?_
            clear hF hD
            go_simp
            exact hK _ _ (Below.refl _ _) (rt_eq s72)
          refine obs_cons ?_ ?_
          · intro T w K hB hF hD hK
            have g67 := get_eq (hD 14 67 (by simp [Region.binds]) (by kernel_rfl)) s67
            have g72 := get_eq (hD 19 72 (by simp [Region.binds]) (by kernel_rfl)) s72
            refine ob_yes (wanted_yes rfl (by kernel_rfl) g67) ?_
            clear hF hD
            have c0 := cell_call k17 hB
            have c1 := cell_call k18 hB
            go_simp
            exact hK _ _ (Below.refl _ _) (rt_eq s73)
          refine obs_cons ?_ ?_
          · intro T w K hB hF hD hK
            have g67 := get_eq (hD 14 67 (by simp [Region.binds]) (by kernel_rfl)) s67
            have g8 : T[8]? = some (.pointer (some ⟨w2.heap.size, 0, none⟩)) := (hF 8 (free_of (by kernel_rfl))).trans g8
            refine ob_yes (wanted_yes rfl (by kernel_rfl) g67) ?_
            clear hF hD
            go_simp
            exact hK _ _ (Below.refl _ _) (rt_eq s74)
          refine obs_cons ?_ ?_
          · intro T w K hB hF hD hK
            have g67 := get_eq (hD 14 67 (by simp [Region.binds]) (by kernel_rfl)) s67
            have g74 := get_eq (hD 21 74 (by simp [Region.binds]) (by kernel_rfl)) s74
            refine ob_yes (wanted_yes rfl (by kernel_rfl) g67) ?_
            clear hF hD
            have c0 := cell_call k15 hB
            have c1 := cell_call k16 hB
            go_simp
            exact hK _ _ (Below.refl _ _) (rt_eq s75)
          refine obs_cons ?_ ?_
          · intro T w K hB hF hD hK
            have g67 := get_eq (hD 14 67 (by simp [Region.binds]) (by kernel_rfl)) s67
            have g69 := get_eq (hD 16 69 (by simp [Region.binds]) (by kernel_rfl)) s69
            have g71 := get_eq (hD 18 71 (by simp [Region.binds]) (by kernel_rfl)) s71
            have g73 := get_eq (hD 20 73 (by simp [Region.binds]) (by kernel_rfl)) s73
            have g75 := get_eq (hD 22 75 (by simp [Region.binds]) (by kernel_rfl)) s75
            refine ob_yes (wanted_yes rfl (by kernel_rfl) g67) ?_
            clear hF hD
            go_simp
            refine (cross_is y0 y1 y2 y3 y6 y7 y4 y5 true _ by0.inr by1.inr by2.inr by3.inr by6.inr by7.inr by4.inr by5.inr S2).mono ?_; rintro e w9 ⟨rfl, hb⟩
            exact hK _ _ hb (rt_eq s76)
          refine obs_cons ?_ ?_
          · intro T w K hB hF hD hK
            have g67 := get_eq (hD 14 67 (by simp [Region.binds]) (by kernel_rfl)) s67
            have g9 : T[9]? = some (.bool true) := (hF 9 (free_of (by kernel_rfl))).trans g9
            refine ob_yes (wanted_yes rfl (by kernel_rfl) g67) ?_
            clear hF hD
            go_simp
            exact hK _ _ (Below.refl _ _) (rt_eq s77)
          refine obs_cons ?_ ?_
          · intro T w K hB hF hD hK
            have g67 := get_eq (hD 14 67 (by simp [Region.binds]) (by kernel_rfl)) s67
            have g76 := get_eq (hD 23 76 (by simp [Region.binds]) (by kernel_rfl)) s76
            have g77 := get_eq (hD 24 77 (by simp [Region.binds]) (by kernel_rfl)) s77
            refine ob_yes (wanted_yes rfl (by kernel_rfl) g67) ?_
            clear hF hD
            go_simp
            exact hK _ _ (Below.refl _ _) (rt_eq s78)
          refine obs_cons ?_ ?_
          · intro T w K hB hF hD hK
            have g67 := get_eq (hD 14 67 (by simp [Region.binds]) (by kernel_rfl)) s67
            have g78 := get_eq (hD 25 78 (by simp [Region.binds]) (by kernel_rfl)) s78
            refine ob_yes (wanted_none rfl) ?_
            clear hF hD
            go_simp
            exact hK _ _ (Below.refl _ _) (rt_eq s79)
          refine obs_cons ?_ ?_
          · intro T w K hB hF hD hK
            have g79 := get_eq (hD 26 79 (by simp [Region.binds]) (by kernel_rfl)) s79
            refine ob_yes (wanted_none rfl) ?_
            clear hF hD
            go_simp
            exact hK _ _ (Below.refl _ _) (rt_eq s80)
          refine obs_cons ?_ ?_
          · intro T w K hB hF hD hK
            have g80 := get_eq (hD 27 80 (by simp [Region.binds]) (by kernel_rfl)) s80
            have g8 : T[8]? = some (.pointer (some ⟨w2.heap.size, 0, none⟩)) := (hF 8 (free_of (by kernel_rfl))).trans g8
            refine ob_yes (wanted_yes rfl (by kernel_rfl) g80) ?_
            clear hF hD
            go_simp
            exact hK _ _ (Below.refl _ _) (rt_eq s81)
          refine obs_cons ?_ ?_
          · intro T w K hB hF hD hK
            have g80 := get_eq (hD 27 80 (by simp [Region.binds]) (by kernel_rfl)) s80
            have g81 := get_eq (hD 28 81 (by simp [Region.binds]) (by kernel_rfl)) s81
            refine ob_yes (wanted_yes rfl (by kernel_rfl) g80) ?_
            clear hF hD
            have c0 := cell_call k15 hB
            have c1 := cell_call k16 hB
            go_simp
            exact hK _ _ (Below.refl _ _) (rt_eq s82)
          refine obs_cons ?_ ?_
          · intro T w K hB hF hD hK
            have g80 := get_eq (hD 27 80 (by simp [Region.binds]) (by kernel_rfl)) s80
            have g8 : T[8]? = some (.pointer (some ⟨w2.heap.size, 0, none⟩)) := (hF 8 (free_of (by kernel_rfl))).trans g8
            refine ob_yes (wanted_yes rfl (by kernel_rfl) g80) ?_
            clear hF hD
            go_simp
            exact hK _ _ (Below.refl _ _) (rt_eq s83)
          refine obs_cons ?_ ?_
          · intro T w K hB hF hD hK
            have g80 := get_eq (hD 27 80 (by simp [Region.binds]) (by kernel_rfl)) s80
            have g83 := get_eq (hD 30 83 (by simp [Region.binds]) (by kernel_rfl)) s83
            refine ob_yes (wanted_yes rfl (by kernel_rfl) g80) ?_
            clear hF hD
            have c0 := cell_call k17 hB
            have c1 := cell_call k18 hB
            go_simp
            exact hK _ _ (Below.refl _ _) (rt_eq s84)
          refine obs_cons ?_ ?_
          · intro T w K hB hF hD hK
            have g80 := get_eq (hD 27 80 (by simp [Region.binds]) (by kernel_rfl)) s80
            have g8 : T[8]? = some (.pointer (some ⟨w2.heap.size, 0, none⟩)) := (hF 8 (free_of (by kernel_rfl))).trans g8
            refine ob_yes (wanted_yes rfl (by kernel_rfl) g80) ?_
            clear hF hD
            go_simp
            exact hK _ _ (Below.refl _ _) (rt_eq s85)
          refine obs_cons ?_ ?_
          · intro T w K hB hF hD hK
            have g80 := get_eq (hD 27 80 (by simp [Region.binds]) (by kernel_rfl)) s80
            have g85 := get_eq (hD 32 85 (by simp [Region.binds]) (by kernel_rfl)) s85
            refine ob_yes (wanted_yes rfl (by kernel_rfl) g80) ?_
            clear hF hD
            have c0 := cell_call k11 hB
            have c1 := cell_call k12 hB
            go_simp
            exact hK _ _ (Below.refl _ _) (rt_eq s86)
          refine obs_cons ?_ ?_
          · intro T w K hB hF hD hK
            have g80 := get_eq (hD 27 80 (by simp [Region.binds]) (by kernel_rfl)) s80
            have g8 : T[8]? = some (.pointer (some ⟨w2.heap.size, 0, none⟩)) := (hF 8 (free_of (by kernel_rfl))).trans g8
            refine ob_yes (wanted_yes rfl (by kernel_rfl) g80) ?_
            clear hF hD
            go_simp
            exact hK _ _ (Below.refl _ _) (rt_eq s87)
          refine obs_cons ?_ ?_
          · intro T w K hB hF hD hK
            have g80 := get_eq (hD 27 80 (by simp [Region.binds]) (by kernel_rfl)) s80
            have g87 := get_eq (hD 34 87 (by simp [Region.binds]) (by kernel_rfl)) s87
            refine ob_yes (wanted_yes rfl (by kernel_rfl) g80) ?_
            clear hF hD
            have c0 := cell_call k13 hB
            have c1 := cell_call k14 hB
            go_simp
            exact hK _ _ (Below.refl _ _) (rt_eq s88)
          refine obs_cons ?_ ?_
          · intro T w K hB hF hD hK
            have g80 := get_eq (hD 27 80 (by simp [Region.binds]) (by kernel_rfl)) s80
            have g82 := get_eq (hD 29 82 (by simp [Region.binds]) (by kernel_rfl)) s82
            have g84 := get_eq (hD 31 84 (by simp [Region.binds]) (by kernel_rfl)) s84
            have g86 := get_eq (hD 33 86 (by simp [Region.binds]) (by kernel_rfl)) s86
            have g88 := get_eq (hD 35 88 (by simp [Region.binds]) (by kernel_rfl)) s88
            refine ob_yes (wanted_yes rfl (by kernel_rfl) g80) ?_
            clear hF hD
            go_simp
            refine (cross_is y4 y5 y6 y7 y0 y1 y2 y3 true _ by4.inr by5.inr by6.inr by7.inr by0.inr by1.inr by2.inr by3.inr S3).mono ?_; rintro e w9 ⟨rfl, hb⟩
            exact hK _ _ hb (rt_eq s89)
          refine obs_cons ?_ ?_
          · intro T w K hB hF hD hK
            have g80 := get_eq (hD 27 80 (by simp [Region.binds]) (by kernel_rfl)) s80
            have g9 : T[9]? = some (.bool true) := (hF 9 (free_of (by kernel_rfl))).trans g9
            refine ob_yes (wanted_yes rfl (by kernel_rfl) g80) ?_
            clear hF hD
            go_simp
            exact hK _ _ (Below.refl _ _) (rt_eq s90)
          refine obs_cons ?_ ?_
          · intro T w K hB hF hD hK
            have g80 := get_eq (hD 27 80 (by simp [Region.binds]) (by kernel_rfl)) s80
            have g89 := get_eq (hD 36 89 (by simp [Region.binds]) (by kernel_rfl)) s89
            have g90 := get_eq (hD 37 90 (by simp [Region.binds]) (by kernel_rfl)) s90
            refine ob_yes (wanted_yes rfl (by kernel_rfl) g80) ?_
            clear hF hD
            go_simp
            exact hK _ _ (Below.refl _ _) (rt_eq s91)
          refine obs_cons ?_ ?_
          · intro T w K hB hF hD hK
            have g80 := get_eq (hD 27 80 (by simp [Region.binds]) (by kernel_rfl)) s80
            have g91 := get_eq (hD 38 91 (by simp [Region.binds]) (by kernel_rfl)) s91
            refine ob_yes (wanted_none rfl) ?_
            clear hF hD
            go_simp
            exact hK _ _ (Below.refl _ _) (rt_eq s92)
          refine obs_cons ?_ ?_
          · intro T w K hB hF hD hK
            have g92 := get_eq (hD 39 92 (by simp [Region.binds]) (by kernel_rfl)) s92
            refine ob_yes (wanted_none rfl) ?_
            clear hF hD
            go_simp
            exact hK _ _ (Below.refl _ _) (rt_eq s93)
          refine obs_cons ?_ ?_
          · intro T w K hB hF hD hK
            have g93 := get_eq (hD 40 93 (by simp [Region.binds]) (by kernel_rfl)) s93
            have g8 : T[8]? = some (.pointer (some ⟨w2.heap.size, 0, none⟩)) := (hF 8 (free_of (by kernel_rfl))).trans g8
            refine ob_yes (wanted_yes rfl (by kernel_rfl) g93) ?_
            clear hF hD
            go_simp
            exact hK _ _ (Below.refl _ _) (rt_eq s94)
          refine obs_cons ?_ ?_
          · intro T w K hB hF hD hK
            have g93 := get_eq (hD 40 93 (by simp [Region.binds]) (by kernel_rfl)) s93
            have g94 := get_eq (hD 41 94 (by simp [Region.binds]) (by kernel_rfl)) s94
            refine ob_yes (wanted_yes rfl (by kernel_rfl) g93) ?_
            clear hF hD
            have c0 := cell_call k11 hB
            have c1 := cell_call k12 hB
            go_simp
            exact hK _ _ (Below.refl _ _) (rt_eq s95)
          refine obs_cons ?_ ?_
          · intro T w K hB hF hD hK
            have g93 := get_eq (hD 40 93 (by simp [Region.binds]) (by kernel_rfl)) s93
            have g8 : T[8]? = some (.pointer (some ⟨w2.heap.size, 0, none⟩)) := (hF 8 (free_of (by kernel_rfl))).trans g8
            refine ob_yes (wanted_yes rfl (by kernel_rfl) g93) ?_
            clear hF hD
            go_simp
            exact hK _ _ (Below.refl _ _) (rt_eq s96)
          refine obs_cons ?_ ?_
          · intro T w K hB hF hD hK
            have g93 := get_eq (hD 40 93 (by simp [Region.binds]) (by kernel_rfl)) s93
            have g96 := get_eq (hD 43 96 (by simp [Region.binds]) (by kernel_rfl)) s96
            refine ob_yes (wanted_yes rfl (by kernel_rfl) g93) ?_
            clear hF hD
            have c0 := cell_call k13 hB
            have c1 := cell_call k14 hB
            go_simp
            exact hK _ _ (Below.refl _ _) (rt_eq s97)
          refine obs_cons ?_ ?_
          · intro T w K hB hF hD hK
            have g93 := get_eq (hD 40 93 (by simp [Region.binds]) (by kernel_rfl)) s93
            have g8 : T[8]? = some (.pointer (some ⟨w2.heap.size, 0, none⟩)) := (hF 8 (free_of (by kernel_rfl))).trans g8
            refine ob_yes (wanted_yes rfl (by kernel_rfl) g93) ?_
            clear hF hD
            go_simp
            exact hK _ _ (Below.refl _ _) (rt_eq s98)
          refine obs_cons ?_ ?_
          · intro T w K hB hF hD hK
            have g93 := get_eq (hD 40 93 (by simp [Region.binds]) (by kernel_rfl)) s93
            have g98 := get_eq (hD 45 98 (by simp [Region.binds]) (by kernel_rfl)) s98
            refine ob_yes (wanted_yes rfl (by kernel_rfl) g93) ?_
            clear hF hD
            have c0 := cell_call k11 hB
            have c1 := cell_call k12 hB
            go_simp
            exact hK _ _ (Below.refl _ _) (rt_eq s99)
          refine obs_cons ?_ ?_
          · intro T w K hB hF hD hK
            have g93 := get_eq (hD 40 93 (by simp [Region.binds]) (by kernel_rfl)) s93
            have g8 : T[8]? = some (.pointer (some ⟨w2.heap.size, 0, none⟩)) := (hF 8 (free_of (by kernel_rfl))).trans g8
            refine ob_yes (wanted_yes rfl (by kernel_rfl) g93) ?_
            clear hF hD
            go_simp
            exact hK _ _ (Below.refl _ _) (rt_eq s100)
          refine obs_cons ?_ ?_
          · intro T w K hB hF hD hK
            have g93 := get_eq (hD 40 93 (by simp [Region.binds]) (by kernel_rfl)) s93
            have g100 := get_eq (hD 47 100 (by simp [Region.binds]) (by kernel_rfl)) s100
            refine ob_yes (wanted_yes rfl (by kernel_rfl) g93) ?_
            clear hF hD
            have c0 := cell_call k17 hB
            have c1 := cell_call k18 hB
            go_simp
            exact hK _ _ (Below.refl _ _) (rt_eq s101)
          refine obs_cons ?_ ?_
          · intro T w K hB hF hD hK
            have g93 := get_eq (hD 40 93 (by simp [Region.binds]) (by kernel_rfl)) s93
            have g95 := get_eq (hD 42 95 (by simp [Region.binds]) (by kernel_rfl)) s95
            have g97 := get_eq (hD 44 97 (by simp [Region.binds]) (by kernel_rfl)) s97
            have g99 := get_eq (hD 46 99 (by simp [Region.binds]) (by kernel_rfl)) s99
            have g101 := get_eq (hD 48 101 (by simp [Region.binds]) (by kernel_rfl)) s101
            refine ob_yes (wanted_yes rfl (by kernel_rfl) g93) ?_
            clear hF hD
            go_simp
            refine (cross_is y0 y1 y2 y3 y0 y1 y6 y7 true _ by0.inr by1.inr by2.inr by3.inr by0.inr by1.inr by6.inr by7.inr S4).mono ?_; rintro e w9 ⟨rfl, hb⟩
            exact hK _ _ hb (rt_eq s102)
          refine obs_cons ?_ ?_
          · intro T w K hB hF hD hK
            have g93 := get_eq (hD 40 93 (by simp [Region.binds]) (by kernel_rfl)) s93
            have g102 := get_eq (hD 49 102 (by simp [Region.binds]) (by kernel_rfl)) s102
            refine ob_yes (wanted_none rfl) ?_
            clear hF hD
            go_simp
            exact hK _ _ (Below.refl _ _) (rt_eq s103)
          refine obs_cons ?_ ?_
          · intro T w K hB hF hD hK
            have g103 := get_eq (hD 50 103 (by simp [Region.binds]) (by kernel_rfl)) s103
            refine ob_yes (wanted_none rfl) ?_
            clear hF hD
            go_simp
            exact hK _ _ (Below.refl _ _) (rt_eq s104)
          refine obs_cons ?_ ?_
          · intro T w K hB hF hD hK
            have g104 := get_eq (hD 51 104 (by simp [Region.binds]) (by kernel_rfl)) s104
            have g8 : T[8]? = some (.pointer (some ⟨w2.heap.size, 0, none⟩)) := (hF 8 (free_of (by kernel_rfl))).trans g8
            refine ob_yes (wanted_yes rfl (by kernel_rfl) g104) ?_
            clear hF hD
            go_simp
            exact hK _ _ (Below.refl _ _) (rt_eq s105)
          refine obs_cons ?_ ?_
          · intro T w K hB hF hD hK
            have g104 := get_eq (hD 51 104 (by simp [Region.binds]) (by kernel_rfl)) s104
            have g105 := get_eq (hD 52 105 (by simp [Region.binds]) (by kernel_rfl)) s105
            refine ob_yes (wanted_yes rfl (by kernel_rfl) g104) ?_
            clear hF hD
            have c0 := cell_call k11 hB
            have c1 := cell_call k12 hB
            go_simp
            exact hK _ _ (Below.refl _ _) (rt_eq s106)
          refine obs_cons ?_ ?_
          · intro T w K hB hF hD hK
            have g104 := get_eq (hD 51 104 (by simp [Region.binds]) (by kernel_rfl)) s104
            have g8 : T[8]? = some (.pointer (some ⟨w2.heap.size, 0, none⟩)) := (hF 8 (free_of (by kernel_rfl))).trans g8
            refine ob_yes (wanted_yes rfl (by kernel_rfl) g104) ?_
            clear hF hD
            go_simp
            exact hK _ _ (Below.refl _ _) (rt_eq s107)
          refine obs_cons ?_ ?_
          · intro T w K hB hF hD hK
            have g104 := get_eq (hD 51 104 (by simp [Region.binds]) (by kernel_rfl)) s104
            have g107 := get_eq (hD 54 107 (by simp [Region.binds]) (by kernel_rfl)) s107
            refine ob_yes (wanted_yes rfl (by kernel_rfl) g104) ?_
            clear hF hD
            have c0 := cell_call k13 hB
            have c1 := cell_call k14 hB
            go_simp
            exact hK _ _ (Below.refl _ _) (rt_eq s108)
          refine obs_cons ?_ ?_
          · intro T w K hB hF hD hK
            have g104 := get_eq (hD 51 104 (by simp [Region.binds]) (by kernel_rfl)) s104
            have g8 : T[8]? = some (.pointer (some ⟨w2.heap.size, 0, none⟩)) := (hF 8 (free_of (by kernel_rfl))).trans g8
            refine ob_yes (wanted_yes rfl (by kernel_rfl) g104) ?_
            clear hF hD
            go_simp
            exact hK _ _ (Below.refl _ _) (rt_eq s109)
          refine obs_cons ?_ ?_
          · intro T w K hB hF hD hK
            have g104 := get_eq (hD 51 104 (by simp [Region.binds]) (by kernel_rfl)) s104
            have g109 := get_eq (hD 56 109 (by simp [Region.binds]) (by kernel_rfl)) s109
            refine ob_yes (wanted_yes rfl (by kernel_rfl) g104) ?_
            clear hF hD
            have c0 := cell_call k11 hB
            have c1 := cell_call k12 hB
            go_simp
            exact hK _ _ (Below.refl _ _) (rt_eq s110)
          refine obs_cons ?_ ?_
          · intro T w K hB hF hD hK
            have g104 := get_eq (hD 51 104 (by simp [Region.binds]) (by kernel_rfl)) s104
            have g8 : T[8]? = some (.pointer (some ⟨w2.heap.size, 0, none⟩)) := (hF 8 (free_of (by kernel_rfl))).trans g8
            refine ob_yes (wanted_yes rfl (by kernel_rfl) g104) ?_
            clear hF hD
            go_simp
            exact hK _ _ (Below.refl _ _) (rt_eq s111)
          refine obs_cons ?_ ?_
          · intro T w K hB hF hD hK
            have g104 := get_eq (hD 51 104 (by simp [Region.binds]) (by kernel_rfl)) s104
            have g111 := get_eq (hD 58 111 (by simp [Region.binds]) (by kernel_rfl)) s111
            refine ob_yes (wanted_yes rfl (by kernel_rfl) g104) ?_
            clear hF hD
            have c0 := cell_call k13 hB
            have c1 := cell_call k14 hB
            go_simp
            exact hK _ _ (Below.refl _ _) (rt_eq s112)
          refine obs_cons ?_ ?_
          · intro T w K hB hF hD hK
            have g104 := get_eq (hD 51 104 (by simp [Region.binds]) (by kernel_rfl)) s104
            have g106 := get_eq (hD 53 106 (by simp [Region.binds]) (by kernel_rfl)) s106
            have g108 := get_eq (hD 55 108 (by simp [Region.binds]) (by kernel_rfl)) s108
            have g110 := get_eq (hD 57 110 (by simp [Region.binds]) (by kernel_rfl)) s110
            have g112 := get_eq (hD 59 112 (by simp [Region.binds]) (by kernel_rfl)) s112
            refine ob_yes (wanted_yes rfl (by kernel_rfl) g104) ?_
            clear hF hD
            go_simp
            refine (cross_is y0 y1 y2 y3 y0 y1 y2 y3 true _ by0.inr by1.inr by2.inr by3.inr by0.inr by1.inr by2.inr by3.inr S5).mono ?_; rintro e w9 ⟨rfl, hb⟩
            exact hK _ _ hb (rt_eq s113)
          refine obs_cons ?_ ?_
          · intro T w K hB hF hD hK
            have g104 := get_eq (hD 51 104 (by simp [Region.binds]) (by kernel_rfl)) s104
            have g113 := get_eq (hD 60 113 (by simp [Region.binds]) (by kernel_rfl)) s113
            refine ob_yes (wanted_none rfl) ?_
            clear hF hD
            go_simp
            exact hK _ _ (Below.refl _ _) (rt_eq s114)
          refine obs_cons ?_ ?_
          · intro T w K hB hF hD hK
            have g114 := get_eq (hD 61 114 (by simp [Region.binds]) (by kernel_rfl)) s114
            refine ob_yes (wanted_none rfl) ?_
            clear hF hD
            go_simp
            exact hK _ _ (Below.refl _ _) (rt_eq s6)
          exact obs_nil
        · intro T2 w6 hb hF hs hD
          have g6 := get_eq (hD 62 6 (by kernel_rfl)) s6
          have fin := Lib.hid (hB.trans (hb.mono hB.size))
          clear hF hD hs hb
          go_wp2_with fail
          refine bodyPost_ret (v := .bool true) (by simp [results, Try.results7, go_sem, g6]) rfl ?_
          exact ⟨rfl, fin.out⟩
    · obtain ⟨sp, hsp⟩ : ∃ sp : Told, sp = [none, none, none, none, none, none, none, none, none, none, none, none, none, none, none, none, none, none, none, none, none, none, none, none, none, none, some (.inl (.bool true)), some (.inl (.bool true)), some (.inl (.slice (some ⟨w2.heap.size, 0, none⟩) 2 4)), some (.inl (.slice (some ⟨w2.heap.size, 4, none⟩) 2 2)), some (.inl (.int .i64 0)), some (.inl (.bool false)), some (.inl (.bool false)), some (.inl (.bool false)), some (.inl (.pointer (some ⟨w2.heap.size, 0, none⟩))), some (.inl (.agg #[.int .i64 y0, .int .i64 y1])), some (.inl (.pointer (some ⟨w2.heap.size, 2, none⟩))), some (.inl (.agg #[.int .i64 y2, .int .i64 y3])), some (.inl (.agg #[.int .i64 r0, .int .i64 r1])), some (.inl (.bool true)), some (.inl (.bool true)), some (.inl (.pointer (some ⟨w2.heap.size, 4, none⟩))), some (.inl (.agg #[.int .i64 y4, .int .i64 y5])), some (.inl (.pointer (some ⟨w2.heap.size, 6, none⟩))), some (.inl (.agg #[.int .i64 y6, .int .i64 y7])), some (.inl (.agg #[.int .i64 r0, .int .i64 r1])), some (.inl (.bool true)), some (.inl (.bool true)), some (.inl (.bool true)), some (.inl (.bool true)), some (.inl (.bool false)), some (.inl (.bool false)), some (.inl (.bool false))] := ⟨_, rfl⟩
      have s26 : sp.getD 26 none = some (.inl (.bool true)) := by rw [hsp]; rfl
      have s27 : sp.getD 27 none = some (.inl (.bool true)) := by rw [hsp]; rfl
      have s28 : sp.getD 28 none = some (.inl (.slice (some ⟨w2.heap.size, 0, none⟩) 2 4)) := by rw [hsp]; rfl
      have s29 : sp.getD 29 none = some (.inl (.slice (some ⟨w2.heap.size, 4, none⟩) 2 2)) := by rw [hsp]; rfl
      have s30 : sp.getD 30 none = some (.inl (.int .i64 0)) := by rw [hsp]; rfl
      have s31 : sp.getD 31 none = some (.inl (.bool false)) := by rw [hsp]; rfl
      have s32 : sp.getD 32 none = some (.inl (.bool false)) := by rw [hsp]; rfl
      have s33 : sp.getD 33 none = some (.inl (.bool false)) := by rw [hsp]; rfl
      have s34 : sp.getD 34 none = some (.inl (.pointer (some ⟨w2.heap.size, 0, none⟩))) := by rw [hsp]; rfl
      have s35 : sp.getD 35 none = some (.inl (.agg #[.int .i64 y0, .int .i64 y1])) := by rw [hsp]; rfl
      have s36 : sp.getD 36 none = some (.inl (.pointer (some ⟨w2.heap.size, 2, none⟩))) := by rw [hsp]; rfl
      have s37 : sp.getD 37 none = some (.inl (.agg #[.int .i64 y2, .int .i64 y3])) := by rw [hsp]; rfl
      have s38 : sp.getD 38 none = some (.inl (.agg #[.int .i64 r0, .int .i64 r1])) := by rw [hsp]; rfl
      have s39 : sp.getD 39 none = some (.inl (.bool true)) := by rw [hsp]; rfl
      have s40 : sp.getD 40 none = some (.inl (.bool true)) := by rw [hsp]; rfl
      have s41 : sp.getD 41 none = some (.inl (.pointer (some ⟨w2.heap.size, 4, none⟩))) := by rw [hsp]; rfl
      have s42 : sp.getD 42 none = some (.inl (.agg #[.int .i64 y4, .int .i64 y5])) := by rw [hsp]; rfl
      have s43 : sp.getD 43 none = some (.inl (.pointer (some ⟨w2.heap.size, 6, none⟩))) := by rw [hsp]; rfl
      have s44 : sp.getD 44 none = some (.inl (.agg #[.int .i64 y6, .int .i64 y7])) := by rw [hsp]; rfl
      have s45 : sp.getD 45 none = some (.inl (.agg #[.int .i64 r0, .int .i64 r1])) := by rw [hsp]; rfl
      have s46 : sp.getD 46 none = some (.inl (.bool true)) := by rw [hsp]; rfl
      have s47 : sp.getD 47 none = some (.inl (.bool true)) := by rw [hsp]; rfl
      have s48 : sp.getD 48 none = some (.inl (.bool true)) := by rw [hsp]; rfl
      have s49 : sp.getD 49 none = some (.inl (.bool true)) := by rw [hsp]; rfl
      have s50 : sp.getD 50 none = some (.inl (.bool false)) := by rw [hsp]; rfl
      have s51 : sp.getD 51 none = some (.inl (.bool false)) := by rw [hsp]; rfl
      have s52 : sp.getD 52 none = some (.inl (.bool false)) := by rw [hsp]; rfl
      clear hsp
      refine region_obs sp (by kernel_rfl) (by kernel_rfl) ?_ ?_
      · rw [List.toList_toArray]
        refine obs_cons ?_ ?_
        · intro T w K hB hF hD hK
          have g9 : T[9]? = some (.bool true) := hF 9 (free_of (by kernel_rfl))
          refine ob_yes (wanted_none rfl) ?_
          clear hF hD
          go_simp
          exact hK _ _ (Below.refl _ _) (rt_eq s26)
        refine obs_cons ?_ ?_
        · intro T w K hB hF hD hK
          have g26 := get_eq (hD 0 26 (by simp [Region.binds]) (by kernel_rfl)) s26
          refine ob_yes (wanted_none rfl) ?_
          clear hF hD
          go_simp
          exact hK _ _ (Below.refl _ _) (rt_eq s27)
        refine obs_cons ?_ ?_
        · intro T w K hB hF hD hK
          have g27 := get_eq (hD 1 27 (by simp [Region.binds]) (by kernel_rfl)) s27
          have g8 : T[8]? = some (.pointer (some ⟨w2.heap.size, 0, none⟩)) := hF 8 (free_of (by kernel_rfl))
          refine ob_yes (wanted_yes rfl (by kernel_rfl) g27) ?_
          clear hF hD
          go_simp
          exact hK _ _ (Below.refl _ _) (rt_eq s28)
        refine obs_cons ?_ ?_
        · intro T w K hB hF hD hK
          have g27 := get_eq (hD 1 27 (by simp [Region.binds]) (by kernel_rfl)) s27
          have g8 : T[8]? = some (.pointer (some ⟨w2.heap.size, 0, none⟩)) := hF 8 (free_of (by kernel_rfl))
          refine ob_yes (wanted_yes rfl (by kernel_rfl) g27) ?_
          clear hF hD
          go_simp
          exact hK _ _ (Below.refl _ _) (rt_eq s29)
        refine obs_cons ?_ ?_
        · intro T w K hB hF hD hK
          have g27 := get_eq (hD 1 27 (by simp [Region.binds]) (by kernel_rfl)) s27
          have g28 := get_eq (hD 2 28 (by simp [Region.binds]) (by kernel_rfl)) s28
          have g29 := get_eq (hD 3 29 (by simp [Region.binds]) (by kernel_rfl)) s29
          refine ob_yes (wanted_yes rfl (by kernel_rfl) g27) ?_
          clear hF hD
          go_simp
          refine (boxs_is y0 y1 y2 y3 y4 y5 y6 y7 (w2.heap.size) 4 2 _ by0 by1 by2 by3 by4 by5 by6 by7 (cell_call k11 hB) (cell_call k12 hB) (cell_call k13 hB) (cell_call k14 hB) (cell_call k15 hB) (cell_call k16 hB) (cell_call k17 hB) (cell_call k18 hB) HV).mono ?_; rintro e w9 ⟨rfl, hb⟩
          exact hK _ _ hb (rt_eq s30)
        refine obs_cons ?_ ?_
        · intro T w K hB hF hD hK
          have g27 := get_eq (hD 1 27 (by simp [Region.binds]) (by kernel_rfl)) s27
          have g30 := get_eq (hD 4 30 (by simp [Region.binds]) (by kernel_rfl)) s30
          refine ob_yes (wanted_yes rfl (by kernel_rfl) g27) ?_
          clear hF hD
          go_simp
          exact hK _ _ (Below.refl _ _) (rt_eq s31)
        refine obs_cons ?_ ?_
        · intro T w K hB hF hD hK
          have g27 := get_eq (hD 1 27 (by simp [Region.binds]) (by kernel_rfl)) s27
          have g31 := get_eq (hD 5 31 (by simp [Region.binds]) (by kernel_rfl)) s31
          refine ob_yes (wanted_none rfl) ?_
          clear hF hD
          go_simp
          exact hK _ _ (Below.refl _ _) (rt_eq s32)
        refine obs_cons ?_ ?_
        · intro T w K hB hF hD hK
          have g32 := get_eq (hD 6 32 (by simp [Region.binds]) (by kernel_rfl)) s32
          refine ob_yes (wanted_none rfl) ?_
          clear hF hD
          go_simp
          exact hK _ _ (Below.refl _ _) (rt_eq s33)
        refine obs_cons ?_ ?_
        · intro T w K hB hF hD hK
          have g33 := get_eq (hD 7 33 (by simp [Region.binds]) (by kernel_rfl)) s33
          have g8 : T[8]? = some (.pointer (some ⟨w2.heap.size, 0, none⟩)) := hF 8 (free_of (by kernel_rfl))
          refine ob_yes (wanted_yes rfl (by kernel_rfl) g33) ?_
          clear hF hD
          go_simp
          exact hK _ _ (Below.refl _ _) (rt_eq s34)
        refine obs_cons ?_ ?_
        · intro T w K hB hF hD hK
          have g33 := get_eq (hD 7 33 (by simp [Region.binds]) (by kernel_rfl)) s33
          have g34 := get_eq (hD 8 34 (by simp [Region.binds]) (by kernel_rfl)) s34
          refine ob_yes (wanted_yes rfl (by kernel_rfl) g33) ?_
          clear hF hD
          have c0 := cell_call k11 hB
          have c1 := cell_call k12 hB
          go_simp
          exact hK _ _ (Below.refl _ _) (rt_eq s35)
        refine obs_cons ?_ ?_
        · intro T w K hB hF hD hK
          have g33 := get_eq (hD 7 33 (by simp [Region.binds]) (by kernel_rfl)) s33
          have g8 : T[8]? = some (.pointer (some ⟨w2.heap.size, 0, none⟩)) := hF 8 (free_of (by kernel_rfl))
          refine ob_yes (wanted_yes rfl (by kernel_rfl) g33) ?_
          clear hF hD
          go_simp
          exact hK _ _ (Below.refl _ _) (rt_eq s36)
        refine obs_cons ?_ ?_
        · intro T w K hB hF hD hK
          have g33 := get_eq (hD 7 33 (by simp [Region.binds]) (by kernel_rfl)) s33
          have g36 := get_eq (hD 10 36 (by simp [Region.binds]) (by kernel_rfl)) s36
          refine ob_yes (wanted_yes rfl (by kernel_rfl) g33) ?_
          clear hF hD
          have c0 := cell_call k13 hB
          have c1 := cell_call k14 hB
          go_simp
          exact hK _ _ (Below.refl _ _) (rt_eq s37)
        refine obs_cons ?_ ?_
        · intro T w K hB hF hD hK
          have g33 := get_eq (hD 7 33 (by simp [Region.binds]) (by kernel_rfl)) s33
          have g10 : T[10]? = some (.pointer (some ⟨w4.heap.size, 0, none⟩)) := hF 10 (free_of (by kernel_rfl))
          refine ob_yes (wanted_yes rfl (by kernel_rfl) g33) ?_
          clear hF hD
          have c0 := cell_call k19 hB
          have c1 := cell_call k20 hB
          go_simp
          exact hK _ _ (Below.refl _ _) (rt_eq s38)
        refine obs_cons ?_ ?_
        · intro T w K hB hF hD hK
          have g33 := get_eq (hD 7 33 (by simp [Region.binds]) (by kernel_rfl)) s33
          have g35 := get_eq (hD 9 35 (by simp [Region.binds]) (by kernel_rfl)) s35
          have g37 := get_eq (hD 11 37 (by simp [Region.binds]) (by kernel_rfl)) s37
          have g38 := get_eq (hD 12 38 (by simp [Region.binds]) (by kernel_rfl)) s38
          refine ob_yes (wanted_yes rfl (by kernel_rfl) g33) ?_
          clear hF hD
          go_simp
          refine (onseg_is y0 y1 y2 y3 r0 r1 true _ by0.inr by1.inr by2.inr by3.inr ir0 ir1 H1).mono ?_; rintro e w9 ⟨rfl, hb⟩
          exact hK _ _ hb (rt_eq s39)
        refine obs_cons ?_ ?_
        · intro T w K hB hF hD hK
          have g33 := get_eq (hD 7 33 (by simp [Region.binds]) (by kernel_rfl)) s33
          have g39 := get_eq (hD 13 39 (by simp [Region.binds]) (by kernel_rfl)) s39
          refine ob_yes (wanted_yes rfl (by kernel_rfl) g33) ?_
          clear hF hD
          go_simp
          exact hK _ _ (Below.refl _ _) (rt_eq s40)
        refine obs_cons ?_ ?_
        · intro T w K hB hF hD hK
          have g40 := get_eq (hD 14 40 (by simp [Region.binds]) (by kernel_rfl)) s40
          have g8 : T[8]? = some (.pointer (some ⟨w2.heap.size, 0, none⟩)) := hF 8 (free_of (by kernel_rfl))
          refine ob_yes (wanted_yes rfl (by kernel_rfl) g40) ?_
          clear hF hD
          go_simp
          exact hK _ _ (Below.refl _ _) (rt_eq s41)
        refine obs_cons ?_ ?_
        · intro T w K hB hF hD hK
          have g40 := get_eq (hD 14 40 (by simp [Region.binds]) (by kernel_rfl)) s40
          have g41 := get_eq (hD 15 41 (by simp [Region.binds]) (by kernel_rfl)) s41
          refine ob_yes (wanted_yes rfl (by kernel_rfl) g40) ?_
          clear hF hD
          have c0 := cell_call k15 hB
          have c1 := cell_call k16 hB
          go_simp
          exact hK _ _ (Below.refl _ _) (rt_eq s42)
        refine obs_cons ?_ ?_
        · intro T w K hB hF hD hK
          have g40 := get_eq (hD 14 40 (by simp [Region.binds]) (by kernel_rfl)) s40
          have g8 : T[8]? = some (.pointer (some ⟨w2.heap.size, 0, none⟩)) := hF 8 (free_of (by kernel_rfl))
          refine ob_yes (wanted_yes rfl (by kernel_rfl) g40) ?_
          clear hF hD
          go_simp
          exact hK _ _ (Below.refl _ _) (rt_eq s43)
        refine obs_cons ?_ ?_
        · intro T w K hB hF hD hK
          have g40 := get_eq (hD 14 40 (by simp [Region.binds]) (by kernel_rfl)) s40
          have g43 := get_eq (hD 17 43 (by simp [Region.binds]) (by kernel_rfl)) s43
          refine ob_yes (wanted_yes rfl (by kernel_rfl) g40) ?_
          clear hF hD
          have c0 := cell_call k17 hB
          have c1 := cell_call k18 hB
          go_simp
          exact hK _ _ (Below.refl _ _) (rt_eq s44)
        refine obs_cons ?_ ?_
        · intro T w K hB hF hD hK
          have g40 := get_eq (hD 14 40 (by simp [Region.binds]) (by kernel_rfl)) s40
          have g10 : T[10]? = some (.pointer (some ⟨w4.heap.size, 0, none⟩)) := hF 10 (free_of (by kernel_rfl))
          refine ob_yes (wanted_yes rfl (by kernel_rfl) g40) ?_
          clear hF hD
          have c0 := cell_call k19 hB
          have c1 := cell_call k20 hB
          go_simp
          exact hK _ _ (Below.refl _ _) (rt_eq s45)
        refine obs_cons ?_ ?_
        · intro T w K hB hF hD hK
          have g40 := get_eq (hD 14 40 (by simp [Region.binds]) (by kernel_rfl)) s40
          have g42 := get_eq (hD 16 42 (by simp [Region.binds]) (by kernel_rfl)) s42
          have g44 := get_eq (hD 18 44 (by simp [Region.binds]) (by kernel_rfl)) s44
          have g45 := get_eq (hD 19 45 (by simp [Region.binds]) (by kernel_rfl)) s45
          refine ob_yes (wanted_yes rfl (by kernel_rfl) g40) ?_
          clear hF hD
          go_simp
          refine (onseg_is y4 y5 y6 y7 r0 r1 true _ by4.inr by5.inr by6.inr by7.inr ir0 ir1 H2).mono ?_; rintro e w9 ⟨rfl, hb⟩
          exact hK _ _ hb (rt_eq s46)
        refine obs_cons ?_ ?_
        · intro T w K hB hF hD hK
          have g33 := get_eq (hD 7 33 (by simp [Region.binds]) (by kernel_rfl)) s33
          have g40 := get_eq (hD 14 40 (by simp [Region.binds]) (by kernel_rfl)) s40
          have g46 := get_eq (hD 20 46 (by simp [Region.binds]) (by kernel_rfl)) s46
          refine ob_yes (wanted_yes rfl (by kernel_rfl) g33) ?_
          clear hF hD
          go_simp
          exact hK _ _ (Below.refl _ _) (rt_eq s47)
        refine obs_cons ?_ ?_
        · intro T w K hB hF hD hK
          have g33 := get_eq (hD 7 33 (by simp [Region.binds]) (by kernel_rfl)) s33
          have g47 := get_eq (hD 21 47 (by simp [Region.binds]) (by kernel_rfl)) s47
          refine ob_yes (wanted_yes rfl (by kernel_rfl) g33) ?_
          clear hF hD
          go_simp
          exact hK _ _ (Below.refl _ _) (rt_eq s48)
        refine obs_cons ?_ ?_
        · intro T w K hB hF hD hK
          have g48 := get_eq (hD 22 48 (by simp [Region.binds]) (by kernel_rfl)) s48
          have g9 : T[9]? = some (.bool true) := hF 9 (free_of (by kernel_rfl))
          refine ob_yes (wanted_yes rfl (by kernel_rfl) g48) ?_
          clear hF hD
          go_simp
          exact hK _ _ (Below.refl _ _) (rt_eq s49)
        refine obs_cons ?_ ?_
        · intro T w K hB hF hD hK
          have g48 := get_eq (hD 22 48 (by simp [Region.binds]) (by kernel_rfl)) s48
          have g49 := get_eq (hD 23 49 (by simp [Region.binds]) (by kernel_rfl)) s49
          refine ob_yes (wanted_yes rfl (by kernel_rfl) g48) ?_
          clear hF hD
          go_simp
          exact hK _ _ (Below.refl _ _) (rt_eq s50)
        refine obs_cons ?_ ?_
        · intro T w K hB hF hD hK
          have g33 := get_eq (hD 7 33 (by simp [Region.binds]) (by kernel_rfl)) s33
          have g48 := get_eq (hD 22 48 (by simp [Region.binds]) (by kernel_rfl)) s48
          have g50 := get_eq (hD 24 50 (by simp [Region.binds]) (by kernel_rfl)) s50
          refine ob_yes (wanted_yes rfl (by kernel_rfl) g33) ?_
          clear hF hD
          go_simp
          exact hK _ _ (Below.refl _ _) (rt_eq s51)
        refine obs_cons ?_ ?_
        · intro T w K hB hF hD hK
          have g33 := get_eq (hD 7 33 (by simp [Region.binds]) (by kernel_rfl)) s33
          have g51 := get_eq (hD 25 51 (by simp [Region.binds]) (by kernel_rfl)) s51
          refine ob_yes (wanted_none rfl) ?_
          clear hF hD
          go_simp
          exact hK _ _ (Below.refl _ _) (rt_eq s52)
        exact obs_nil
      · intro T w5 hb5 hF hs hD
        have g7 : T[7]? = some (.bool true) := hF 7 (free_of (by kernel_rfl))
        have g8 : T[8]? = some (.pointer (some ⟨w2.heap.size, 0, none⟩)) := hF 8 (free_of (by kernel_rfl))
        have g9 : T[9]? = some (.bool true) := hF 9 (free_of (by kernel_rfl))
        have g52 := get_eq (hD 26 52 (by kernel_rfl)) s52
        have hsz : T.size = 115 := hs
        clear hF hD hs s26 s27 s28 s29 s30 s31 s32 s33 s34 s35 s36 s37 s38 s39 s40 s41 s42 s43 s44 s45 s46 s47 s48 s49 s50 s51 s52 sp
        replace k11 := cell_call k11 hb5
        replace k12 := cell_call k12 hb5
        replace k13 := cell_call k13 hb5
        replace k14 := cell_call k14 hb5
        replace k15 := cell_call k15 hb5
        replace k16 := cell_call k16 hb5
        replace k17 := cell_call k17 hb5
        replace k18 := cell_call k18 hb5
        replace k19 := cell_call k19 hb5
        replace k20 := cell_call k20 hb5
        replace hB := belT hB hb5
        clear hb5 H1 H2 K HV
        go_upto_region 7 with fail
        refine wp_cond_false (getd g52) ?_
        go_upto_region 7 with fail
        obtain ⟨sp, hsp⟩ : ∃ sp : Told, sp = [none, none, none, none, none, none, some (.inl (.bool true)), none, none, none, none, none, none, none, none, none, none, none, none, none, none, none, none, none, none, none, none, none, none, none, none, none, none, none, none, none, none, none, none, none, none, none, none, none, none, none, none, none, none, none, none, none, none, some (.inl (.bool true)), some (.inl (.bool true)), some (.inl (.pointer (some ⟨w2.heap.size, 2, none⟩))), some (.inl (.agg #[.int .i64 y2, .int .i64 y3])), some (.inl (.pointer (some ⟨w2.heap.size, 0, none⟩))), some (.inl (.agg #[.int .i64 y0, .int .i64 y1])), some (.inl (.pointer (some ⟨w2.heap.size, 4, none⟩))), some (.inl (.agg #[.int .i64 y4, .int .i64 y5])), some (.inl (.pointer (some ⟨w2.heap.size, 6, none⟩))), some (.inl (.agg #[.int .i64 y6, .int .i64 y7])), some (.inl (.bool true)), some (.inl (.bool true)), some (.inl (.bool true)), some (.inl (.bool true)), some (.inl (.bool true)), some (.inl (.pointer (some ⟨w2.heap.size, 0, none⟩))), some (.inl (.agg #[.int .i64 y0, .int .i64 y1])), some (.inl (.pointer (some ⟨w2.heap.size, 2, none⟩))), some (.inl (.agg #[.int .i64 y2, .int .i64 y3])), some (.inl (.pointer (some ⟨w2.heap.size, 6, none⟩))), some (.inl (.agg #[.int .i64 y6, .int .i64 y7])), some (.inl (.pointer (some ⟨w2.heap.size, 4, none⟩))), some (.inl (.agg #[.int .i64 y4, .int .i64 y5])), some (.inl (.bool true)), some (.inl (.bool true)), some (.inl (.bool true)), some (.inl (.bool true)), some (.inl (.bool true)), some (.inl (.pointer (some ⟨w2.heap.size, 4, none⟩))), some (.inl (.agg #[.int .i64 y4, .int .i64 y5])), some (.inl (.pointer (some ⟨w2.heap.size, 6, none⟩))), some (.inl (.agg #[.int .i64 y6, .int .i64 y7])), some (.inl (.pointer (some ⟨w2.heap.size, 0, none⟩))), some (.inl (.agg #[.int .i64 y0, .int .i64 y1])), some (.inl (.pointer (some ⟨w2.heap.size, 2, none⟩))), some (.inl (.agg #[.int .i64 y2, .int .i64 y3])), some (.inl (.bool true)), some (.inl (.bool true)), some (.inl (.bool true)), some (.inl (.bool true)), some (.inl (.bool true)), some (.inl (.pointer (some ⟨w2.heap.size, 0, none⟩))), some (.inl (.agg #[.int .i64 y0, .int .i64 y1])), some (.inl (.pointer (some ⟨w2.heap.size, 2, none⟩))), some (.inl (.agg #[.int .i64 y2, .int .i64 y3])), some (.inl (.pointer (some ⟨w2.heap.size, 0, none⟩))), some (.inl (.agg #[.int .i64 y0, .int .i64 y1])), some (.inl (.pointer (some ⟨w2.heap.size, 6, none⟩))), some (.inl (.agg #[.int .i64 y6, .int .i64 y7])), some (.inl (.bool true)), some (.inl (.bool true)), some (.inl (.bool true)), some (.inl (.pointer (some ⟨w2.heap.size, 0, none⟩))), some (.inl (.agg #[.int .i64 y0, .int .i64 y1])), some (.inl (.pointer (some ⟨w2.heap.size, 2, none⟩))), some (.inl (.agg #[.int .i64 y2, .int .i64 y3])), some (.inl (.pointer (some ⟨w2.heap.size, 0, none⟩))), some (.inl (.agg #[.int .i64 y0, .int .i64 y1])), some (.inl (.pointer (some ⟨w2.heap.size, 2, none⟩))), some (.inl (.agg #[.int .i64 y2, .int .i64 y3])), some (.inl (.bool true)), some (.inl (.bool true))] := ⟨_, rfl⟩
        have s6 : sp.getD 6 none = some (.inl (.bool true)) := by rw [hsp]; rfl
        have s53 : sp.getD 53 none = some (.inl (.bool true)) := by rw [hsp]; rfl
        have s54 : sp.getD 54 none = some (.inl (.bool true)) := by rw [hsp]; rfl
        have s55 : sp.getD 55 none = some (.inl (.pointer (some ⟨w2.heap.size, 2, none⟩))) := by rw [hsp]; rfl
        have s56 : sp.getD 56 none = some (.inl (.agg #[.int .i64 y2, .int .i64 y3])) := by rw [hsp]; rfl
        have s57 : sp.getD 57 none = some (.inl (.pointer (some ⟨w2.heap.size, 0, none⟩))) := by rw [hsp]; rfl
        have s58 : sp.getD 58 none = some (.inl (.agg #[.int .i64 y0, .int .i64 y1])) := by rw [hsp]; rfl
        have s59 : sp.getD 59 none = some (.inl (.pointer (some ⟨w2.heap.size, 4, none⟩))) := by rw [hsp]; rfl
        have s60 : sp.getD 60 none = some (.inl (.agg #[.int .i64 y4, .int .i64 y5])) := by rw [hsp]; rfl
        have s61 : sp.getD 61 none = some (.inl (.pointer (some ⟨w2.heap.size, 6, none⟩))) := by rw [hsp]; rfl
        have s62 : sp.getD 62 none = some (.inl (.agg #[.int .i64 y6, .int .i64 y7])) := by rw [hsp]; rfl
        have s63 : sp.getD 63 none = some (.inl (.bool true)) := by rw [hsp]; rfl
        have s64 : sp.getD 64 none = some (.inl (.bool true)) := by rw [hsp]; rfl
        have s65 : sp.getD 65 none = some (.inl (.bool true)) := by rw [hsp]; rfl
        have s66 : sp.getD 66 none = some (.inl (.bool true)) := by rw [hsp]; rfl
        have s67 : sp.getD 67 none = some (.inl (.bool true)) := by rw [hsp]; rfl
        have s68 : sp.getD 68 none = some (.inl (.pointer (some ⟨w2.heap.size, 0, none⟩))) := by rw [hsp]; rfl
        have s69 : sp.getD 69 none = some (.inl (.agg #[.int .i64 y0, .int .i64 y1])) := by rw [hsp]; rfl
        have s70 : sp.getD 70 none = some (.inl (.pointer (some ⟨w2.heap.size, 2, none⟩))) := by rw [hsp]; rfl
        have s71 : sp.getD 71 none = some (.inl (.agg #[.int .i64 y2, .int .i64 y3])) := by rw [hsp]; rfl
        have s72 : sp.getD 72 none = some (.inl (.pointer (some ⟨w2.heap.size, 6, none⟩))) := by rw [hsp]; rfl
        have s73 : sp.getD 73 none = some (.inl (.agg #[.int .i64 y6, .int .i64 y7])) := by rw [hsp]; rfl
        have s74 : sp.getD 74 none = some (.inl (.pointer (some ⟨w2.heap.size, 4, none⟩))) := by rw [hsp]; rfl
        have s75 : sp.getD 75 none = some (.inl (.agg #[.int .i64 y4, .int .i64 y5])) := by rw [hsp]; rfl
        have s76 : sp.getD 76 none = some (.inl (.bool true)) := by rw [hsp]; rfl
        have s77 : sp.getD 77 none = some (.inl (.bool true)) := by rw [hsp]; rfl
        have s78 : sp.getD 78 none = some (.inl (.bool true)) := by rw [hsp]; rfl
        have s79 : sp.getD 79 none = some (.inl (.bool true)) := by rw [hsp]; rfl
        have s80 : sp.getD 80 none = some (.inl (.bool true)) := by rw [hsp]; rfl
        have s81 : sp.getD 81 none = some (.inl (.pointer (some ⟨w2.heap.size, 4, none⟩))) := by rw [hsp]; rfl
        have s82 : sp.getD 82 none = some (.inl (.agg #[.int .i64 y4, .int .i64 y5])) := by rw [hsp]; rfl
        have s83 : sp.getD 83 none = some (.inl (.pointer (some ⟨w2.heap.size, 6, none⟩))) := by rw [hsp]; rfl
        have s84 : sp.getD 84 none = some (.inl (.agg #[.int .i64 y6, .int .i64 y7])) := by rw [hsp]; rfl
        have s85 : sp.getD 85 none = some (.inl (.pointer (some ⟨w2.heap.size, 0, none⟩))) := by rw [hsp]; rfl
        have s86 : sp.getD 86 none = some (.inl (.agg #[.int .i64 y0, .int .i64 y1])) := by rw [hsp]; rfl
        have s87 : sp.getD 87 none = some (.inl (.pointer (some ⟨w2.heap.size, 2, none⟩))) := by rw [hsp]; rfl
        have s88 : sp.getD 88 none = some (.inl (.agg #[.int .i64 y2, .int .i64 y3])) := by rw [hsp]; rfl
        have s89 : sp.getD 89 none = some (.inl (.bool true)) := by rw [hsp]; rfl
        have s90 : sp.getD 90 none = some (.inl (.bool true)) := by rw [hsp]; rfl
        have s91 : sp.getD 91 none = some (.inl (.bool true)) := by rw [hsp]; rfl
        have s92 : sp.getD 92 none = some (.inl (.bool true)) := by rw [hsp]; rfl
        have s93 : sp.getD 93 none = some (.inl (.bool true)) := by rw [hsp]; rfl
        have s94 : sp.getD 94 none = some (.inl (.pointer (some ⟨w2.heap.size, 0, none⟩))) := by rw [hsp]; rfl
        have s95 : sp.getD 95 none = some (.inl (.agg #[.int .i64 y0, .int .i64 y1])) := by rw [hsp]; rfl
        have s96 : sp.getD 96 none = some (.inl (.pointer (some ⟨w2.heap.size, 2, none⟩))) := by rw [hsp]; rfl
        have s97 : sp.getD 97 none = some (.inl (.agg #[.int .i64 y2, .int .i64 y3])) := by rw [hsp]; rfl
        have s98 : sp.getD 98 none = some (.inl (.pointer (some ⟨w2.heap.size, 0, none⟩))) := by rw [hsp]; rfl
        have s99 : sp.getD 99 none = some (.inl (.agg #[.int .i64 y0, .int .i64 y1])) := by rw [hsp]; rfl
        have s100 : sp.getD 100 none = some (.inl (.pointer (some ⟨w2.heap.size, 6, none⟩))) := by rw [hsp]; rfl
        have s101 : sp.getD 101 none = some (.inl (.agg #[.int .i64 y6, .int .i64 y7])) := by rw [hsp]; rfl
        have s102 : sp.getD 102 none = some (.inl (.bool true)) := by rw [hsp]; rfl
        have s103 : sp.getD 103 none = some (.inl (.bool true)) := by rw [hsp]; rfl
        have s104 : sp.getD 104 none = some (.inl (.bool true)) := by rw [hsp]; rfl
        have s105 : sp.getD 105 none = some (.inl (.pointer (some ⟨w2.heap.size, 0, none⟩))) := by rw [hsp]; rfl
        have s106 : sp.getD 106 none = some (.inl (.agg #[.int .i64 y0, .int .i64 y1])) := by rw [hsp]; rfl
        have s107 : sp.getD 107 none = some (.inl (.pointer (some ⟨w2.heap.size, 2, none⟩))) := by rw [hsp]; rfl
        have s108 : sp.getD 108 none = some (.inl (.agg #[.int .i64 y2, .int .i64 y3])) := by rw [hsp]; rfl
        have s109 : sp.getD 109 none = some (.inl (.pointer (some ⟨w2.heap.size, 0, none⟩))) := by rw [hsp]; rfl
        have s110 : sp.getD 110 none = some (.inl (.agg #[.int .i64 y0, .int .i64 y1])) := by rw [hsp]; rfl
        have s111 : sp.getD 111 none = some (.inl (.pointer (some ⟨w2.heap.size, 2, none⟩))) := by rw [hsp]; rfl
        have s112 : sp.getD 112 none = some (.inl (.agg #[.int .i64 y2, .int .i64 y3])) := by rw [hsp]; rfl
        have s113 : sp.getD 113 none = some (.inl (.bool true)) := by rw [hsp]; rfl
        have s114 : sp.getD 114 none = some (.inl (.bool true)) := by rw [hsp]; rfl
        clear hsp
        refine region_text sp (by rw [hsz]; kernel_rfl) ?_ ?_
        · rw [List.toList_toArray]
          refine obs_cons ?_ ?_
          · intro T w K hB hF hD hK
            have g7 : T[7]? = some (.bool true) := (hF 7 (free_of (by kernel_rfl))).trans g7
            refine ob_yes (wanted_none rfl) ?_
            clear hF hD
            go_simp
            exact hK _ _ (Below.refl _ _) (rt_eq s53)
          refine obs_cons ?_ ?_
          · intro T w K hB hF hD hK
            have g53 := get_eq (hD 0 53 (by simp [Region.binds]) (by kernel_rfl)) s53
            refine ob_yes (wanted_none rfl) ?_
            clear hF hD
            go_simp
            exact hK _ _ (Below.refl _ _) (rt_eq s54)
          refine obs_cons ?_ ?_
          · intro T w K hB hF hD hK
            have g54 := get_eq (hD 1 54 (by simp [Region.binds]) (by kernel_rfl)) s54
            have g8 : T[8]? = some (.pointer (some ⟨w2.heap.size, 0, none⟩)) := (hF 8 (free_of (by kernel_rfl))).trans g8
            refine ob_yes (wanted_yes rfl (by kernel_rfl) g54) ?_
            clear hF hD
            go_simp
            exact hK _ _ (Below.refl _ _) (rt_eq s55)
          refine obs_cons ?_ ?_
          · intro T w K hB hF hD hK
            have g54 := get_eq (hD 1 54 (by simp [Region.binds]) (by kernel_rfl)) s54
            have g55 := get_eq (hD 2 55 (by simp [Region.binds]) (by kernel_rfl)) s55
            refine ob_yes (wanted_yes rfl (by kernel_rfl) g54) ?_
            clear hF hD
            have c0 := cell_call k13 hB
            have c1 := cell_call k14 hB
            go_simp
            exact hK _ _ (Below.refl _ _) (rt_eq s56)
          refine obs_cons ?_ ?_
          · intro T w K hB hF hD hK
            have g54 := get_eq (hD 1 54 (by simp [Region.binds]) (by kernel_rfl)) s54
            have g8 : T[8]? = some (.pointer (some ⟨w2.heap.size, 0, none⟩)) := (hF 8 (free_of (by kernel_rfl))).trans g8
            refine ob_yes (wanted_yes rfl (by kernel_rfl) g54) ?_
            clear hF hD
            go_simp
            exact hK _ _ (Below.refl _ _) (rt_eq s57)
          refine obs_cons ?_ ?_
          · intro T w K hB hF hD hK
            have g54 := get_eq (hD 1 54 (by simp [Region.binds]) (by kernel_rfl)) s54
            have g57 := get_eq (hD 4 57 (by simp [Region.binds]) (by kernel_rfl)) s57
            refine ob_yes (wanted_yes rfl (by kernel_rfl) g54) ?_
            clear hF hD
            have c0 := cell_call k11 hB
            have c1 := cell_call k12 hB
            go_simp
            exact hK _ _ (Below.refl _ _) (rt_eq s58)
          refine obs_cons ?_ ?_
          · intro T w K hB hF hD hK
            have g54 := get_eq (hD 1 54 (by simp [Region.binds]) (by kernel_rfl)) s54
            have g8 : T[8]? = some (.pointer (some ⟨w2.heap.size, 0, none⟩)) := (hF 8 (free_of (by kernel_rfl))).trans g8
            refine ob_yes (wanted_yes rfl (by kernel_rfl) g54) ?_
            clear hF hD
            go_simp
            exact hK _ _ (Below.refl _ _) (rt_eq s59)
          refine obs_cons ?_ ?_
          · intro T w K hB hF hD hK
            have g54 := get_eq (hD 1 54 (by simp [Region.binds]) (by kernel_rfl)) s54
            have g59 := get_eq (hD 6 59 (by simp [Region.binds]) (by kernel_rfl)) s59
            refine ob_yes (wanted_yes rfl (by kernel_rfl) g54) ?_
            clear hF hD
            have c0 := cell_call k15 hB
            have c1 := cell_call k16 hB
            go_simp
            exact hK _ _ (Below.refl _ _) (rt_eq s60)
          refine obs_cons ?_ ?_
          · intro T w K hB hF hD hK
            have g54 := get_eq (hD 1 54 (by simp [Region.binds]) (by kernel_rfl)) s54
            have g8 : T[8]? = some (.pointer (some ⟨w2.heap.size, 0, none⟩)) := (hF 8 (free_of (by kernel_rfl))).trans g8
            refine ob_yes (wanted_yes rfl (by kernel_rfl) g54) ?_
            clear hF hD
            go_simp
            exact hK _ _ (Below.refl _ _) (rt_eq s61)
          refine obs_cons ?_ ?_
          · intro T w K hB hF hD hK
            have g54 := get_eq (hD 1 54 (by simp [Region.binds]) (by kernel_rfl)) s54
            have g61 := get_eq (hD 8 61 (by simp [Region.binds]) (by kernel_rfl)) s61
            refine ob_yes (wanted_yes rfl (by kernel_rfl) g54) ?_
            clear hF hD
            have c0 := cell_call k17 hB
            have c1 := cell_call k18 hB
            go_simp
            exact hK _ _ (Below.refl _ _) (rt_eq s62)
          refine obs_cons ?_ ?_
          · intro T w K hB hF hD hK
            have g54 := get_eq (hD 1 54 (by simp [Region.binds]) (by kernel_rfl)) s54
            have g56 := get_eq (hD 3 56 (by simp [Region.binds]) (by kernel_rfl)) s56
            have g58 := get_eq (hD 5 58 (by simp [Region.binds]) (by kernel_rfl)) s58
            have g60 := get_eq (hD 7 60 (by simp [Region.binds]) (by kernel_rfl)) s60
            have g62 := get_eq (hD 9 62 (by simp [Region.binds]) (by kernel_rfl)) s62
            refine ob_yes (wanted_yes rfl (by kernel_rfl) g54) ?_
            clear hF hD
            go_simp
            refine (cross_is y2 y3 y0 y1 y4 y5 y6 y7 true _ by2.inr by3.inr by0.inr by1.inr by4.inr by5.inr by6.inr by7.inr S1).mono ?_; rintro e w9 ⟨rfl, hb⟩
            exact hK _ _ hb (rt_eq s63)
          refine obs_cons ?_ ?_
          · intro T w K hB hF hD hK
            have g54 := get_eq (hD 1 54 (by simp [Region.binds]) (by kernel_rfl)) s54
            have g9 : T[9]? = some (.bool true) := (hF 9 (free_of (by kernel_rfl))).trans g9
            refine ob_yes (wanted_yes rfl (by kernel_rfl) g54) ?_
            clear hF hD
            go_simp
            exact hK _ _ (Below.refl _ _) (rt_eq s64)
          refine obs_cons ?_ ?_
          · intro T w K hB hF hD hK
            have g54 := get_eq (hD 1 54 (by simp [Region.binds]) (by kernel_rfl)) s54
            have g63 := get_eq (hD 10 63 (by simp [Region.binds]) (by kernel_rfl)) s63
            have g64 := get_eq (hD 11 64 (by simp [Region.binds]) (by kernel_rfl)) s64
            refine ob_yes (wanted_yes rfl (by kernel_rfl) g54) ?_
            clear hF hD
            go_simp
            exact hK _ _ (Below.refl _ _) (rt_eq s65)
          refine obs_cons ?_ ?_
          · intro T w K hB hF hD hK
            have g54 := get_eq (hD 1 54 (by simp [Region.binds]) (by kernel_rfl)) s54
            have g65 := get_eq (hD 12 65 (by simp [Region.binds]) (by kernel_rfl)) s65
            refine ob_yes (wanted_none rfl) ?_
            clear hF hD
            go_simp
            exact hK _ _ (Below.refl _ _) (rt_eq s66)
          refine obs_cons ?_ ?_
          · intro T w K hB hF hD hK
            have g66 := get_eq (hD 13 66 (by simp [Region.binds]) (by kernel_rfl)) s66
            refine ob_yes (wanted_none rfl) ?_
            clear hF hD
            go_simp
            exact hK _ _ (Below.refl _ _) (rt_eq s67)
          refine obs_cons ?_ ?_
          · intro T w K hB hF hD hK
            have g67 := get_eq (hD 14 67 (by simp [Region.binds]) (by kernel_rfl)) s67
            have g8 : T[8]? = some (.pointer (some ⟨w2.heap.size, 0, none⟩)) := (hF 8 (free_of (by kernel_rfl))).trans g8
            refine ob_yes (wanted_yes rfl (by kernel_rfl) g67) ?_
            clear hF hD
            go_simp
            exact hK _ _ (Below.refl _ _) (rt_eq s68)
          refine obs_cons ?_ ?_
          · intro T w K hB hF hD hK
            have g67 := get_eq (hD 14 67 (by simp [Region.binds]) (by kernel_rfl)) s67
            have g68 := get_eq (hD 15 68 (by simp [Region.binds]) (by kernel_rfl)) s68
            refine ob_yes (wanted_yes rfl (by kernel_rfl) g67) ?_
            clear hF hD
            have c0 := cell_call k11 hB
            have c1 := cell_call k12 hB
            go_simp
            exact hK _ _ (Below.refl _ _) (rt_eq s69)
          refine obs_cons ?_ ?_
          · intro T w K hB hF hD hK
            have g67 := get_eq (hD 14 67 (by simp [Region.binds]) (by kernel_rfl)) s67
            have g8 : T[8]? = some (.pointer (some ⟨w2.heap.size, 0, none⟩)) := (hF 8 (free_of (by kernel_rfl))).trans g8
            refine ob_yes (wanted_yes rfl (by kernel_rfl) g67) ?_
            clear hF hD
            go_simp
            exact hK _ _ (Below.refl _ _) (rt_eq s70)
          refine obs_cons ?_ ?_
          · intro T w K hB hF hD hK
            have g67 := get_eq (hD 14 67 (by simp [Region.binds]) (by kernel_rfl)) s67
            have g70 := get_eq (hD 17 70 (by simp [Region.binds]) (by kernel_rfl)) s70
            refine ob_yes (wanted_yes rfl (by kernel_rfl) g67) ?_
            clear hF hD
            have c0 := cell_call k13 hB
            have c1 := cell_call k14 hB
            go_simp
            exact hK _ _ (Below.refl _ _) (rt_eq s71)
          refine obs_cons ?_ ?_
          · intro T w K hB hF hD hK
            have g67 := get_eq (hD 14 67 (by simp [Region.binds]) (by kernel_rfl)) s67
            have g8 : T[8]? = some (.pointer (some ⟨w2.heap.size, 0, none⟩)) := (hF 8 (free_of (by kernel_rfl))).trans g8
            refine ob_yes (wanted_yes rfl (by kernel_rfl) g67) ?_
            clear hF hD
            go_simp
            exact hK _ _ (Below.refl _ _) (rt_eq s72)
          refine obs_cons ?_ ?_
          · intro T w K hB hF hD hK
            have g67 := get_eq (hD 14 67 (by simp [Region.binds]) (by kernel_rfl)) s67
            have g72 := get_eq (hD 19 72 (by simp [Region.binds]) (by kernel_rfl)) s72
            refine ob_yes (wanted_yes rfl (by kernel_rfl) g67) ?_
            clear hF hD
            have c0 := cell_call k17 hB
            have c1 := cell_call k18 hB
            go_simp
            exact hK _ _ (Below.refl _ _) (rt_eq s73)
          refine obs_cons ?_ ?_
          · intro T w K hB hF hD hK
            have g67 := get_eq (hD 14 67 (by simp [Region.binds]) (by kernel_rfl)) s67
            have g8 : T[8]? = some (.pointer (some ⟨w2.heap.size, 0, none⟩)) := (hF 8 (free_of (by kernel_rfl))).trans g8
            refine ob_yes (wanted_yes rfl (by kernel_rfl) g67) ?_
            clear hF hD
            go_simp
            exact hK _ _ (Below.refl _ _) (rt_eq s74)
          refine obs_cons ?_ ?_
          · intro T w K hB hF hD hK
            have g67 := get_eq (hD 14 67 (by simp [Region.binds]) (by kernel_rfl)) s67
            have g74 := get_eq (hD 21 74 (by simp [Region.binds]) (by kernel_rfl)) s74
            refine ob_yes (wanted_yes rfl (by kernel_rfl) g67) ?_
            clear hF hD
            have c0 := cell_call k15 hB
            have c1 := cell_call k16 hB
            go_simp
            exact hK _ _ (Below.refl _ _) (rt_eq s75)
          refine obs_cons ?_ ?_
          · intro T w K hB hF hD hK
            have g67 := get_eq (hD 14 67 (by simp [Region.binds]) (by kernel_rfl)) s67
            have g69 := get_eq (hD 16 69 (by simp [Region.binds]) (by kernel_rfl)) s69
            have g71 := get_eq (hD 18 71 (by simp [Region.binds]) (by kernel_rfl)) s71
            have g73 := get_eq (hD 20 73 (by simp [Region.binds]) (by kernel_rfl)) s73
            have g75 := get_eq (hD 22 75 (by simp [Region.binds]) (by kernel_rfl)) s75
            refine ob_yes (wanted_yes rfl (by kernel_rfl) g67) ?_
            clear hF hD
            go_simp
            refine (cross_is y0 y1 y2 y3 y6 y7 y4 y5 true _ by0.inr by1.inr by2.inr by3.inr by6.inr by7.inr by4.inr by5.inr S2).mono ?_; rintro e w9 ⟨rfl, hb⟩
            exact hK _ _ hb (rt_eq s76)
          refine obs_cons ?_ ?_
          · intro T w K hB hF hD hK
            have g67 := get_eq (hD 14 67 (by simp [Region.binds]) (by kernel_rfl)) s67
            have g9 : T[9]? = some (.bool true) := (hF 9 (free_of (by kernel_rfl))).trans g9
            refine ob_yes (wanted_yes rfl (by kernel_rfl) g67) ?_
            clear hF hD
            go_simp
            exact hK _ _ (Below.refl _ _) (rt_eq s77)
          refine obs_cons ?_ ?_
          · intro T w K hB hF hD hK
            have g67 := get_eq (hD 14 67 (by simp [Region.binds]) (by kernel_rfl)) s67
            have g76 := get_eq (hD 23 76 (by simp [Region.binds]) (by kernel_rfl)) s76
            have g77 := get_eq (hD 24 77 (by simp [Region.binds]) (by kernel_rfl)) s77
            refine ob_yes (wanted_yes rfl (by kernel_rfl) g67) ?_
            clear hF hD
            go_simp
            exact hK _ _ (Below.refl _ _) (rt_eq s78)
          refine obs_cons ?_ ?_
          · intro T w K hB hF hD hK
            have g67 := get_eq (hD 14 67 (by simp [Region.binds]) (by kernel_rfl)) s67
            have g78 := get_eq (hD 25 78 (by simp [Region.binds]) (by kernel_rfl)) s78
            refine ob_yes (wanted_none rfl) ?_
            clear hF hD
            go_simp
            exact hK _ _ (Below.refl _ _) (rt_eq s79)
          refine obs_cons ?_ ?_
          · intro T w K hB hF hD hK
            have g79 := get_eq (hD 26 79 (by simp [Region.binds]) (by kernel_rfl)) s79
            refine ob_yes (wanted_none rfl) ?_
            clear hF hD
            go_simp
            exact hK _ _ (Below.refl _ _) (rt_eq s80)
          refine obs_cons ?_ ?_
          · intro T w K hB hF hD hK
            have g80 := get_eq (hD 27 80 (by simp [Region.binds]) (by kernel_rfl)) s80
            have g8 : T[8]? = some (.pointer (some ⟨w2.heap.size, 0, none⟩)) := (hF 8 (free_of (by kernel_rfl))).trans g8
            refine ob_yes (wanted_yes rfl (by kernel_rfl) g80) ?_
            clear hF hD
            go_simp
            exact hK _ _ (Below.refl _ _) (rt_eq s81)
          refine obs_cons ?_ ?_
          · intro T w K hB hF hD hK
            have g80 := get_eq (hD 27 80 (by simp [Region.binds]) (by kernel_rfl)) s80
            have g81 := get_eq (hD 28 81 (by simp [Region.binds]) (by kernel_rfl)) s81
            refine ob_yes (wanted_yes rfl (by kernel_rfl) g80) ?_
            clear hF hD
            have c0 := cell_call k15 hB
            have c1 := cell_call k16 hB
            go_simp
            exact hK _ _ (Below.refl _ _) (rt_eq s82)
          refine obs_cons ?_ ?_
          · intro T w K hB hF hD hK
            have g80 := get_eq (hD 27 80 (by simp [Region.binds]) (by kernel_rfl)) s80
            have g8 : T[8]? = some (.pointer (some ⟨w2.heap.size, 0, none⟩)) := (hF 8 (free_of (by kernel_rfl))).trans g8
            refine ob_yes (wanted_yes rfl (by kernel_rfl) g80) ?_
            clear hF hD
            go_simp
            exact hK _ _ (Below.refl _ _) (rt_eq s83)
          refine obs_cons ?_ ?_
          · intro T w K hB hF hD hK
            have g80 := get_eq (hD 27 80 (by simp [Region.binds]) (by kernel_rfl)) s80
            have g83 := get_eq (hD 30 83 (by simp [Region.binds]) (by kernel_rfl)) s83
            refine ob_yes (wanted_yes rfl (by kernel_rfl) g80) ?_
            clear hF hD
            have c0 := cell_call k17 hB
            have c1 := cell_call k18 hB
            go_simp
            exact hK _ _ (Below.refl _ _) (rt_eq s84)
          refine obs_cons ?_ ?_
          · intro T w K hB hF hD hK
            have g80 := get_eq (hD 27 80 (by simp [Region.binds]) (by kernel_rfl)) s80
            have g8 : T[8]? = some (.pointer (some ⟨w2.heap.size, 0, none⟩)) := (hF 8 (free_of (by kernel_rfl))).trans g8
            refine ob_yes (wanted_yes rfl (by kernel_rfl) g80) ?_
            clear hF hD
            go_simp
            exact hK _ _ (Below.refl _ _) (rt_eq s85)
          refine obs_cons ?_ ?_
          · intro T w K hB hF hD hK
            have g80 := get_eq (hD 27 80 (by simp [Region.binds]) (by kernel_rfl)) s80
            have g85 := get_eq (hD 32 85 (by simp [Region.binds]) (by kernel_rfl)) s85
            refine ob_yes (wanted_yes rfl (by kernel_rfl) g80) ?_
            clear hF hD
            have c0 := cell_call k11 hB
            have c1 := cell_call k12 hB
            go_simp
            exact hK _ _ (Below.refl _ _) (rt_eq s86)
          refine obs_cons ?_ ?_
          · intro T w K hB hF hD hK
            have g80 := get_eq (hD 27 80 (by simp [Region.binds]) (by kernel_rfl)) s80
            have g8 : T[8]? = some (.pointer (some ⟨w2.heap.size, 0, none⟩)) := (hF 8 (free_of (by kernel_rfl))).trans g8
            refine ob_yes (wanted_yes rfl (by kernel_rfl) g80) ?_
            clear hF hD
            go_simp
            exact hK _ _ (Below.refl _ _) (rt_eq s87)
          refine obs_cons ?_ ?_
          · intro T w K hB hF hD hK
            have g80 := get_eq (hD 27 80 (by simp [Region.binds]) (by kernel_rfl)) s80
            have g87 := get_eq (hD 34 87 (by simp [Region.binds]) (by kernel_rfl)) s87
            refine ob_yes (wanted_yes rfl (by kernel_rfl) g80) ?_
            clear hF hD
            have c0 := cell_call k13 hB
            have c1 := cell_call k14 hB
            go_simp
            exact hK _ _ (Below.refl _ _) (rt_eq s88)
          refine obs_cons ?_ ?_
          · intro T w K hB hF hD hK
            have g80 := get_eq (hD 27 80 (by simp [Region.binds]) (by kernel_rfl)) s80
            have g82 := get_eq (hD 29 82 (by simp [Region.binds]) (by kernel_rfl)) s82
            have g84 := get_eq (hD 31 84 (by simp [Region.binds]) (by kernel_rfl)) s84
            have g86 := get_eq (hD 33 86 (by simp [Region.binds]) (by kernel_rfl)) s86
            have g88 := get_eq (hD 35 88 (by simp [Region.binds]) (by kernel_rfl)) s88
            refine ob_yes (wanted_yes rfl (by kernel_rfl) g80) ?_
            clear hF hD
            go_simp
            refine (cross_is y4 y5 y6 y7 y0 y1 y2 y3 true _ by4.inr by5.inr by6.inr by7.inr by0.inr by1.inr by2.inr by3.inr S3).mono ?_; rintro e w9 ⟨rfl, hb⟩
            exact hK _ _ hb (rt_eq s89)
          refine obs_cons ?_ ?_
          · intro T w K hB hF hD hK
            have g80 := get_eq (hD 27 80 (by simp [Region.binds]) (by kernel_rfl)) s80
            have g9 : T[9]? = some (.bool true) := (hF 9 (free_of (by kernel_rfl))).trans g9
            refine ob_yes (wanted_yes rfl (by kernel_rfl) g80) ?_
            clear hF hD
            go_simp
            exact hK _ _ (Below.refl _ _) (rt_eq s90)
          refine obs_cons ?_ ?_
          · intro T w K hB hF hD hK
            have g80 := get_eq (hD 27 80 (by simp [Region.binds]) (by kernel_rfl)) s80
            have g89 := get_eq (hD 36 89 (by simp [Region.binds]) (by kernel_rfl)) s89
            have g90 := get_eq (hD 37 90 (by simp [Region.binds]) (by kernel_rfl)) s90
            refine ob_yes (wanted_yes rfl (by kernel_rfl) g80) ?_
            clear hF hD
            go_simp
            exact hK _ _ (Below.refl _ _) (rt_eq s91)
          refine obs_cons ?_ ?_
          · intro T w K hB hF hD hK
            have g80 := get_eq (hD 27 80 (by simp [Region.binds]) (by kernel_rfl)) s80
            have g91 := get_eq (hD 38 91 (by simp [Region.binds]) (by kernel_rfl)) s91
            refine ob_yes (wanted_none rfl) ?_
            clear hF hD
            go_simp
            exact hK _ _ (Below.refl _ _) (rt_eq s92)
          refine obs_cons ?_ ?_
          · intro T w K hB hF hD hK
            have g92 := get_eq (hD 39 92 (by simp [Region.binds]) (by kernel_rfl)) s92
            refine ob_yes (wanted_none rfl) ?_
            clear hF hD
            go_simp
            exact hK _ _ (Below.refl _ _) (rt_eq s93)
          refine obs_cons ?_ ?_
          · intro T w K hB hF hD hK
            have g93 := get_eq (hD 40 93 (by simp [Region.binds]) (by kernel_rfl)) s93
            have g8 : T[8]? = some (.pointer (some ⟨w2.heap.size, 0, none⟩)) := (hF 8 (free_of (by kernel_rfl))).trans g8
            refine ob_yes (wanted_yes rfl (by kernel_rfl) g93) ?_
            clear hF hD
            go_simp
            exact hK _ _ (Below.refl _ _) (rt_eq s94)
          refine obs_cons ?_ ?_
          · intro T w K hB hF hD hK
            have g93 := get_eq (hD 40 93 (by simp [Region.binds]) (by kernel_rfl)) s93
            have g94 := get_eq (hD 41 94 (by simp [Region.binds]) (by kernel_rfl)) s94
            refine ob_yes (wanted_yes rfl (by kernel_rfl) g93) ?_
            clear hF hD
            have c0 := cell_call k11 hB
            have c1 := cell_call k12 hB
            go_simp
            exact hK _ _ (Below.refl _ _) (rt_eq s95)
          refine obs_cons ?_ ?_
          · intro T w K hB hF hD hK
            have g93 := get_eq (hD 40 93 (by simp [Region.binds]) (by kernel_rfl)) s93
            have g8 : T[8]? = some (.pointer (some ⟨w2.heap.size, 0, none⟩)) := (hF 8 (free_of (by kernel_rfl))).trans g8
            refine ob_yes (wanted_yes rfl (by kernel_rfl) g93) ?_
            clear hF hD
            go_simp
            exact hK _ _ (Below.refl _ _) (rt_eq s96)
          refine obs_cons ?_ ?_
          · intro T w K hB hF hD hK
            have g93 := get_eq (hD 40 93 (by simp [Region.binds]) (by kernel_rfl)) s93
            have g96 := get_eq (hD 43 96 (by simp [Region.binds]) (by kernel_rfl)) s96
            refine ob_yes (wanted_yes rfl (by kernel_rfl) g93) ?_
            clear hF hD
            have c0 := cell_call k13 hB
            have c1 := cell_call k14 hB
            go_simp
            exact hK _ _ (Below.refl _ _) (rt_eq s97)
          refine obs_cons ?_ ?_
          · intro T w K hB hF hD hK
            have g93 := get_eq (hD 40 93 (by simp [Region.binds]) (by kernel_rfl)) s93
            have g8 : T[8]? = some (.pointer (some ⟨w2.heap.size, 0, none⟩)) := (hF 8 (free_of (by kernel_rfl))).trans g8
            refine ob_yes (wanted_yes rfl (by kernel_rfl) g93) ?_
            clear hF hD
            go_simp
            exact hK _ _ (Below.refl _ _) (rt_eq s98)
          refine obs_cons ?_ ?_
          · intro T w K hB hF hD hK
            have g93 := get_eq (hD 40 93 (by simp [Region.binds]) (by kernel_rfl)) s93
            have g98 := get_eq (hD 45 98 (by simp [Region.binds]) (by kernel_rfl)) s98
            refine ob_yes (wanted_yes rfl (by kernel_rfl) g93) ?_
            clear hF hD
            have c0 := cell_call k11 hB
            have c1 := cell_call k12 hB
            go_simp
            exact hK _ _ (Below.refl _ _) (rt_eq s99)
          refine obs_cons ?_ ?_
          · intro T w K hB hF hD hK
            have g93 := get_eq (hD 40 93 (by simp [Region.binds]) (by kernel_rfl)) s93
            have g8 : T[8]? = some (.pointer (some ⟨w2.heap.size, 0, none⟩)) := (hF 8 (free_of (by kernel_rfl))).trans g8
            refine ob_yes (wanted_yes rfl (by kernel_rfl) g93) ?_
            clear hF hD
            go_simp
            exact hK _ _ (Below.refl _ _) (rt_eq s100)
          refine obs_cons ?_ ?_
          · intro T w K hB hF hD hK
            have g93 := get_eq (hD 40 93 (by simp [Region.binds]) (by kernel_rfl)) s93
            have g100 := get_eq (hD 47 100 (by simp [Region.binds]) (by kernel_rfl)) s100
            refine ob_yes (wanted_yes rfl (by kernel_rfl) g93) ?_
            clear hF hD
            have c0 := cell_call k17 hB
            have c1 := cell_call k18 hB
            go_simp
            exact hK _ _ (Below.refl _ _) (rt_eq s101)
          refine obs_cons ?_ ?_
          · intro T w K hB hF hD hK
            have g93 := get_eq (hD 40 93 (by simp [Region.binds]) (by kernel_rfl)) s93
            have g95 := get_eq (hD 42 95 (by simp [Region.binds]) (by kernel_rfl)) s95
            have g97 := get_eq (hD 44 97 (by simp [Region.binds]) (by kernel_rfl)) s97
            have g99 := get_eq (hD 46 99 (by simp [Region.binds]) (by kernel_rfl)) s99
            have g101 := get_eq (hD 48 101 (by simp [Region.binds]) (by kernel_rfl)) s101
            refine ob_yes (wanted_yes rfl (by kernel_rfl) g93) ?_
            clear hF hD
            go_simp
            refine (cross_is y0 y1 y2 y3 y0 y1 y6 y7 true _ by0.inr by1.inr by2.inr by3.inr by0.inr by1.inr by6.inr by7.inr S4).mono ?_; rintro e w9 ⟨rfl, hb⟩
            exact hK _ _ hb (rt_eq s102)
          refine obs_cons ?_ ?_
          · intro T w K hB hF hD hK
            have g93 := get_eq (hD 40 93 (by simp [Region.binds]) (by kernel_rfl)) s93
            have g102 := get_eq (hD 49 102 (by simp [Region.binds]) (by kernel_rfl)) s102
            refine ob_yes (wanted_none rfl) ?_
            clear hF hD
            go_simp
            exact hK _ _ (Below.refl _ _) (rt_eq s103)
          refine obs_cons ?_ ?_
          · intro T w K hB hF hD hK
            have g103 := get_eq (hD 50 103 (by simp [Region.binds]) (by kernel_rfl)) s103
            refine ob_yes (wanted_none rfl) ?_
            clear hF hD
            go_simp
            exact hK _ _ (Below.refl _ _) (rt_eq s104)
          refine obs_cons ?_ ?_
          · intro T w K hB hF hD hK
            have g104 := get_eq (hD 51 104 (by simp [Region.binds]) (by kernel_rfl)) s104
            have g8 : T[8]? = some (.pointer (some ⟨w2.heap.size, 0, none⟩)) := (hF 8 (free_of (by kernel_rfl))).trans g8
            refine ob_yes (wanted_yes rfl (by kernel_rfl) g104) ?_
            clear hF hD
            go_simp
            exact hK _ _ (Below.refl _ _) (rt_eq s105)
          refine obs_cons ?_ ?_
          · intro T w K hB hF hD hK
            have g104 := get_eq (hD 51 104 (by simp [Region.binds]) (by kernel_rfl)) s104
            have g105 := get_eq (hD 52 105 (by simp [Region.binds]) (by kernel_rfl)) s105
            refine ob_yes (wanted_yes rfl (by kernel_rfl) g104) ?_
            clear hF hD
            have c0 := cell_call k11 hB
            have c1 := cell_call k12 hB
            go_simp
            exact hK _ _ (Below.refl _ _) (rt_eq s106)
          refine obs_cons ?_ ?_
          · intro T w K hB hF hD hK
            have g104 := get_eq (hD 51 104 (by simp [Region.binds]) (by kernel_rfl)) s104
            have g8 : T[8]? = some (.pointer (some ⟨w2.heap.size, 0, none⟩)) := (hF 8 (free_of (by kernel_rfl))).trans g8
            refine ob_yes (wanted_yes rfl (by kernel_rfl) g104) ?_
            clear hF hD
            go_simp
            exact hK _ _ (Below.refl _ _) (rt_eq s107)
          refine obs_cons ?_ ?_
          · intro T w K hB hF hD hK
            have g104 := get_eq (hD 51 104 (by simp [Region.binds]) (by kernel_rfl)) s104
            have g107 := get_eq (hD 54 107 (by simp [Region.binds]) (by kernel_rfl)) s107
            refine ob_yes (wanted_yes rfl (by kernel_rfl) g104) ?_
            clear hF hD
            have c0 := cell_call k13 hB
            have c1 := cell_call k14 hB
            go_simp
            exact hK _ _ (Below.refl _ _) (rt_eq s108)
          refine obs_cons ?_ ?_
          · intro T w K hB hF hD hK
            have g104 := get_eq (hD 51 104 (by simp [Region.binds]) (by kernel_rfl)) s104
            have g8 : T[8]? = some (.pointer (some ⟨w2.heap.size, 0, none⟩)) := (hF 8 (free_of (by kernel_rfl))).trans g8
            refine ob_yes (wanted_yes rfl (by kernel_rfl) g104) ?_
            clear hF hD
            go_simp
            exact hK _ _ (Below.refl _ _) (rt_eq s109)
          refine obs_cons ?_ ?_
          · intro T w K hB hF hD hK
            have g104 := get_eq (hD 51 104 (by simp [Region.binds]) (by kernel_rfl)) s104
            have g109 := get_eq (hD 56 109 (by simp [Region.binds]) (by kernel_rfl)) s109
            refine ob_yes (wanted_yes rfl (by kernel_rfl) g104) ?_
            clear hF hD
            have c0 := cell_call k11 hB
            have c1 := cell_call k12 hB
            go_simp
            exact hK _ _ (Below.refl _ _) (rt_eq s110)
          refine obs_cons ?_ ?_
          · intro T w K hB hF hD hK
            have g104 := get_eq (hD 51 104 (by simp [Region.binds]) (by kernel_rfl)) s104
            have g8 : T[8]? = some (.pointer (some ⟨w2.heap.size, 0, none⟩)) := (hF 8 (free_of (by kernel_rfl))).trans g8
            refine ob_yes (wanted_yes rfl (by kernel_rfl) g104) ?_
            clear hF hD
            go_simp
            exact hK _ _ (Below.refl _ _) (rt_eq s111)
          refine obs_cons ?_ ?_
          · intro T w K hB hF hD hK
            have g104 := get_eq (hD 51 104 (by simp [Region.binds]) (by kernel_rfl)) s104
            have g111 := get_eq (hD 58 111 (by simp [Region.binds]) (by kernel_rfl)) s111
            refine ob_yes (wanted_yes rfl (by kernel_rfl) g104) ?_
            clear hF hD
            have c0 := cell_call k13 hB
            have c1 := cell_call k14 hB
            go_simp
            exact hK _ _ (Below.refl _ _) (rt_eq s112)
          refine obs_cons ?_ ?_
          · intro T w K hB hF hD hK
            have g104 := get_eq (hD 51 104 (by simp [Region.binds]) (by kernel_rfl)) s104
            have g106 := get_eq (hD 53 106 (by simp [Region.binds]) (by kernel_rfl)) s106
            have g108 := get_eq (hD 55 108 (by simp [Region.binds]) (by kernel_rfl)) s108
            have g110 := get_eq (hD 57 110 (by simp [Region.binds]) (by kernel_rfl)) s110
            have g112 := get_eq (hD 59 112 (by simp [Region.binds]) (by kernel_rfl)) s112
            refine ob_yes (wanted_yes rfl (by kernel_rfl) g104) ?_
            clear hF hD
            go_simp
            refine (cross_is y0 y1 y2 y3 y0 y1 y2 y3 true _ by0.inr by1.inr by2.inr by3.inr by0.inr by1.inr by2.inr by3.inr S5).mono ?_; rintro e w9 ⟨rfl, hb⟩
            exact hK _ _ hb (rt_eq s113)
          refine obs_cons ?_ ?_
          · intro T w K hB hF hD hK
            have g104 := get_eq (hD 51 104 (by simp [Region.binds]) (by kernel_rfl)) s104
            have g113 := get_eq (hD 60 113 (by simp [Region.binds]) (by kernel_rfl)) s113
            refine ob_yes (wanted_none rfl) ?_
            clear hF hD
            go_simp
            exact hK _ _ (Below.refl _ _) (rt_eq s114)
          refine obs_cons ?_ ?_
          · intro T w K hB hF hD hK
            have g114 := get_eq (hD 61 114 (by simp [Region.binds]) (by kernel_rfl)) s114
            refine ob_yes (wanted_none rfl) ?_
            clear hF hD
            go_simp
            exact hK _ _ (Below.refl _ _) (rt_eq s6)
          exact obs_nil
        · intro T2 w6 hb hF hs hD
          have g6 := get_eq (hD 62 6 (by kernel_rfl)) s6
          have fin := Lib.hid (hB.trans (hb.mono hB.size))
          clear hF hD hs hb
          go_wp2_with fail
          refine bodyPost_ret (v := .bool true) (by simp [results, Try.results7, go_sem, g6]) rfl ?_
          exact ⟨rfl, fin.out⟩

theorem walk (x0 x1 x2 x3 x4 x5 x6 x7 : Int) (s : Bool) (q0 q1 : Int) (w : World) :
    Calls Try.prog 7 #[.agg #[.int .i64 x0, .int .i64 x1, .int .i64 x2, .int .i64 x3, .int .i64 x4, .int .i64 x5, .int .i64 x6, .int .i64 x7], .bool s, .agg #[.int .i64 q0, .int .i64 q1]] w fun e w' => e = .returned (.bool true) ∧ Below w.heap.size w w' := by
  obtain ⟨y0, y1, y2, y3, y4, y5, y6, y7, ⟨b0, b1, b2, b3, b4, b5, b6, b7⟩, HP⟩ := pick_is x0 x1 x2 x3 x4 x5 x6 x7 s
  cases h : segB y0 y1 y2 y3 y4 y5 y6 y7
  · exact walk_false x0 x1 x2 x3 x4 x5 x6 x7 s q0 q1 w y0 y1 y2 y3 y4 y5 y6 y7 b0 b1 b2 b3 b4 b5 b6 b7 HP h
  · exact walk_true x0 x1 x2 x3 x4 x5 x6 x7 s q0 q1 w y0 y1 y2 y3 y4 y5 y6 y7 b0 b1 b2 b3 b4 b5 b6 b7 HP h

set_option maxRecDepth 100000 in
theorem lifted (os : Os) (started : os.Started) (H : Type) (enc : TypeId × Value → H) :
    ReturnsInHanded {} Try.checked os 7 .any (Rows.geomSymmetricSpec.pre6 enc Try.prog Try.f7 Rows.geomSymmetricRow.domain false) (Rows.geomSymmetricSpec.post enc Try.prog Try.f7 false true false false) := by
  refine returnsInHanded_of_change (C := Try.checked) own started (by kernel_rfl) Try.func7
    (ChangeSpec.witness6 (enc := enc) (C := Try.checked) false ⟨#[], #[.agg #[.int .i64 0, .int .i64 0, .int .i64 0, .int .i64 0, .int .i64 0, .int .i64 0, .int .i64 0, .int .i64 0], .bool false, .agg #[.int .i64 0, .int .i64 0]], []⟩ 8 (by kernel_rfl) (by kernel_rfl) (by kernel_rfl) (by kernel_rfl)) ?_
  intro W base args ds gs before hval0 hW hcnd _
  have hval : ∀ (j : Nat) t v, Try.f7.params[j]? = some t → args[j]? = some v → Value.okWide Try.prog W .any base t v := hval0
  have hW' := hW
  obtain ⟨p, q, hA0, hV, rfl, hfz, hnd⟩ := hW
  have hA : DataW.TrodAll enc Try.prog W 0 (fun _ => true) true Try.f7.params.toList args.toList ds p := hA0
  rw [Try.params7] at hA hval
  obtain ⟨v0, vs0, d0, ds0, p0, q0, hargs, rfl, rfl, h0, r0⟩ := trodAll_cons hA
  obtain ⟨v1, vs1, d1, ds1, p1, q1, rfl, rfl, rfl, h1, r1⟩ := trodAll_cons r0
  obtain ⟨v2, vs2, d2, ds2, p2, q2, rfl, rfl, rfl, h2, r2⟩ := trodAll_cons r1
  obtain ⟨rfl, rfl, rfl⟩ := trodAll_nil r2
  obtain rfl : args = #[v0, v1, v2] := by cases args; simp_all
  obtain ⟨rfl, rfl⟩ := trodVars_none hV
  have k0 := h0
  have lt0 : ∀ x ∈ p0, x.block < W.heap.size := by obtain ⟨m, hm⟩ := k0; exact DataW.trod_lt m _ _ _ hm
  obtain ⟨x00, x01, x02, x03, x04, x05, x06, x07, rfl⟩ := open_four (hval 0 24 v0 rfl rfl) h0
  obtain ⟨a1, rfl, rfl, rfl⟩ := open_bool Try.underlying4 (hval 1 4 v1 rfl rfl) h1
  have k2 := h2
  have lt2 : ∀ x ∈ p2, x.block < W.heap.size := by obtain ⟨m, hm⟩ := k2; exact DataW.trod_lt m _ _ _ hm
  obtain ⟨x2, y2, rfl⟩ := open_pt (hval 2 23 v2 rfl rfl) h2
  clear hA0 hval0
  refine (walk x00 x01 x02 x03 x04 x05 x06 x07 a1 x2 y2 W).mono fun e W' ⟨he, bel⟩ => ?_
  subst he
  exact ⟨_, rfl, _, _, _, [], _, [], hW', trodAll_mk1 (shut_bool Try.underlying4 _), (trodAll_cons_mk (Below.trod laidOut (by kernel_rfl) (of_decide_eq_true (by kernel_rfl)) k0 bel lt0) (trodAll_cons_mk (shut_bool Try.underlying4 _) (trodAll_cons_mk (Below.trod laidOut (by kernel_rfl) (of_decide_eq_true (by kernel_rfl)) k2 bel lt2) trodAll_mk0))), rfl, bel.frame _, fun h => by cases h⟩

/-- THE STATEMENT. -/
theorem holds : Rows.GeomSymmetricSaid :=
  OpenClaim.holds_of_wide 7 Try.f7 rfl rfl rfl rfl rfl rfl rfl ⟨rfl, rfl, rfl, rfl, rfl⟩ rfl rfl rfl rfl rfl (by kernel_rfl) Try.func7 (by kernel_rfl)
    (of_decide_eq_true (by kernel_rfl)) (by unfold Func.isWrapper; first | (rw [if_pos (by decide +kernel)]; kernel_rfl) | (rw [if_neg (by decide +kernel)]; exact ⟨rfl, rfl⟩))
    (fun os started H enc _ => lifted os started H enc)
#print axioms holds
end Go.Proofs.Ytbkbdejmnhpdeaa.geomSymmetric
