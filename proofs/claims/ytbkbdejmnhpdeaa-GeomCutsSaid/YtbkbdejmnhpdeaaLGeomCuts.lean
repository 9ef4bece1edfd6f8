/- Proved: two segments that are not parallel meet exactly if the common point of their lines lies on both; parallel or degenerate ones exactly if one holds an end of the other (the law GeomCuts returns true).
Conditions: none on the arguments: for all four points and both values of the flag. -/
import Derived.Test.YtbkbdejmnhpdeaaGeoSh
import Derived.Test.YtbkbdejmnhpdeaaGeoFr
namespace Go.Proofs.Ytbkbdejmnhpdeaa.geomCuts
open Go.ChangeShapes Go.WideShapes Go.ChangeAt Go.RowKit
set_option linter.unusedVariables false

set_option maxRecDepth 100000 in
set_option maxHeartbeats 16000000 in
theorem walk_par (x0 x1 x2 x3 x4 x5 x6 x7 : Int) (s : Bool) (w : World) (y0 y1 y2 y3 y4 y5 y6 y7 : Int) (by0 : InY y0) (by1 : InY y1) (by2 : InY y2) (by3 : InY y3) (by4 : InY y4) (by5 : InY y5) (by6 : InY y6) (by7 : InY y7) (HP : Hid (∀ w : World, Calls Try.prog 11 #[.agg #[.int .i64 x0, .int .i64 x1, .int .i64 x2, .int .i64 x3, .int .i64 x4, .int .i64 x5, .int .i64 x6, .int .i64 x7], .bool s] w fun e w' => e = .returned (.agg #[.int .i64 y0, .int .i64 y1, .int .i64 y2, .int .i64 y3, .int .i64 y4, .int .i64 y5, .int .i64 y6, .int .i64 y7]) ∧ Below w.heap.size w w')) (hD : dD y0 y1 y2 y3 y4 y5 y6 y7 = 0) :
    Calls Try.prog 6 #[.agg #[.int .i64 x0, .int .i64 x1, .int .i64 x2, .int .i64 x3, .int .i64 x4, .int .i64 x5, .int .i64 x6, .int .i64 x7], .bool s] w fun e w' => e = .returned (.bool true) ∧ Below w.heap.size w w' := by
  have i1 := dify by2 by0
  have i2 := dify by7 by5
  have i3 := dify by3 by1
  have i4 := dify by6 by4
  obtain ⟨m1, n1⟩ := prod_bd i1 i2
  obtain ⟨m2, n2⟩ := prod_bd i3 i4
  obtain ⟨i11, i12⟩ := i1
  obtain ⟨i21, i22⟩ := i2
  obtain ⟨i31, i32⟩ := i3
  obtain ⟨i41, i42⟩ := i4
  have eD : (y2 - y0) * (y7 - y5) - (y3 - y1) * (y6 - y4) = 0 := hD
  have E := seg_par hD
  obtain ⟨e1, h1⟩ : ∃ x, onB y0 y1 y2 y3 y4 y5 = x := ⟨_, rfl⟩
  obtain ⟨e2, h2⟩ : ∃ x, onB y0 y1 y2 y3 y6 y7 = x := ⟨_, rfl⟩
  obtain ⟨e3, h3⟩ : ∃ x, onB y4 y5 y6 y7 y0 y1 = x := ⟨_, rfl⟩
  obtain ⟨e4, h4⟩ : ∃ x, onB y4 y5 y6 y7 y2 y3 = x := ⟨_, rfl⟩
  rw [h1, h2, h3, h4] at E
  obtain ⟨v, hv⟩ : ∃ x, ((e1 || e2) || (e3 || e4)) = x := ⟨_, rfl⟩
  rw [hv] at E
  have HE := Lib.hid E
  have HV := Lib.hid hv
  have G1 := Lib.hid h1
  have G2 := Lib.hid h2
  have G3 := Lib.hid h3
  have G4 := Lib.hid h4
  clear E h1 h2 h3 h4 hD hv
  have hB : Below w.heap.size w w := Below.refl _ _
  go_enter Try.func6, Try.ntmps6
  go_wp2_with fail
  refine (head_any _).mono ?_; rintro e w1 ⟨rfl, hb⟩
  have k1 : w1.cell? ⟨w.heap.size, 0, none⟩ = some (.int .i64 x0) := cell_call (cbx w #[.int .i64 x0, .int .i64 x1, .int .i64 x2, .int .i64 x3, .int .i64 x4, .int .i64 x5, .int .i64 x6, .int .i64 x7] 24 (w.heap.size) 0 (.int .i64 x0) (by simp) rfl) hb
  have k2 : w1.cell? ⟨w.heap.size, 1, none⟩ = some (.int .i64 x1) := cell_call (cbx w #[.int .i64 x0, .int .i64 x1, .int .i64 x2, .int .i64 x3, .int .i64 x4, .int .i64 x5, .int .i64 x6, .int .i64 x7] 24 (w.heap.size) 1 (.int .i64 x1) (by simp) rfl) hb
  have k3 : w1.cell? ⟨w.heap.size, 2, none⟩ = some (.int .i64 x2) := cell_call (cbx w #[.int .i64 x0, .int .i64 x1, .int .i64 x2, .int .i64 x3, .int .i64 x4, .int .i64 x5, .int .i64 x6, .int .i64 x7] 24 (w.heap.size) 2 (.int .i64 x2) (by simp) rfl) hb
  have k4 : w1.cell? ⟨w.heap.size, 3, none⟩ = some (.int .i64 x3) := cell_call (cbx w #[.int .i64 x0, .int .i64 x1, .int .i64 x2, .int .i64 x3, .int .i64 x4, .int .i64 x5, .int .i64 x6, .int .i64 x7] 24 (w.heap.size) 3 (.int .i64 x3) (by simp) rfl) hb
  have k5 : w1.cell? ⟨w.heap.size, 4, none⟩ = some (.int .i64 x4) := cell_call (cbx w #[.int .i64 x0, .int .i64 x1, .int .i64 x2, .int .i64 x3, .int .i64 x4, .int .i64 x5, .int .i64 x6, .int .i64 x7] 24 (w.heap.size) 4 (.int .i64 x4) (by simp) rfl) hb
  have k6 : w1.cell? ⟨w.heap.size, 5, none⟩ = some (.int .i64 x5) := cell_call (cbx w #[.int .i64 x0, .int .i64 x1, .int .i64 x2, .int .i64 x3, .int .i64 x4, .int .i64 x5, .int .i64 x6, .int .i64 x7] 24 (w.heap.size) 5 (.int .i64 x5) (by simp) rfl) hb
  have k7 : w1.cell? ⟨w.heap.size, 6, none⟩ = some (.int .i64 x6) := cell_call (cbx w #[.int .i64 x0, .int .i64 x1, .int .i64 x2, .int .i64 x3, .int .i64 x4, .int .i64 x5, .int .i64 x6, .int .i64 x7] 24 (w.heap.size) 6 (.int .i64 x6) (by simp) rfl) hb
  have k8 : w1.cell? ⟨w.heap.size, 7, none⟩ = some (.int .i64 x7) := cell_call (cbx w #[.int .i64 x0, .int .i64 x1, .int .i64 x2, .int .i64 x3, .int .i64 x4, .int .i64 x5, .int .i64 x6, .int .i64 x7] 24 (w.heap.size) 7 (.int .i64 x7) (by simp) rfl) hb
  replace hB := belT (belA hB _) hb
  clear hb
  have zk1 : w.heap.size < w1.heap.size := World.block_lt_of_cell? w1 _ k1
  go_wp2_with fail
  refine (HP.out _).mono ?_; rintro e w2 ⟨rfl, hb⟩
  replace k1 : w2.cell? ⟨w.heap.size, 0, none⟩ = some (.int .i64 x0) := cell_call k1 hb
  replace k2 : w2.cell? ⟨w.heap.size, 1, none⟩ = some (.int .i64 x1) := cell_call k2 hb
  replace k3 : w2.cell? ⟨w.heap.size, 2, none⟩ = some (.int .i64 x2) := cell_call k3 hb
  replace k4 : w2.cell? ⟨w.heap.size, 3, none⟩ = some (.int .i64 x3) := cell_call k4 hb
  replace k5 : w2.cell? ⟨w.heap.size, 4, none⟩ = some (.int .i64 x4) := cell_call k5 hb
  replace k6 : w2.cell? ⟨w.heap.size, 5, none⟩ = some (.int .i64 x5) := cell_call k6 hb
  replace k7 : w2.cell? ⟨w.heap.size, 6, none⟩ = some (.int .i64 x6) := cell_call k7 hb
  replace k8 : w2.cell? ⟨w.heap.size, 7, none⟩ = some (.int .i64 x7) := cell_call k8 hb
  replace hB := belT hB hb
  clear hb
  replace zk1 : w.heap.size < w2.heap.size := World.block_lt_of_cell? w2 _ k1
  go_upto_region 5 with fail
  clear HP i11 i12 i21 i22 i31 i32 i41 i42 m1 m2 n1 n2 eD
  replace k1 : (w2.alloc (.cells #[.int .i64 y0, .int .i64 y1, .int .i64 y2, .int .i64 y3, .int .i64 y4, .int .i64 y5, .int .i64 y6, .int .i64 y7] 24)).cell? ⟨w.heap.size, 0, none⟩ = some (.int .i64 x0) := (cell_alloc k1 _)
  replace k2 : (w2.alloc (.cells #[.int .i64 y0, .int .i64 y1, .int .i64 y2, .int .i64 y3, .int .i64 y4, .int .i64 y5, .int .i64 y6, .int .i64 y7] 24)).cell? ⟨w.heap.size, 1, none⟩ = some (.int .i64 x1) := (cell_alloc k2 _)
  replace k3 : (w2.alloc (.cells #[.int .i64 y0, .int .i64 y1, .int .i64 y2, .int .i64 y3, .int .i64 y4, .int .i64 y5, .int .i64 y6, .int .i64 y7] 24)).cell? ⟨w.heap.size, 2, none⟩ = some (.int .i64 x2) := (cell_alloc k3 _)
  replace k4 : (w2.alloc (.cells #[.int .i64 y0, .int .i64 y1, .int .i64 y2, .int .i64 y3, .int .i64 y4, .int .i64 y5, .int .i64 y6, .int .i64 y7] 24)).cell? ⟨w.heap.size, 3, none⟩ = some (.int .i64 x3) := (cell_alloc k4 _)
  replace k5 : (w2.alloc (.cells #[.int .i64 y0, .int .i64 y1, .int .i64 y2, .int .i64 y3, .int .i64 y4, .int .i64 y5, .int .i64 y6, .int .i64 y7] 24)).cell? ⟨w.heap.size, 4, none⟩ = some (.int .i64 x4) := (cell_alloc k5 _)
  replace k6 : (w2.alloc (.cells #[.int .i64 y0, .int .i64 y1, .int .i64 y2, .int .i64 y3, .int .i64 y4, .int .i64 y5, .int .i64 y6, .int .i64 y7] 24)).cell? ⟨w.heap.size, 5, none⟩ = some (.int .i64 x5) := (cell_alloc k6 _)
  replace k7 : (w2.alloc (.cells #[.int .i64 y0, .int .i64 y1, .int .i64 y2, .int .i64 y3, .int .i64 y4, .int .i64 y5, .int .i64 y6, .int .i64 y7] 24)).cell? ⟨w.heap.size, 6, none⟩ = some (.int .i64 x6) := (cell_alloc k7 _)
  replace k8 : (w2.alloc (.cells #[.int .i64 y0, .int .i64 y1, .int .i64 y2, .int .i64 y3, .int .i64 y4, .int .i64 y5, .int .i64 y6, .int .i64 y7] 24)).cell? ⟨w.heap.size, 7, none⟩ = some (.int .i64 x7) := (cell_alloc k8 _)
  have k9 : (w2.alloc (.cells #[.int .i64 y0, .int .i64 y1, .int .i64 y2, .int .i64 y3, .int .i64 y4, .int .i64 y5, .int .i64 y6, .int .i64 y7] 24)).cell? ⟨w2.heap.size, 0, none⟩ = some (.int .i64 y0) := (cbx w2 #[.int .i64 y0, .int .i64 y1, .int .i64 y2, .int .i64 y3, .int .i64 y4, .int .i64 y5, .int .i64 y6, .int .i64 y7] 24 (w2.heap.size) 0 (.int .i64 y0) (by simp) rfl)
  have k10 : (w2.alloc (.cells #[.int .i64 y0, .int .i64 y1, .int .i64 y2, .int .i64 y3, .int .i64 y4, .int .i64 y5, .int .i64 y6, .int .i64 y7] 24)).cell? ⟨w2.heap.size, 1, none⟩ = some (.int .i64 y1) := (cbx w2 #[.int .i64 y0, .int .i64 y1, .int .i64 y2, .int .i64 y3, .int .i64 y4, .int .i64 y5, .int .i64 y6, .int .i64 y7] 24 (w2.heap.size) 1 (.int .i64 y1) (by simp) rfl)
  have k11 : (w2.alloc (.cells #[.int .i64 y0, .int .i64 y1, .int .i64 y2, .int .i64 y3, .int .i64 y4, .int .i64 y5, .int .i64 y6, .int .i64 y7] 24)).cell? ⟨w2.heap.size, 2, none⟩ = some (.int .i64 y2) := (cbx w2 #[.int .i64 y0, .int .i64 y1, .int .i64 y2, .int .i64 y3, .int .i64 y4, .int .i64 y5, .int .i64 y6, .int .i64 y7] 24 (w2.heap.size) 2 (.int .i64 y2) (by simp) rfl)
  have k12 : (w2.alloc (.cells #[.int .i64 y0, .int .i64 y1, .int .i64 y2, .int .i64 y3, .int .i64 y4, .int .i64 y5, .int .i64 y6, .int .i64 y7] 24)).cell? ⟨w2.heap.size, 3, none⟩ = some (.int .i64 y3) := (cbx w2 #[.int .i64 y0, .int .i64 y1, .int .i64 y2, .int .i64 y3, .int .i64 y4, .int .i64 y5, .int .i64 y6, .int .i64 y7] 24 (w2.heap.size) 3 (.int .i64 y3) (by simp) rfl)
  have k13 : (w2.alloc (.cells #[.int .i64 y0, .int .i64 y1, .int .i64 y2, .int .i64 y3, .int .i64 y4, .int .i64 y5, .int .i64 y6, .int .i64 y7] 24)).cell? ⟨w2.heap.size, 4, none⟩ = some (.int .i64 y4) := (cbx w2 #[.int .i64 y0, .int .i64 y1, .int .i64 y2, .int .i64 y3, .int .i64 y4, .int .i64 y5, .int .i64 y6, .int .i64 y7] 24 (w2.heap.size) 4 (.int .i64 y4) (by simp) rfl)
  have k14 : (w2.alloc (.cells #[.int .i64 y0, .int .i64 y1, .int .i64 y2, .int .i64 y3, .int .i64 y4, .int .i64 y5, .int .i64 y6, .int .i64 y7] 24)).cell? ⟨w2.heap.size, 5, none⟩ = some (.int .i64 y5) := (cbx w2 #[.int .i64 y0, .int .i64 y1, .int .i64 y2, .int .i64 y3, .int .i64 y4, .int .i64 y5, .int .i64 y6, .int .i64 y7] 24 (w2.heap.size) 5 (.int .i64 y5) (by simp) rfl)
  have k15 : (w2.alloc (.cells #[.int .i64 y0, .int .i64 y1, .int .i64 y2, .int .i64 y3, .int .i64 y4, .int .i64 y5, .int .i64 y6, .int .i64 y7] 24)).cell? ⟨w2.heap.size, 6, none⟩ = some (.int .i64 y6) := (cbx w2 #[.int .i64 y0, .int .i64 y1, .int .i64 y2, .int .i64 y3, .int .i64 y4, .int .i64 y5, .int .i64 y6, .int .i64 y7] 24 (w2.heap.size) 6 (.int .i64 y6) (by simp) rfl)
  have k16 : (w2.alloc (.cells #[.int .i64 y0, .int .i64 y1, .int .i64 y2, .int .i64 y3, .int .i64 y4, .int .i64 y5, .int .i64 y6, .int .i64 y7] 24)).cell? ⟨w2.heap.size, 7, none⟩ = some (.int .i64 y7) := (cbx w2 #[.int .i64 y0, .int .i64 y1, .int .i64 y2, .int .i64 y3, .int .i64 y4, .int .i64 y5, .int .i64 y6, .int .i64 y7] 24 (w2.heap.size) 7 (.int .i64 y7) (by simp) rfl)
  replace hB : Below w.heap.size w (w2.alloc (.cells #[.int .i64 y0, .int .i64 y1, .int .i64 y2, .int .i64 y3, .int .i64 y4, .int .i64 y5, .int .i64 y6, .int .i64 y7] 24)) := (belA hB _)
  generalize (w2.alloc (.cells #[.int .i64 y0, .int .i64 y1, .int .i64 y2, .int .i64 y3, .int .i64 y4, .int .i64 y5, .int .i64 y6, .int .i64 y7] 24)) = v4 at *
  have zk1 : w.heap.size < v4.heap.size := World.block_lt_of_cell? v4 _ k1
  have zk9 : w2.heap.size < v4.heap.size := World.block_lt_of_cell? v4 _ k9
  clear k1 k2 k3 k4 k5 k6 k7 k8 zk1
  go_cut [8] (fun s8 wx => s8 = .bool v ∧ Below v4.heap.size v4 wx)
  case first =>
    have base : Below v4.heap.size v4 v4 := Below.refl _ _
    cases e1
    · cases e2
      · cases e3
        · cases e4
          · replace hB := base
            go_wp2_with fail
            refine (onseg_is y0 y1 y2 y3 y4 y5 false _ by0.inr by1.inr by2.inr by3.inr by4.inr by5.inr G1).mono ?_; rintro e w11 ⟨rfl, hb⟩
            replace k9 : w11.cell? ⟨w2.heap.size, 0, none⟩ = some (.int .i64 y0) := cell_call k9 hb
            replace k10 : w11.cell? ⟨w2.heap.size, 1, none⟩ = some (.int .i64 y1) := cell_call k10 hb
            replace k11 : w11.cell? ⟨w2.heap.size, 2, none⟩ = some (.int .i64 y2) := cell_call k11 hb
            replace k12 : w11.cell? ⟨w2.heap.size, 3, none⟩ = some (.int .i64 y3) := cell_call k12 hb
            replace k13 : w11.cell? ⟨w2.heap.size, 4, none⟩ = some (.int .i64 y4) := cell_call k13 hb
            replace k14 : w11.cell? ⟨w2.heap.size, 5, none⟩ = some (.int .i64 y5) := cell_call k14 hb
            replace k15 : w11.cell? ⟨w2.heap.size, 6, none⟩ = some (.int .i64 y6) := cell_call k15 hb
            replace k16 : w11.cell? ⟨w2.heap.size, 7, none⟩ = some (.int .i64 y7) := cell_call k16 hb
            replace hB := belT hB hb
            clear hb
            replace zk9 : w2.heap.size < w11.heap.size := World.block_lt_of_cell? w11 _ k9
            go_wp2_with fail
            refine (onseg_is y0 y1 y2 y3 y6 y7 false _ by0.inr by1.inr by2.inr by3.inr by6.inr by7.inr G2).mono ?_; rintro e w12 ⟨rfl, hb⟩
            replace k9 : w12.cell? ⟨w2.heap.size, 0, none⟩ = some (.int .i64 y0) := cell_call k9 hb
            replace k10 : w12.cell? ⟨w2.heap.size, 1, none⟩ = some (.int .i64 y1) := cell_call k10 hb
            replace k11 : w12.cell? ⟨w2.heap.size, 2, none⟩ = some (.int .i64 y2) := cell_call k11 hb
            replace k12 : w12.cell? ⟨w2.heap.size, 3, none⟩ = some (.int .i64 y3) := cell_call k12 hb
            replace k13 : w12.cell? ⟨w2.heap.size, 4, none⟩ = some (.int .i64 y4) := cell_call k13 hb
            replace k14 : w12.cell? ⟨w2.heap.size, 5, none⟩ = some (.int .i64 y5) := cell_call k14 hb
            replace k15 : w12.cell? ⟨w2.heap.size, 6, none⟩ = some (.int .i64 y6) := cell_call k15 hb
            replace k16 : w12.cell? ⟨w2.heap.size, 7, none⟩ = some (.int .i64 y7) := cell_call k16 hb
            replace hB := belT hB hb
            clear hb
            replace zk9 : w2.heap.size < w12.heap.size := World.block_lt_of_cell? w12 _ k9
            go_wp2_with fail
            refine (onseg_is y4 y5 y6 y7 y0 y1 false _ by4.inr by5.inr by6.inr by7.inr by0.inr by1.inr G3).mono ?_; rintro e w13 ⟨rfl, hb⟩
            replace k9 : w13.cell? ⟨w2.heap.size, 0, none⟩ = some (.int .i64 y0) := cell_call k9 hb
            replace k10 : w13.cell? ⟨w2.heap.size, 1, none⟩ = some (.int .i64 y1) := cell_call k10 hb
            replace k11 : w13.cell? ⟨w2.heap.size, 2, none⟩ = some (.int .i64 y2) := cell_call k11 hb
            replace k12 : w13.cell? ⟨w2.heap.size, 3, none⟩ = some (.int .i64 y3) := cell_call k12 hb
            replace k13 : w13.cell? ⟨w2.heap.size, 4, none⟩ = some (.int .i64 y4) := cell_call k13 hb
            replace k14 : w13.cell? ⟨w2.heap.size, 5, none⟩ = some (.int .i64 y5) := cell_call k14 hb
            replace k15 : w13.cell? ⟨w2.heap.size, 6, none⟩ = some (.int .i64 y6) := cell_call k15 hb
            replace k16 : w13.cell? ⟨w2.heap.size, 7, none⟩ = some (.int .i64 y7) := cell_call k16 hb
            replace hB := belT hB hb
            clear hb
            replace zk9 : w2.heap.size < w13.heap.size := World.block_lt_of_cell? w13 _ k9
            go_wp2_with fail
            refine (onseg_is y4 y5 y6 y7 y2 y3 false _ by4.inr by5.inr by6.inr by7.inr by2.inr by3.inr G4).mono ?_; rintro e w14 ⟨rfl, hb⟩
            replace k9 : w14.cell? ⟨w2.heap.size, 0, none⟩ = some (.int .i64 y0) := cell_call k9 hb
            replace k10 : w14.cell? ⟨w2.heap.size, 1, none⟩ = some (.int .i64 y1) := cell_call k10 hb
            replace k11 : w14.cell? ⟨w2.heap.size, 2, none⟩ = some (.int .i64 y2) := cell_call k11 hb
            replace k12 : w14.cell? ⟨w2.heap.size, 3, none⟩ = some (.int .i64 y3) := cell_call k12 hb
            replace k13 : w14.cell? ⟨w2.heap.size, 4, none⟩ = some (.int .i64 y4) := cell_call k13 hb
            replace k14 : w14.cell? ⟨w2.heap.size, 5, none⟩ = some (.int .i64 y5) := cell_call k14 hb
            replace k15 : w14.cell? ⟨w2.heap.size, 6, none⟩ = some (.int .i64 y6) := cell_call k15 hb
            replace k16 : w14.cell? ⟨w2.heap.size, 7, none⟩ = some (.int .i64 y7) := cell_call k16 hb
            replace hB := belT hB hb
            clear hb
            replace zk9 : w2.heap.size < w14.heap.size := World.block_lt_of_cell? w14 _ k9
            go_wp2_with fail
            go_meet
            exact ⟨by rw [← HV.out]; simp, hB⟩
          · replace hB := base
            go_wp2_with fail
            refine (onseg_is y0 y1 y2 y3 y4 y5 false _ by0.inr by1.inr by2.inr by3.inr by4.inr by5.inr G1).mono ?_; rintro e w11 ⟨rfl, hb⟩
            replace k9 : w11.cell? ⟨w2.heap.size, 0, none⟩ = some (.int .i64 y0) := cell_call k9 hb
            replace k10 : w11.cell? ⟨w2.heap.size, 1, none⟩ = some (.int .i64 y1) := cell_call k10 hb
            replace k11 : w11.cell? ⟨w2.heap.size, 2, none⟩ = some (.int .i64 y2) := cell_call k11 hb
            replace k12 : w11.cell? ⟨w2.heap.size, 3, none⟩ = some (.int .i64 y3) := cell_call k12 hb
            replace k13 : w11.cell? ⟨w2.heap.size, 4, none⟩ = some (.int .i64 y4) := cell_call k13 hb
            replace k14 : w11.cell? ⟨w2.heap.size, 5, none⟩ = some (.int .i64 y5) := cell_call k14 hb
            replace k15 : w11.cell? ⟨w2.heap.size, 6, none⟩ = some (.int .i64 y6) := cell_call k15 hb
            replace k16 : w11.cell? ⟨w2.heap.size, 7, none⟩ = some (.int .i64 y7) := cell_call k16 hb
            replace hB := belT hB hb
            clear hb
            replace zk9 : w2.heap.size < w11.heap.size := World.block_lt_of_cell? w11 _ k9
            go_wp2_with fail
            refine (onseg_is y0 y1 y2 y3 y6 y7 false _ by0.inr by1.inr by2.inr by3.inr by6.inr by7.inr G2).mono ?_; rintro e w12 ⟨rfl, hb⟩
            replace k9 : w12.cell? ⟨w2.heap.size, 0, none⟩ = some (.int .i64 y0) := cell_call k9 hb
            replace k10 : w12.cell? ⟨w2.heap.size, 1, none⟩ = some (.int .i64 y1) := cell_call k10 hb
            replace k11 : w12.cell? ⟨w2.heap.size, 2, none⟩ = some (.int .i64 y2) := cell_call k11 hb
            replace k12 : w12.cell? ⟨w2.heap.size, 3, none⟩ = some (.int .i64 y3) := cell_call k12 hb
            replace k13 : w12.cell? ⟨w2.heap.size, 4, none⟩ = some (.int .i64 y4) := cell_call k13 hb
            replace k14 : w12.cell? ⟨w2.heap.size, 5, none⟩ = some (.int .i64 y5) := cell_call k14 hb
            replace k15 : w12.cell? ⟨w2.heap.size, 6, none⟩ = some (.int .i64 y6) := cell_call k15 hb
            replace k16 : w12.cell? ⟨w2.heap.size, 7, none⟩ = some (.int .i64 y7) := cell_call k16 hb
            replace hB := belT hB hb
            clear hb
            replace zk9 : w2.heap.size < w12.heap.size := World.block_lt_of_cell? w12 _ k9
            go_wp2_with fail
            refine (onseg_is y4 y5 y6 y7 y0 y1 false _ by4.inr by5.inr by6.inr by7.inr by0.inr by1.inr G3).mono ?_; rintro e w13 ⟨rfl, hb⟩
            replace k9 : w13.cell? ⟨w2.heap.size, 0, none⟩ = some (.int .i64 y0) := cell_call k9 hb
            replace k10 : w13.cell? ⟨w2.heap.size, 1, none⟩ = some (.int .i64 y1) := cell_call k10 hb
            replace k11 : w13.cell? ⟨w2.heap.size, 2, none⟩ = some (.int .i64 y2) := cell_call k11 hb
            replace k12 : w13.cell? ⟨w2.heap.size, 3, none⟩ = some (.int .i64 y3) := cell_call k12 hb
            replace k13 : w13.cell? ⟨w2.heap.size, 4, none⟩ = some (.int .i64 y4) := cell_call k13 hb
            replace k14 : w13.cell? ⟨w2.heap.size, 5, none⟩ = some (.int .i64 y5) := cell_call k14 hb
            replace k15 : w13.cell? ⟨w2.heap.size, 6, none⟩ = some (.int .i64 y6) := cell_call k15 hb
            replace k16 : w13.cell? ⟨w2.heap.size, 7, none⟩ = some (.int .i64 y7) := cell_call k16 hb
            replace hB := belT hB hb
            clear hb
            replace zk9 : w2.heap.size < w13.heap.size := World.block_lt_of_cell? w13 _ k9
            go_wp2_with fail
            refine (onseg_is y4 y5 y6 y7 y2 y3 true _ by4.inr by5.inr by6.inr by7.inr by2.inr by3.inr G4).mono ?_; rintro e w14 ⟨rfl, hb⟩
            replace k9 : w14.cell? ⟨w2.heap.size, 0, none⟩ = some (.int .i64 y0) := cell_call k9 hb
            replace k10 : w14.cell? ⟨w2.heap.size, 1, none⟩ = some (.int .i64 y1) := cell_call k10 hb
            replace k11 : w14.cell? ⟨w2.heap.size, 2, none⟩ = some (.int .i64 y2) := cell_call k11 hb
            replace k12 : w14.cell? ⟨w2.heap.size, 3, none⟩ = some (.int .i64 y3) := cell_call k12 hb
            replace k13 : w14.cell? ⟨w2.heap.size, 4, none⟩ = some (.int .i64 y4) := cell_call k13 hb
            replace k14 : w14.cell? ⟨w2.heap.size, 5, none⟩ = some (.int .i64 y5) := cell_call k14 hb
            replace k15 : w14.cell? ⟨w2.heap.size, 6, none⟩ = some (.int .i64 y6) := cell_call k15 hb
            replace k16 : w14.cell? ⟨w2.heap.size, 7, none⟩ = some (.int .i64 y7) := cell_call k16 hb
            replace hB := belT hB hb
            clear hb
            replace zk9 : w2.heap.size < w14.heap.size := World.block_lt_of_cell? w14 _ k9
            go_wp2_with fail
            go_meet
            exact ⟨by rw [← HV.out]; simp, hB⟩
        · replace hB := base
          go_wp2_with fail
          refine (onseg_is y0 y1 y2 y3 y4 y5 false _ by0.inr by1.inr by2.inr by3.inr by4.inr by5.inr G1).mono ?_; rintro e w11 ⟨rfl, hb⟩
          replace k9 : w11.cell? ⟨w2.heap.size, 0, none⟩ = some (.int .i64 y0) := cell_call k9 hb
          replace k10 : w11.cell? ⟨w2.heap.size, 1, none⟩ = some (.int .i64 y1) := cell_call k10 hb
          replace k11 : w11.cell? ⟨w2.heap.size, 2, none⟩ = some (.int .i64 y2) := cell_call k11 hb
          replace k12 : w11.cell? ⟨w2.heap.size, 3, none⟩ = some (.int .i64 y3) := cell_call k12 hb
          replace k13 : w11.cell? ⟨w2.heap.size, 4, none⟩ = some (.int .i64 y4) := cell_call k13 hb
          replace k14 : w11.cell? ⟨w2.heap.size, 5, none⟩ = some (.int .i64 y5) := cell_call k14 hb
          replace k15 : w11.cell? ⟨w2.heap.size, 6, none⟩ = some (.int .i64 y6) := cell_call k15 hb
          replace k16 : w11.cell? ⟨w2.heap.size, 7, none⟩ = some (.int .i64 y7) := cell_call k16 hb
          replace hB := belT hB hb
          clear hb
          replace zk9 : w2.heap.size < w11.heap.size := World.block_lt_of_cell? w11 _ k9
          go_wp2_with fail
          refine (onseg_is y0 y1 y2 y3 y6 y7 false _ by0.inr by1.inr by2.inr by3.inr by6.inr by7.inr G2).mono ?_; rintro e w12 ⟨rfl, hb⟩
          replace k9 : w12.cell? ⟨w2.heap.size, 0, none⟩ = some (.int .i64 y0) := cell_call k9 hb
          replace k10 : w12.cell? ⟨w2.heap.size, 1, none⟩ = some (.int .i64 y1) := cell_call k10 hb
          replace k11 : w12.cell? ⟨w2.heap.size, 2, none⟩ = some (.int .i64 y2) := cell_call k11 hb
          replace k12 : w12.cell? ⟨w2.heap.size, 3, none⟩ = some (.int .i64 y3) := cell_call k12 hb
          replace k13 : w12.cell? ⟨w2.heap.size, 4, none⟩ = some (.int .i64 y4) := cell_call k13 hb
          replace k14 : w12.cell? ⟨w2.heap.size, 5, none⟩ = some (.int .i64 y5) := cell_call k14 hb
          replace k15 : w12.cell? ⟨w2.heap.size, 6, none⟩ = some (.int .i64 y6) := cell_call k15 hb
          replace k16 : w12.cell? ⟨w2.heap.size, 7, none⟩ = some (.int .i64 y7) := cell_call k16 hb
          replace hB := belT hB hb
          clear hb
          replace zk9 : w2.heap.size < w12.heap.size := World.block_lt_of_cell? w12 _ k9
          go_wp2_with fail
          refine (onseg_is y4 y5 y6 y7 y0 y1 true _ by4.inr by5.inr by6.inr by7.inr by0.inr by1.inr G3).mono ?_; rintro e w13 ⟨rfl, hb⟩
          replace k9 : w13.cell? ⟨w2.heap.size, 0, none⟩ = some (.int .i64 y0) := cell_call k9 hb
          replace k10 : w13.cell? ⟨w2.heap.size, 1, none⟩ = some (.int .i64 y1) := cell_call k10 hb
          replace k11 : w13.cell? ⟨w2.heap.size, 2, none⟩ = some (.int .i64 y2) := cell_call k11 hb
          replace k12 : w13.cell? ⟨w2.heap.size, 3, none⟩ = some (.int .i64 y3) := cell_call k12 hb
          replace k13 : w13.cell? ⟨w2.heap.size, 4, none⟩ = some (.int .i64 y4) := cell_call k13 hb
          replace k14 : w13.cell? ⟨w2.heap.size, 5, none⟩ = some (.int .i64 y5) := cell_call k14 hb
          replace k15 : w13.cell? ⟨w2.heap.size, 6, none⟩ = some (.int .i64 y6) := cell_call k15 hb
          replace k16 : w13.cell? ⟨w2.heap.size, 7, none⟩ = some (.int .i64 y7) := cell_call k16 hb
          replace hB := belT hB hb
          clear hb
          replace zk9 : w2.heap.size < w13.heap.size := World.block_lt_of_cell? w13 _ k9
          go_wp2_with fail
          go_meet
          exact ⟨by rw [← HV.out]; simp, hB⟩
      · replace hB := base
        go_wp2_with fail
        refine (onseg_is y0 y1 y2 y3 y4 y5 false _ by0.inr by1.inr by2.inr by3.inr by4.inr by5.inr G1).mono ?_; rintro e w11 ⟨rfl, hb⟩
        replace k9 : w11.cell? ⟨w2.heap.size, 0, none⟩ = some (.int .i64 y0) := cell_call k9 hb
        replace k10 : w11.cell? ⟨w2.heap.size, 1, none⟩ = some (.int .i64 y1) := cell_call k10 hb
        replace k11 : w11.cell? ⟨w2.heap.size, 2, none⟩ = some (.int .i64 y2) := cell_call k11 hb
        replace k12 : w11.cell? ⟨w2.heap.size, 3, none⟩ = some (.int .i64 y3) := cell_call k12 hb
        replace k13 : w11.cell? ⟨w2.heap.size, 4, none⟩ = some (.int .i64 y4) := cell_call k13 hb
        replace k14 : w11.cell? ⟨w2.heap.size, 5, none⟩ = some (.int .i64 y5) := cell_call k14 hb
        replace k15 : w11.cell? ⟨w2.heap.size, 6, none⟩ = some (.int .i64 y6) := cell_call k15 hb
        replace k16 : w11.cell? ⟨w2.heap.size, 7, none⟩ = some (.int .i64 y7) := cell_call k16 hb
        replace hB := belT hB hb
        clear hb
        replace zk9 : w2.heap.size < w11.heap.size := World.block_lt_of_cell? w11 _ k9
        go_wp2_with fail
        refine (onseg_is y0 y1 y2 y3 y6 y7 true _ by0.inr by1.inr by2.inr by3.inr by6.inr by7.inr G2).mono ?_; rintro e w12 ⟨rfl, hb⟩
        replace k9 : w12.cell? ⟨w2.heap.size, 0, none⟩ = some (.int .i64 y0) := cell_call k9 hb
        replace k10 : w12.cell? ⟨w2.heap.size, 1, none⟩ = some (.int .i64 y1) := cell_call k10 hb
        replace k11 : w12.cell? ⟨w2.heap.size, 2, none⟩ = some (.int .i64 y2) := cell_call k11 hb
        replace k12 : w12.cell? ⟨w2.heap.size, 3, none⟩ = some (.int .i64 y3) := cell_call k12 hb
        replace k13 : w12.cell? ⟨w2.heap.size, 4, none⟩ = some (.int .i64 y4) := cell_call k13 hb
        replace k14 : w12.cell? ⟨w2.heap.size, 5, none⟩ = some (.int .i64 y5) := cell_call k14 hb
        replace k15 : w12.cell? ⟨w2.heap.size, 6, none⟩ = some (.int .i64 y6) := cell_call k15 hb
        replace k16 : w12.cell? ⟨w2.heap.size, 7, none⟩ = some (.int .i64 y7) := cell_call k16 hb
        replace hB := belT hB hb
        clear hb
        replace zk9 : w2.heap.size < w12.heap.size := World.block_lt_of_cell? w12 _ k9
        go_wp2_with fail
        go_meet
        exact ⟨by rw [← HV.out]; simp, hB⟩
    · replace hB := base
      go_wp2_with fail
      refine (onseg_is y0 y1 y2 y3 y4 y5 true _ by0.inr by1.inr by2.inr by3.inr by4.inr by5.inr G1).mono ?_; rintro e w11 ⟨rfl, hb⟩
      replace k9 : w11.cell? ⟨w2.heap.size, 0, none⟩ = some (.int .i64 y0) := cell_call k9 hb
      replace k10 : w11.cell? ⟨w2.heap.size, 1, none⟩ = some (.int .i64 y1) := cell_call k10 hb
      replace k11 : w11.cell? ⟨w2.heap.size, 2, none⟩ = some (.int .i64 y2) := cell_call k11 hb
      replace k12 : w11.cell? ⟨w2.heap.size, 3, none⟩ = some (.int .i64 y3) := cell_call k12 hb
      replace k13 : w11.cell? ⟨w2.heap.size, 4, none⟩ = some (.int .i64 y4) := cell_call k13 hb
      replace k14 : w11.cell? ⟨w2.heap.size, 5, none⟩ = some (.int .i64 y5) := cell_call k14 hb
      replace k15 : w11.cell? ⟨w2.heap.size, 6, none⟩ = some (.int .i64 y6) := cell_call k15 hb
      replace k16 : w11.cell? ⟨w2.heap.size, 7, none⟩ = some (.int .i64 y7) := cell_call k16 hb
      replace hB := belT hB hb
      clear hb
      replace zk9 : w2.heap.size < w11.heap.size := World.block_lt_of_cell? w11 _ k9
      go_wp2_with fail
      go_meet
      exact ⟨by rw [← HV.out]; simp, hB⟩
  case rest =>
    obtain ⟨rfl, hb⟩ := hcut
    replace k9 := cell_call k9 hb
    replace k10 := cell_call k10 hb
    replace k11 := cell_call k11 hb
    replace k12 := cell_call k12 hb
    replace k13 := cell_call k13 hb
    replace k14 := cell_call k14 hb
    replace k15 := cell_call k15 hb
    replace k16 := cell_call k16 hb
    replace hB := belT hB hb
    clear hb
    go_wp2_with fail
    refine (cross_is y0 y1 y2 y3 y4 y5 y6 y7 v _ by0.inr by1.inr by2.inr by3.inr by4.inr by5.inr by6.inr by7.inr HE).mono ?_; rintro e w21 ⟨rfl, hb⟩
    replace k9 : w21.cell? ⟨w2.heap.size, 0, none⟩ = some (.int .i64 y0) := cell_call k9 hb
    replace k10 : w21.cell? ⟨w2.heap.size, 1, none⟩ = some (.int .i64 y1) := cell_call k10 hb
    replace k11 : w21.cell? ⟨w2.heap.size, 2, none⟩ = some (.int .i64 y2) := cell_call k11 hb
    replace k12 : w21.cell? ⟨w2.heap.size, 3, none⟩ = some (.int .i64 y3) := cell_call k12 hb
    replace k13 : w21.cell? ⟨w2.heap.size, 4, none⟩ = some (.int .i64 y4) := cell_call k13 hb
    replace k14 : w21.cell? ⟨w2.heap.size, 5, none⟩ = some (.int .i64 y5) := cell_call k14 hb
    replace k15 : w21.cell? ⟨w2.heap.size, 6, none⟩ = some (.int .i64 y6) := cell_call k15 hb
    replace k16 : w21.cell? ⟨w2.heap.size, 7, none⟩ = some (.int .i64 y7) := cell_call k16 hb
    replace hB := belT hB hb
    clear hb
    replace zk9 : w2.heap.size < w21.heap.size := World.block_lt_of_cell? w21 _ k9
    go_wp2_with fail
    go_ret
    exact ⟨rfl, hB⟩

set_option maxRecDepth 100000 in
set_option maxHeartbeats 16000000 in
theorem walk_cut (x0 x1 x2 x3 x4 x5 x6 x7 : Int) (s : Bool) (w : World) (y0 y1 y2 y3 y4 y5 y6 y7 : Int) (by0 : InY y0) (by1 : InY y1) (by2 : InY y2) (by3 : InY y3) (by4 : InY y4) (by5 : InY y5) (by6 : InY y6) (by7 : InY y7) (HP : Hid (∀ w : World, Calls Try.prog 11 #[.agg #[.int .i64 x0, .int .i64 x1, .int .i64 x2, .int .i64 x3, .int .i64 x4, .int .i64 x5, .int .i64 x6, .int .i64 x7], .bool s] w fun e w' => e = .returned (.agg #[.int .i64 y0, .int .i64 y1, .int .i64 y2, .int .i64 y3, .int .i64 y4, .int .i64 y5, .int .i64 y6, .int .i64 y7]) ∧ Below w.heap.size w w')) (hD : dD y0 y1 y2 y3 y4 y5 y6 y7 ≠ 0) :
    Calls Try.prog 6 #[.agg #[.int .i64 x0, .int .i64 x1, .int .i64 x2, .int .i64 x3, .int .i64 x4, .int .i64 x5, .int .i64 x6, .int .i64 x7], .bool s] w fun e w' => e = .returned (.bool true) ∧ Below w.heap.size w w' := by
  have i1 := dify by2 by0
  have i2 := dify by7 by5
  have i3 := dify by3 by1
  have i4 := dify by6 by4
  obtain ⟨m1, n1⟩ := prod_bd i1 i2
  obtain ⟨m2, n2⟩ := prod_bd i3 i4
  obtain ⟨i11, i12⟩ := i1
  obtain ⟨i21, i22⟩ := i2
  obtain ⟨i31, i32⟩ := i3
  obtain ⟨i41, i42⟩ := i4
  have E := seg_meets hD
  obtain ⟨D, eD⟩ : ∃ x, dD y0 y1 y2 y3 y4 y5 y6 y7 = x := ⟨_, rfl⟩
  obtain ⟨S, eS⟩ : ∃ x, dS y0 y1 y4 y5 y6 y7 = x := ⟨_, rfl⟩
  obtain ⟨T, eT⟩ : ∃ x, dT y0 y1 y2 y3 y4 y5 = x := ⟨_, rfl⟩
  obtain ⟨v, hv⟩ : ∃ x, segB y0 y1 y2 y3 y4 y5 y6 y7 = x := ⟨_, rfl⟩
  rw [hv, eD, eS, eT] at E
  rw [eD] at hD
  have HE := Lib.hid E
  have HV := Lib.hid hv
  have HD := Lib.hid eD
  have HS := Lib.hid eS
  have HT := Lib.hid eT
  have rD : (y2 - y0) * (y7 - y5) - (y3 - y1) * (y6 - y4) = D := eD
  clear E hv eD eS eT
  have hB : Below w.heap.size w w := Below.refl _ _
  go_enter Try.func6, Try.ntmps6
  go_wp2_with fail
  refine (head_any _).mono ?_; rintro e w1 ⟨rfl, hb⟩
  have k1 : w1.cell? ⟨w.heap.size, 0, none⟩ = some (.int .i64 x0) := cell_call (cbx w #[.int .i64 x0, .int .i64 x1, .int .i64 x2, .int .i64 x3, .int .i64 x4, .int .i64 x5, .int .i64 x6, .int .i64 x7] 24 (w.heap.size) 0 (.int .i64 x0) (by simp) rfl) hb
  have k2 : w1.cell? ⟨w.heap.size, 1, none⟩ = some (.int .i64 x1) := cell_call (cbx w #[.int .i64 x0, .int .i64 x1, .int .i64 x2, .int .i64 x3, .int .i64 x4, .int .i64 x5, .int .i64 x6, .int .i64 x7] 24 (w.heap.size) 1 (.int .i64 x1) (by simp) rfl) hb
  have k3 : w1.cell? ⟨w.heap.size, 2, none⟩ = some (.int .i64 x2) := cell_call (cbx w #[.int .i64 x0, .int .i64 x1, .int .i64 x2, .int .i64 x3, .int .i64 x4, .int .i64 x5, .int .i64 x6, .int .i64 x7] 24 (w.heap.size) 2 (.int .i64 x2) (by simp) rfl) hb
  have k4 : w1.cell? ⟨w.heap.size, 3, none⟩ = some (.int .i64 x3) := cell_call (cbx w #[.int .i64 x0, .int .i64 x1, .int .i64 x2, .int .i64 x3, .int .i64 x4, .int .i64 x5, .int .i64 x6, .int .i64 x7] 24 (w.heap.size) 3 (.int .i64 x3) (by simp) rfl) hb
  have k5 : w1.cell? ⟨w.heap.size, 4, none⟩ = some (.int .i64 x4) := cell_call (cbx w #[.int .i64 x0, .int .i64 x1, .int .i64 x2, .int .i64 x3, .int .i64 x4, .int .i64 x5, .int .i64 x6, .int .i64 x7] 24 (w.heap.size) 4 (.int .i64 x4) (by simp) rfl) hb
  have k6 : w1.cell? ⟨w.heap.size, 5, none⟩ = some (.int .i64 x5) := cell_call (cbx w #[.int .i64 x0, .int .i64 x1, .int .i64 x2, .int .i64 x3, .int .i64 x4, .int .i64 x5, .int .i64 x6, .int .i64 x7] 24 (w.heap.size) 5 (.int .i64 x5) (by simp) rfl) hb
  have k7 : w1.cell? ⟨w.heap.size, 6, none⟩ = some (.int .i64 x6) := cell_call (cbx w #[.int .i64 x0, .int .i64 x1, .int .i64 x2, .int .i64 x3, .int .i64 x4, .int .i64 x5, .int .i64 x6, .int .i64 x7] 24 (w.heap.size) 6 (.int .i64 x6) (by simp) rfl) hb
  have k8 : w1.cell? ⟨w.heap.size, 7, none⟩ = some (.int .i64 x7) := cell_call (cbx w #[.int .i64 x0, .int .i64 x1, .int .i64 x2, .int .i64 x3, .int .i64 x4, .int .i64 x5, .int .i64 x6, .int .i64 x7] 24 (w.heap.size) 7 (.int .i64 x7) (by simp) rfl) hb
  replace hB := belT (belA hB _) hb
  clear hb
  have zk1 : w.heap.size < w1.heap.size := World.block_lt_of_cell? w1 _ k1
  go_wp2_with fail
  refine (HP.out _).mono ?_; rintro e w2 ⟨rfl, hb⟩
  replace k1 : w2.cell? ⟨w.heap.size, 0, none⟩ = some (.int .i64 x0) := cell_call k1 hb
  replace k2 : w2.cell? ⟨w.heap.size, 1, none⟩ = some (.int .i64 x1) := cell_call k2 hb
  replace k3 : w2.cell? ⟨w.heap.size, 2, none⟩ = some (.int .i64 x2) := cell_call k3 hb
  replace k4 : w2.cell? ⟨w.heap.size, 3, none⟩ = some (.int .i64 x3) := cell_call k4 hb
  replace k5 : w2.cell? ⟨w.heap.size, 4, none⟩ = some (.int .i64 x4) := cell_call k5 hb
  replace k6 : w2.cell? ⟨w.heap.size, 5, none⟩ = some (.int .i64 x5) := cell_call k6 hb
  replace k7 : w2.cell? ⟨w.heap.size, 6, none⟩ = some (.int .i64 x6) := cell_call k7 hb
  replace k8 : w2.cell? ⟨w.heap.size, 7, none⟩ = some (.int .i64 x7) := cell_call k8 hb
  replace hB := belT hB hb
  clear hb
  replace zk1 : w.heap.size < w2.heap.size := World.block_lt_of_cell? w2 _ k1
  go_wp2_with fail
  clear HP i11 i12 i21 i22 i31 i32 i41 i42 m1 m2 n1 n2 rD
  replace k1 : (w2.alloc (.cells #[.int .i64 y0, .int .i64 y1, .int .i64 y2, .int .i64 y3, .int .i64 y4, .int .i64 y5, .int .i64 y6, .int .i64 y7] 24)).cell? ⟨w.heap.size, 0, none⟩ = some (.int .i64 x0) := (cell_alloc k1 _)
  replace k2 : (w2.alloc (.cells #[.int .i64 y0, .int .i64 y1, .int .i64 y2, .int .i64 y3, .int .i64 y4, .int .i64 y5, .int .i64 y6, .int .i64 y7] 24)).cell? ⟨w.heap.size, 1, none⟩ = some (.int .i64 x1) := (cell_alloc k2 _)
  replace k3 : (w2.alloc (.cells #[.int .i64 y0, .int .i64 y1, .int .i64 y2, .int .i64 y3, .int .i64 y4, .int .i64 y5, .int .i64 y6, .int .i64 y7] 24)).cell? ⟨w.heap.size, 2, none⟩ = some (.int .i64 x2) := (cell_alloc k3 _)
  replace k4 : (w2.alloc (.cells #[.int .i64 y0, .int .i64 y1, .int .i64 y2, .int .i64 y3, .int .i64 y4, .int .i64 y5, .int .i64 y6, .int .i64 y7] 24)).cell? ⟨w.heap.size, 3, none⟩ = some (.int .i64 x3) := (cell_alloc k4 _)
  replace k5 : (w2.alloc (.cells #[.int .i64 y0, .int .i64 y1, .int .i64 y2, .int .i64 y3, .int .i64 y4, .int .i64 y5, .int .i64 y6, .int .i64 y7] 24)).cell? ⟨w.heap.size, 4, none⟩ = some (.int .i64 x4) := (cell_alloc k5 _)
  replace k6 : (w2.alloc (.cells #[.int .i64 y0, .int .i64 y1, .int .i64 y2, .int .i64 y3, .int .i64 y4, .int .i64 y5, .int .i64 y6, .int .i64 y7] 24)).cell? ⟨w.heap.size, 5, none⟩ = some (.int .i64 x5) := (cell_alloc k6 _)
  replace k7 : (w2.alloc (.cells #[.int .i64 y0, .int .i64 y1, .int .i64 y2, .int .i64 y3, .int .i64 y4, .int .i64 y5, .int .i64 y6, .int .i64 y7] 24)).cell? ⟨w.heap.size, 6, none⟩ = some (.int .i64 x6) := (cell_alloc k7 _)
  replace k8 : (w2.alloc (.cells #[.int .i64 y0, .int .i64 y1, .int .i64 y2, .int .i64 y3, .int .i64 y4, .int .i64 y5, .int .i64 y6, .int .i64 y7] 24)).cell? ⟨w.heap.size, 7, none⟩ = some (.int .i64 x7) := (cell_alloc k8 _)
  have k9 : (w2.alloc (.cells #[.int .i64 y0, .int .i64 y1, .int .i64 y2, .int .i64 y3, .int .i64 y4, .int .i64 y5, .int .i64 y6, .int .i64 y7] 24)).cell? ⟨w2.heap.size, 0, none⟩ = some (.int .i64 y0) := (cbx w2 #[.int .i64 y0, .int .i64 y1, .int .i64 y2, .int .i64 y3, .int .i64 y4, .int .i64 y5, .int .i64 y6, .int .i64 y7] 24 (w2.heap.size) 0 (.int .i64 y0) (by simp) rfl)
  have k10 : (w2.alloc (.cells #[.int .i64 y0, .int .i64 y1, .int .i64 y2, .int .i64 y3, .int .i64 y4, .int .i64 y5, .int .i64 y6, .int .i64 y7] 24)).cell? ⟨w2.heap.size, 1, none⟩ = some (.int .i64 y1) := (cbx w2 #[.int .i64 y0, .int .i64 y1, .int .i64 y2, .int .i64 y3, .int .i64 y4, .int .i64 y5, .int .i64 y6, .int .i64 y7] 24 (w2.heap.size) 1 (.int .i64 y1) (by simp) rfl)
  have k11 : (w2.alloc (.cells #[.int .i64 y0, .int .i64 y1, .int .i64 y2, .int .i64 y3, .int .i64 y4, .int .i64 y5, .int .i64 y6, .int .i64 y7] 24)).cell? ⟨w2.heap.size, 2, none⟩ = some (.int .i64 y2) := (cbx w2 #[.int .i64 y0, .int .i64 y1, .int .i64 y2, .int .i64 y3, .int .i64 y4, .int .i64 y5, .int .i64 y6, .int .i64 y7] 24 (w2.heap.size) 2 (.int .i64 y2) (by simp) rfl)
  have k12 : (w2.alloc (.cells #[.int .i64 y0, .int .i64 y1, .int .i64 y2, .int .i64 y3, .int .i64 y4, .int .i64 y5, .int .i64 y6, .int .i64 y7] 24)).cell? ⟨w2.heap.size, 3, none⟩ = some (.int .i64 y3) := (cbx w2 #[.int .i64 y0, .int .i64 y1, .int .i64 y2, .int .i64 y3, .int .i64 y4, .int .i64 y5, .int .i64 y6, .int .i64 y7] 24 (w2.heap.size) 3 (.int .i64 y3) (by simp) rfl)
  have k13 : (w2.alloc (.cells #[.int .i64 y0, .int .i64 y1, .int .i64 y2, .int .i64 y3, .int .i64 y4, .int .i64 y5, .int .i64 y6, .int .i64 y7] 24)).cell? ⟨w2.heap.size, 4, none⟩ = some (.int .i64 y4) := (cbx w2 #[.int .i64 y0, .int .i64 y1, .int .i64 y2, .int .i64 y3, .int .i64 y4, .int .i64 y5, .int .i64 y6, .int .i64 y7] 24 (w2.heap.size) 4 (.int .i64 y4) (by simp) rfl)
  have k14 : (w2.alloc (.cells #[.int .i64 y0, .int .i64 y1, .int .i64 y2, .int .i64 y3, .int .i64 y4, .int .i64 y5, .int .i64 y6, .int .i64 y7] 24)).cell? ⟨w2.heap.size, 5, none⟩ = some (.int .i64 y5) := (cbx w2 #[.int .i64 y0, .int .i64 y1, .int .i64 y2, .int .i64 y3, .int .i64 y4, .int .i64 y5, .int .i64 y6, .int .i64 y7] 24 (w2.heap.size) 5 (.int .i64 y5) (by simp) rfl)
  have k15 : (w2.alloc (.cells #[.int .i64 y0, .int .i64 y1, .int .i64 y2, .int .i64 y3, .int .i64 y4, .int .i64 y5, .int .i64 y6, .int .i64 y7] 24)).cell? ⟨w2.heap.size, 6, none⟩ = some (.int .i64 y6) := (cbx w2 #[.int .i64 y0, .int .i64 y1, .int .i64 y2, .int .i64 y3, .int .i64 y4, .int .i64 y5, .int .i64 y6, .int .i64 y7] 24 (w2.heap.size) 6 (.int .i64 y6) (by simp) rfl)
  have k16 : (w2.alloc (.cells #[.int .i64 y0, .int .i64 y1, .int .i64 y2, .int .i64 y3, .int .i64 y4, .int .i64 y5, .int .i64 y6, .int .i64 y7] 24)).cell? ⟨w2.heap.size, 7, none⟩ = some (.int .i64 y7) := (cbx w2 #[.int .i64 y0, .int .i64 y1, .int .i64 y2, .int .i64 y3, .int .i64 y4, .int .i64 y5, .int .i64 y6, .int .i64 y7] 24 (w2.heap.size) 7 (.int .i64 y7) (by simp) rfl)
  replace hB : Below w.heap.size w (w2.alloc (.cells #[.int .i64 y0, .int .i64 y1, .int .i64 y2, .int .i64 y3, .int .i64 y4, .int .i64 y5, .int .i64 y6, .int .i64 y7] 24)) := (belA hB _)
  generalize (w2.alloc (.cells #[.int .i64 y0, .int .i64 y1, .int .i64 y2, .int .i64 y3, .int .i64 y4, .int .i64 y5, .int .i64 y6, .int .i64 y7] 24)) = v4 at *
  have zk1 : w.heap.size < v4.heap.size := World.block_lt_of_cell? v4 _ k1
  have zk9 : w2.heap.size < v4.heap.size := World.block_lt_of_cell? v4 _ k9
  clear k1 k2 k3 k4 k5 k6 k7 k8 zk1
  have hS : Hid (∀ w', Below v4.heap.size v4 w' → w'.cell? ⟨w2.heap.size, 0, none⟩ = some (.int .i64 y0) ∧ w'.cell? ⟨w2.heap.size, 1, none⟩ = some (.int .i64 y1) ∧ w'.cell? ⟨w2.heap.size, 2, none⟩ = some (.int .i64 y2) ∧ w'.cell? ⟨w2.heap.size, 3, none⟩ = some (.int .i64 y3) ∧ w'.cell? ⟨w2.heap.size, 4, none⟩ = some (.int .i64 y4) ∧ w'.cell? ⟨w2.heap.size, 5, none⟩ = some (.int .i64 y5) ∧ w'.cell? ⟨w2.heap.size, 6, none⟩ = some (.int .i64 y6) ∧ w'.cell? ⟨w2.heap.size, 7, none⟩ = some (.int .i64 y7) ∧ Below v4.heap.size v4 w') := Lib.hid (fun w' h => ⟨cell_call k9 h, cell_call k10 h, cell_call k11 h, cell_call k12 h, cell_call k13 h, cell_call k14 h, cell_call k15 h, cell_call k16 h, h⟩)
  have b3 : Below v4.heap.size v4 v4 := Below.refl _ _
  go_region_held3 (fun w' => w'.cell? ⟨w2.heap.size, 0, none⟩ = some (.int .i64 y0) ∧ w'.cell? ⟨w2.heap.size, 1, none⟩ = some (.int .i64 y1) ∧ w'.cell? ⟨w2.heap.size, 2, none⟩ = some (.int .i64 y2) ∧ w'.cell? ⟨w2.heap.size, 3, none⟩ = some (.int .i64 y3) ∧ w'.cell? ⟨w2.heap.size, 4, none⟩ = some (.int .i64 y4) ∧ w'.cell? ⟨w2.heap.size, 5, none⟩ = some (.int .i64 y5) ∧ w'.cell? ⟨w2.heap.size, 6, none⟩ = some (.int .i64 y6) ∧ w'.cell? ⟨w2.heap.size, 7, none⟩ = some (.int .i64 y7) ∧ Below v4.heap.size v4 w')
    ((go_split_ands; refine hS.out _ ?_; repeat (first | exact hb8 | assumption | apply Below.drew | (with_reducible refine belA ?_ _) | (with_reducible refine belS ?_ (by first | assumption | exact Nat.le_refl _ | exact Nat.le_succ _ | exact Nat.le_succ_of_le (by assumption)) _))))
    (first | (go_at_call 23; (first | (with_reducible refine (cross_is y0 y1 y2 y3 y4 y5 y6 y7 v _ by0.inr by1.inr by2.inr by3.inr by4.inr by5.inr by6.inr by7.inr HV).mono ?_)); rintro e w9 ⟨rfl, hb9⟩; have hb8 : Below v4.heap.size v4 w9 := belT (by go_split_ands; repeat (first | assumption | apply Below.drew | (with_reducible refine belA ?_ _))) hb9) | (go_at_call 30; (first | (with_reducible refine (shared_is y0 y1 y2 y3 y4 y5 y6 y7 D S T v _ by0 by1 by2 by3 by4 by5 by6 by7 HD HS HT HE hD).mono ?_)); rintro e w9 ⟨rfl, hb9⟩; have hb8 : Below v4.heap.size v4 w9 := belT (by go_split_ands; repeat (first | assumption | apply Below.drew | (with_reducible refine belA ?_ _))) hb9) | fail)
  all_goals
    rename_i hH
    obtain ⟨_, _, _, _, _, _, _, _, bz⟩ := hH
    have fin := Lib.hid (hB.trans (bz.mono hB.size))
    clear bz hS b3
    go_wp2_with fail
    go_ret
    exact ⟨rfl, fin.out⟩

theorem walk (x0 x1 x2 x3 x4 x5 x6 x7 : Int) (s : Bool) (w : World) :
    Calls Try.prog 6 #[.agg #[.int .i64 x0, .int .i64 x1, .int .i64 x2, .int .i64 x3, .int .i64 x4, .int .i64 x5, .int .i64 x6, .int .i64 x7], .bool s] w fun e w' => e = .returned (.bool true) ∧ Below w.heap.size w w' := by
  obtain ⟨y0, y1, y2, y3, y4, y5, y6, y7, ⟨b0, b1, b2, b3, b4, b5, b6, b7⟩, HP⟩ := pick_is x0 x1 x2 x3 x4 x5 x6 x7 s
  by_cases hD : dD y0 y1 y2 y3 y4 y5 y6 y7 = 0
  · exact walk_par x0 x1 x2 x3 x4 x5 x6 x7 s w y0 y1 y2 y3 y4 y5 y6 y7 b0 b1 b2 b3 b4 b5 b6 b7 HP hD
  · exact walk_cut x0 x1 x2 x3 x4 x5 x6 x7 s w y0 y1 y2 y3 y4 y5 y6 y7 b0 b1 b2 b3 b4 b5 b6 b7 HP hD

set_option maxRecDepth 100000 in
theorem lifted (os : Os) (started : os.Started) (H : Type) (enc : TypeId × Value → H) :
    ReturnsInHanded {} Try.checked os 6 .any (Rows.geomCutsSpec.pre6 enc Try.prog Try.f6 Rows.geomCutsRow.domain false) (Rows.geomCutsSpec.post enc Try.prog Try.f6 false true false false) := by
  refine returnsInHanded_of_change (C := Try.checked) own started (by kernel_rfl) Try.func6
    (ChangeSpec.witness6 (enc := enc) (C := Try.checked) false ⟨#[], #[.agg #[.int .i64 0, .int .i64 0, .int .i64 0, .int .i64 0, .int .i64 0, .int .i64 0, .int .i64 0, .int .i64 0], .bool false], []⟩ 8 (by kernel_rfl) (by kernel_rfl) (by kernel_rfl) (by kernel_rfl)) ?_
  intro W base args ds gs before hval0 hW hcnd _
  have hval : ∀ (j : Nat) t v, Try.f6.params[j]? = some t → args[j]? = some v → Value.okWide Try.prog W .any base t v := hval0
  have hW' := hW
  obtain ⟨p, q, hA0, hV, rfl, hfz, hnd⟩ := hW
  have hA : DataW.TrodAll enc Try.prog W 0 (fun _ => true) true Try.f6.params.toList args.toList ds p := hA0
  rw [Try.params6] at hA hval
  obtain ⟨v0, vs0, d0, ds0, p0, q0, hargs, rfl, rfl, h0, r0⟩ := trodAll_cons hA
  obtain ⟨v1, vs1, d1, ds1, p1, q1, rfl, rfl, rfl, h1, r1⟩ := trodAll_cons r0
  obtain ⟨rfl, rfl, rfl⟩ := trodAll_nil r1
  obtain rfl : args = #[v0, v1] := by cases args; simp_all
  obtain ⟨rfl, rfl⟩ := trodVars_none hV
  have k0 := h0
  have lt0 : ∀ x ∈ p0, x.block < W.heap.size := by obtain ⟨m, hm⟩ := k0; exact DataW.trod_lt m _ _ _ hm
  obtain ⟨x00, x01, x02, x03, x04, x05, x06, x07, rfl⟩ := open_four (hval 0 24 v0 rfl rfl) h0
  obtain ⟨a1, rfl, rfl, rfl⟩ := open_bool Try.underlying4 (hval 1 4 v1 rfl rfl) h1
  clear hA0 hval0
  refine (walk x00 x01 x02 x03 x04 x05 x06 x07 a1 W).mono fun e W' ⟨he, bel⟩ => ?_
  subst he
  exact ⟨_, rfl, _, _, _, [], _, [], hW', trodAll_mk1 (shut_bool Try.underlying4 _), (trodAll_cons_mk (Below.trod laidOut (by kernel_rfl) (of_decide_eq_true (by kernel_rfl)) k0 bel lt0) (trodAll_cons_mk (shut_bool Try.underlying4 _) trodAll_mk0)), rfl, bel.frame _, fun h => by cases h⟩

/-- THE STATEMENT. -/
theorem holds : Rows.GeomCutsSaid :=
  OpenClaim.holds_of_wide 6 Try.f6 rfl rfl rfl rfl rfl rfl rfl ⟨rfl, rfl, rfl, rfl, rfl⟩ rfl rfl rfl rfl rfl (by kernel_rfl) Try.func6 (by kernel_rfl)
    (of_decide_eq_true (by kernel_rfl)) (by unfold Func.isWrapper; first | (rw [if_pos (by decide +kernel)]; kernel_rfl) | (rw [if_neg (by decide +kernel)]; exact ⟨rfl, rfl⟩))
    (fun os started H enc _ => lifted os started H enc)
#print axioms holds
end Go.Proofs.Ytbkbdejmnhpdeaa.geomCuts
