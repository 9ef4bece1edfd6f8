/- head of the statements of layer 1: fixed examples; it returns true in every world in which the table lies as the program's text lays it. Written by wip/gen_head.py. -/
import Derived.Test.YtedhbcjlcgkocaaDoorRotC
namespace Go.Proofs.YtedhbcjlcgkocaaDoor
open Go.ChangeShapes Go.WideShapes Go.ChangeAt Go.RowKit

theorem hd_cs10 (w : World) (hT : Tab w) : Calls Tryd.prog 13 #[.int .i64 10] w fun e w' => e = .returned (.tuple #[.int .i64 (-16), .int .i64 63]) ∧ Below w.heap.size w w' :=
  let _ := hT
  (cossin_any 10 w hT (by omega)).mono fun e w' ⟨he, hb⟩ => ⟨he.trans (by first | rfl | decide +kernel), hb⟩
theorem hd_cs1 (w : World) (hT : Tab w) : Calls Tryd.prog 13 #[.int .i64 (-1)] w fun e w' => e = .returned (.tuple #[.int .i64 63, .int .i64 (-16)]) ∧ Below w.heap.size w w' :=
  let _ := hT
  (cossin_any (-1) w hT (by omega)).mono fun e w' ⟨he, hb⟩ => ⟨he.trans (by first | rfl | decide +kernel), hb⟩
theorem hd_rp1 (w : World) (hT : Tab w) : Calls Tryd.prog 15 #[.agg #[.int .i64 65, .int .i64 130], .int .i64 1] w fun e w' => e = .returned (.tuple #[.agg #[.int .i64 31, .int .i64 142], .bool true]) ∧ Below w.heap.size w w' :=
  let _ := hT
  (rotate_ok 65 130 1 31 142 2015 9230 w hT (by omega) (by omega) (by omega) (Lib.hid (by decide)) (Lib.hid (by decide)) (Lib.hid (by decide)) (Lib.hid (by decide)) (by omega) (by omega)).mono fun e w' ⟨he, hb⟩ => ⟨he.trans (by first | rfl | decide +kernel), hb⟩
theorem hd_rp2 (w : World) (hT : Tab w) : Calls Tryd.prog 15 #[.agg #[.int .i64 1, .int .i64 0], .int .i64 1] w fun e w' => e = .returned (.tuple #[.agg #[.int .i64 0, .int .i64 0], .bool false]) ∧ Below w.heap.size w w' :=
  let _ := hT
  (rotate_no 1 0 1 63 16 w hT (by omega) (by omega) (by omega) (Lib.hid (by decide)) (Lib.hid (by decide)) (by decide)).mono fun e w' ⟨he, hb⟩ => ⟨he.trans (by first | rfl | decide +kernel), hb⟩
theorem hd_co (w : World) (hT : Tab w) : Calls Tryd.prog 21 #[.agg #[.int .i64 1, .int .i64 0, .int .i64 0], .int .i64 5] w fun e w' => e = .returned (.agg #[.int .i64 39, .int .i64 52, .int .i64 1]) ∧ Below w.heap.size w w' :=
  let _ := hT
  (compose_ok 1 0 0 5 w hT (by decide) (by omega) (by omega)).mono fun e w' ⟨he, hb⟩ => ⟨he.trans (by first | rfl | decide +kernel), hb⟩
theorem hd_in1 (w : World) (hT : Tab w) : Calls Tryd.prog 17 #[.int .i64 17] w fun e w' => e = .returned (.int .i64 (-17)) ∧ w = w' :=
  let _ := hT
  (inverse_any 17 w (by omega)).mono fun e w' ⟨he, hb⟩ => ⟨he.trans (by first | rfl | decide +kernel), hb⟩
theorem hd_in2 (w : World) (hT : Tab w) : Calls Tryd.prog 17 #[.int .i64 (-18)] w fun e w' => e = .returned (.int .i64 18) ∧ w = w' :=
  let _ := hT
  (inverse_any (-18) w (by omega)).mono fun e w' ⟨he, hb⟩ => ⟨he.trans (by first | rfl | decide +kernel), hb⟩
theorem hd_va1 (w : World) (hT : Tab w) : Calls Tryd.prog 19 #[.agg #[.int .i64 39, .int .i64 52, .int .i64 1]] w fun e w' => e = .returned (.bool true) ∧ Below w.heap.size w w' :=
  let _ := hT
  (valid_any 39 52 1 w).mono fun e w' ⟨he, hb⟩ => ⟨he.trans (by first | rfl | decide +kernel), hb⟩
theorem hd_va2 (w : World) (hT : Tab w) : Calls Tryd.prog 19 #[.agg #[.int .i64 0, .int .i64 0, .int .i64 0]] w fun e w' => e = .returned (.bool false) ∧ Below w.heap.size w w' :=
  let _ := hT
  (valid_any 0 0 0 w).mono fun e w' ⟨he, hb⟩ => ⟨he.trans (by first | rfl | decide +kernel), hb⟩
theorem hd_of (w : World) (hT : Tab w) : Calls Tryd.prog 23 #[.agg #[.int .i64 39, .int .i64 52, .int .i64 1], .int .i64 5] w fun e w' => e = .returned (.agg #[.int .i64 13182000, .int .i64 17576000]) ∧ Below w.heap.size w w' :=
  let _ := hT
  (offset_ok 39 52 1 5 w (by decide) (by omega)).mono fun e w' ⟨he, hb⟩ => ⟨he.trans (by first | rfl | decide +kernel), hb⟩
theorem hd_rq (w : World) (hT : Tab w) : Calls Tryd.prog 25 #[.agg #[.int .i64 3, .int .i64 4]] w fun e w' => e = .returned (.agg #[.int .i64 (-4), .int .i64 3]) ∧ Below w.heap.size w w' :=
  let _ := hT
  (quarter_any 3 4 w (by omega)).mono fun e w' ⟨he, hb⟩ => ⟨he.trans (by first | rfl | decide +kernel), hb⟩

set_option maxHeartbeats 1000000 in
theorem head_any (w : World) (hT : Tab w) : Calls Tryd.prog 10 #[] w fun e w' => e = .returned (.bool true) ∧ Below w.heap.size w w' := by
  have hB0 : Below w.heap.size w w := Below.refl _ _
  have hT0 := hT
  obtain ⟨w0, hw0⟩ : ∃ w0 : World, w0 = w := ⟨w, rfl⟩
  subst hw0
  go_enter Tryd.func10, Tryd.ntmps10
  go_wp2_with fail
  refine (hd_cs10 _ (by repeat (first | exact hT0 | apply Tab.alloc))).mono ?_; rintro e w1 ⟨rfl, hb1⟩
  have hT1 : Tab w1 := Tab.below (by repeat (first | exact hT0 | apply Tab.alloc)) hb1
  obtain ⟨hc1, hf1⟩ := bcell hb1
  have hs1 : w0.heap.size ≤ w1.heap.size := by have := hb1.size; simpa using this
  have hB1 : Below w0.heap.size w0 w1 := (hB0).trans (hb1.mono (by have := hB0.size; first | omega | (simp; done) | (simp; omega)))
  go_wp2_with fail
  refine (hd_cs1 _ (by repeat (first | exact hT1 | apply Tab.alloc))).mono ?_; rintro e w2 ⟨rfl, hb2⟩
  have hT2 : Tab w2 := Tab.below (by repeat (first | exact hT1 | apply Tab.alloc)) hb2
  obtain ⟨hc2, hf2⟩ := bcell hb2
  have hs2 : w1.heap.size ≤ w2.heap.size := by have := hb2.size; simpa using this
  have hB2 : Below w0.heap.size w0 w2 := (hB1).trans (hb2.mono (by have := hB1.size; first | omega | (simp; done) | (simp; omega)))
  go_wp2_with fail
  refine (hd_rp1 _ (by repeat (first | exact hT2 | apply Tab.alloc))).mono ?_; rintro e w3 ⟨rfl, hb3⟩
  have hT3 : Tab w3 := Tab.below (by repeat (first | exact hT2 | apply Tab.alloc)) hb3
  obtain ⟨hc3, hf3⟩ := bcell hb3
  have hs3 : w2.heap.size ≤ w3.heap.size := by have := hb3.size; simpa using this
  have hB3 : Below w0.heap.size w0 w3 := (hB2).trans (hb3.mono (by have := hB2.size; first | omega | (simp; done) | (simp; omega)))
  go_wp2_with fail
  refine (hd_rp2 _ (by repeat (first | exact hT3 | apply Tab.alloc))).mono ?_; rintro e w4 ⟨rfl, hb4⟩
  have hT4 : Tab w4 := Tab.below (by repeat (first | exact hT3 | apply Tab.alloc)) hb4
  obtain ⟨hc4, hf4⟩ := bcell hb4
  have hs4 : w3.heap.size + 1 ≤ w4.heap.size := by have := hb4.size; simpa using this
  have hB4 : Below w0.heap.size w0 w4 := (hB3.alloc hB3.size _).trans (hb4.mono (by have := hB3.size; first | omega | (simp; done) | (simp; omega)))
  have hz3_4 : w3.heap.size < w4.heap.size := by omega
  go_wp2_with fail
  refine (hd_co _ (by repeat (first | exact hT4 | apply Tab.alloc))).mono ?_; rintro e w5 ⟨rfl, hb5⟩
  have hT5 : Tab w5 := Tab.below (by repeat (first | exact hT4 | apply Tab.alloc)) hb5
  obtain ⟨hc5, hf5⟩ := bcell hb5
  have hs5 : w4.heap.size + 1 ≤ w5.heap.size := by have := hb5.size; simpa using this
  have hB5 : Below w0.heap.size w0 w5 := (hB4.alloc hB4.size _).trans (hb5.mono (by have := hB4.size; first | omega | (simp; done) | (simp; omega)))
  have hz3_5 : w3.heap.size < w5.heap.size := by omega
  have hz4_5 : w4.heap.size < w5.heap.size := by omega
  go_wp2_with fail
  refine (hd_in1 _ (by repeat (first | exact hT5 | apply Tab.alloc))).mono ?_; rintro e w' ⟨rfl, rfl⟩
  go_wp2_with fail
  refine (hd_in2 _ (by repeat (first | exact hT5 | apply Tab.alloc))).mono ?_; rintro e w' ⟨rfl, rfl⟩
  go_wp2_with fail
  refine (hd_va1 _ (by repeat (first | exact hT5 | apply Tab.alloc))).mono ?_; rintro e w6 ⟨rfl, hb6⟩
  have hT6 : Tab w6 := Tab.below (by repeat (first | exact hT5 | apply Tab.alloc)) hb6
  obtain ⟨hc6, hf6⟩ := bcell hb6
  have hs6 : w5.heap.size + 1 ≤ w6.heap.size := by have := hb6.size; simpa using this
  have hB6 : Below w0.heap.size w0 w6 := (hB5.alloc hB5.size _).trans (hb6.mono (by have := hB5.size; first | omega | (simp; done) | (simp; omega)))
  have hz3_6 : w3.heap.size < w6.heap.size := by omega
  have hz4_6 : w4.heap.size < w6.heap.size := by omega
  have hz5_6 : w5.heap.size < w6.heap.size := by omega
  go_wp2_with fail
  refine (hd_va2 _ (by repeat (first | exact hT6 | apply Tab.alloc))).mono ?_; rintro e w7 ⟨rfl, hb7⟩
  have hT7 : Tab w7 := Tab.below (by repeat (first | exact hT6 | apply Tab.alloc)) hb7
  obtain ⟨hc7, hf7⟩ := bcell hb7
  have hs7 : w6.heap.size ≤ w7.heap.size := by have := hb7.size; simpa using this
  have hB7 : Below w0.heap.size w0 w7 := (hB6).trans (hb7.mono (by have := hB6.size; first | omega | (simp; done) | (simp; omega)))
  have hz3_7 : w3.heap.size < w7.heap.size := by omega
  have hz4_7 : w4.heap.size < w7.heap.size := by omega
  have hz5_7 : w5.heap.size < w7.heap.size := by omega
  go_wp2_with fail
  refine (hd_of _ (by repeat (first | exact hT7 | apply Tab.alloc))).mono ?_; rintro e w8 ⟨rfl, hb8⟩
  have hT8 : Tab w8 := Tab.below (by repeat (first | exact hT7 | apply Tab.alloc)) hb8
  obtain ⟨hc8, hf8⟩ := bcell hb8
  have hs8 : w7.heap.size ≤ w8.heap.size := by have := hb8.size; simpa using this
  have hB8 : Below w0.heap.size w0 w8 := (hB7).trans (hb8.mono (by have := hB7.size; first | omega | (simp; done) | (simp; omega)))
  have hz3_8 : w3.heap.size < w8.heap.size := by omega
  have hz4_8 : w4.heap.size < w8.heap.size := by omega
  have hz5_8 : w5.heap.size < w8.heap.size := by omega
  go_wp2_with fail
  refine (hd_rq _ (by repeat (first | exact hT8 | apply Tab.alloc))).mono ?_; rintro e w9 ⟨rfl, hb9⟩
  have hT9 : Tab w9 := Tab.below (by repeat (first | exact hT8 | apply Tab.alloc)) hb9
  obtain ⟨hc9, hf9⟩ := bcell hb9
  have hs9 : w8.heap.size ≤ w9.heap.size := by have := hb9.size; simpa using this
  have hB9 : Below w0.heap.size w0 w9 := (hB8).trans (hb9.mono (by have := hB8.size; first | omega | (simp; done) | (simp; omega)))
  have hz3_9 : w3.heap.size < w9.heap.size := by omega
  have hz4_9 : w4.heap.size < w9.heap.size := by omega
  have hz5_9 : w5.heap.size < w9.heap.size := by omega
  go_wp2_with fail
  go_ret
  exact ⟨rfl, hB9⟩
end Go.Proofs.YtedhbcjlcgkocaaDoor
