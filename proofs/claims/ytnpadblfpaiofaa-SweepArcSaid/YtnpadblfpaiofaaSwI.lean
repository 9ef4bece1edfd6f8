/- Contract of head of the statements of layer 6: the fixed examples; head returns true in every world. -/
import Derived.Test.YtnpadblfpaiofaaSwH
namespace Go.Proofs.Ytnpadblfpaiofaa
open Go.ChangeShapes Go.WideShapes Go.ChangeAt Go.RowKit
set_option linter.unusedVariables false
set_option linter.unusedSimpArgs false

def h6A : List (Int × Int) := [(0, 0), (32, 0), (32, 16)]
def h6B : List (Int × Int) := [(0, 0), (0, 32), (-16, 32)]
def h6H : List (Int × Int) := [(-16, 32), (0, 0), (32, 0), (32, 16), (0, 32)]
theorem h6_nil : regL (0, 0) [] [] = [] := (if_pos ⟨rfl, by decide⟩).trans (hullL_short (by decide))
theorem h6_reg : regL (0, 0) h6A h6B = h6H := (if_pos ⟨rfl, by decide⟩).trans (hullL_eq (isHull_of (by kernel_rfl)))
theorem h6_a1 : outP (0, 0) (32, 0) (0, 32) = (18, 18) := by decide
theorem h6_a2 : outP (16, 0) (48, 0) (16, 32) = (34, 18) := by decide
theorem h6_a3 : outP (0, 0) (-1, 1) (0, 0) = (0, 0) := by decide
theorem allV_nil : AllV [] := fun i hi => absurd hi (by simp)
theorem h6_vA : AllV h6A := allV_of (by kernel_rfl)
theorem h6_vB : AllV h6B := allV_of (by kernel_rfl)
theorem h6_vO : AllV (outL (0, 0) h6A h6B) := allV_of (by kernel_rfl)

set_option maxRecDepth 100000 in
set_option maxHeartbeats 16000000 in
theorem head6_is (w : World) : Calls Try.prog 21 #[] w fun e w' => e = .returned (.bool true) ∧ Below w.heap.size w w' := by
  go_enter Try.func21, Try.ntmps21
  go_wp2_with fail
  refine (at_is 0 0 _).mono ?_
  rintro e w1 ⟨rfl, hb1⟩
  have B := Lib.hid (belT (Below.refl _ w) hb1)
  clear hb1
  go_wp2_with fail
  refine (region_is none none 0 0 0 0 0 0 [] [] [] false _ rfl rfl (Lib.hid h6_nil) (Lib.hid rfl) (by omega) (by omega) prow_nil prow_nil allV_nil allV_nil (by unfold InV; omega) (by unfold InV; omega) allV_nil).mono ?_
  rintro e w2 ⟨⟨p1, d1, rfl, _⟩, hb2⟩
  replace B := Lib.hid (belT B.out hb2)
  clear hb2
  go_wp2_with fail
  refine (at_is 0 0 _).mono ?_
  rintro e w3 ⟨rfl, hb3⟩
  replace B := Lib.hid (belT B.out hb3)
  clear hb3
  go_wp2_with fail
  refine (at_is 0 0 _).mono ?_
  rintro e w4 ⟨rfl, hb4⟩
  replace B := Lib.hid (belT B.out hb4)
  clear hb4
  go_wp2_with fail
  refine (at_is 32 0 _).mono ?_
  rintro e w5 ⟨rfl, hb5⟩
  replace B := Lib.hid (belT B.out hb5)
  clear hb5
  go_wp2_with fail
  refine (at_is 32 16 _).mono ?_
  rintro e w6 ⟨rfl, hb6⟩
  replace B := Lib.hid (belT B.out hb6)
  clear hb6
  go_wp2_with fail
  refine (at_is 0 0 _).mono ?_
  rintro e w7 ⟨rfl, hb7⟩
  have ZA := Lib.hid (blk_call (blk_new w6 (.cells #[.int .i64 0, .int .i64 0, .int .i64 32, .int .i64 0, .int .i64 32, .int .i64 16] 35) (w6.heap.size) rfl) hb7)
  replace B := Lib.hid (belT (belA B.out (.cells #[.int .i64 0, .int .i64 0, .int .i64 32, .int .i64 0, .int .i64 32, .int .i64 16] 35)) hb7)
  clear hb7
  go_wp2_with fail
  refine (at_is 0 32 _).mono ?_
  rintro e w8 ⟨rfl, hb8⟩
  replace ZA := Lib.hid (blk_call ZA.out hb8)
  replace B := Lib.hid (belT B.out hb8)
  clear hb8
  go_wp2_with fail
  refine (at_is (-16) 32 _).mono ?_
  rintro e w9 ⟨rfl, hb9⟩
  replace ZA := Lib.hid (blk_call ZA.out hb9)
  replace B := Lib.hid (belT B.out hb9)
  clear hb9
  go_wp2_with fail
  refine (region_is (some ⟨w6.heap.size, 0, none⟩) (some ⟨w9.heap.size, 0, none⟩) 3 3 3 3 0 0 h6A h6B h6H true _ rfl rfl (Lib.hid h6_reg) (Lib.hid rfl) (by omega) (by omega) (row_of (T := 35) (l := h6A) (blk_alloc ZA.out (.cells #[.int .i64 0, .int .i64 0, .int .i64 0, .int .i64 32, .int .i64 (-16), .int .i64 32] 35))) (row_of (T := 35) (l := h6B) (blk_new w9 (.cells #[.int .i64 0, .int .i64 0, .int .i64 0, .int .i64 32, .int .i64 (-16), .int .i64 32] 35) _ rfl)) h6_vA h6_vB (by unfold InV; omega) (by unfold InV; omega) h6_vO).mono ?_
  rintro e w10 ⟨⟨p2, d2, rfl, hp⟩, hb10⟩
  replace ZA := Lib.hid (blk_call (blk_alloc ZA.out (.cells #[.int .i64 0, .int .i64 0, .int .i64 0, .int .i64 32, .int .i64 (-16), .int .i64 32] 35)) hb10)
  have ZB := Lib.hid (blk_call (blk_new w9 (.cells #[.int .i64 0, .int .i64 0, .int .i64 0, .int .i64 32, .int .i64 (-16), .int .i64 32] 35) (w9.heap.size) rfl) hb10)
  replace B := Lib.hid (belT (belA B.out (.cells #[.int .i64 0, .int .i64 0, .int .i64 0, .int .i64 32, .int .i64 (-16), .int .i64 32] 35)) hb10)
  clear hb10
  have RP := Lib.hid hp
  clear hp
  clear ZA
  clear ZB
  go_wp2_with fail
  refine (at_is 0 0 _).mono ?_
  rintro e w11 ⟨rfl, hb11⟩
  replace RP := Lib.hid (prow_below RP.out hb11)
  replace B := Lib.hid (belT B.out hb11)
  clear hb11
  go_wp2_with fail
  refine (at_is 32 0 _).mono ?_
  rintro e w12 ⟨rfl, hb12⟩
  replace RP := Lib.hid (prow_below RP.out hb12)
  replace B := Lib.hid (belT B.out hb12)
  clear hb12
  go_wp2_with fail
  refine (at_is 0 32 _).mono ?_
  rintro e w13 ⟨rfl, hb13⟩
  replace RP := Lib.hid (prow_below RP.out hb13)
  replace B := Lib.hid (belT B.out hb13)
  clear hb13
  go_wp2_with fail
  refine (arc_is 0 0 32 0 0 32 (18, 18) _ (by unfold InV; omega) (by unfold InV; omega) (by unfold InV; omega) (by unfold InV; omega) (by unfold InV; omega) (by unfold InV; omega) (Lib.hid h6_a1)).mono ?_
  rintro e w14 ⟨rfl, hb14⟩
  replace RP := Lib.hid (prow_below RP.out hb14)
  replace B := Lib.hid (belT B.out hb14)
  clear hb14
  go_wp2_with fail
  refine (at_is 18 18 _).mono ?_
  rintro e w15 ⟨rfl, hb15⟩
  replace RP := Lib.hid (prow_below RP.out hb15)
  replace B := Lib.hid (belT B.out hb15)
  clear hb15
  go_wp2_with fail
  refine (at_is 16 0 _).mono ?_
  rintro e w16 ⟨rfl, hb16⟩
  replace RP := Lib.hid (prow_below RP.out hb16)
  replace B := Lib.hid (belT B.out hb16)
  clear hb16
  go_wp2_with fail
  refine (at_is 48 0 _).mono ?_
  rintro e w17 ⟨rfl, hb17⟩
  replace RP := Lib.hid (prow_below RP.out hb17)
  replace B := Lib.hid (belT B.out hb17)
  clear hb17
  go_wp2_with fail
  refine (at_is 16 32 _).mono ?_
  rintro e w18 ⟨rfl, hb18⟩
  replace RP := Lib.hid (prow_below RP.out hb18)
  replace B := Lib.hid (belT B.out hb18)
  clear hb18
  go_wp2_with fail
  refine (arc_is 16 0 48 0 16 32 (34, 18) _ (by unfold InV; omega) (by unfold InV; omega) (by unfold InV; omega) (by unfold InV; omega) (by unfold InV; omega) (by unfold InV; omega) (Lib.hid h6_a2)).mono ?_
  rintro e w19 ⟨rfl, hb19⟩
  replace RP := Lib.hid (prow_below RP.out hb19)
  replace B := Lib.hid (belT B.out hb19)
  clear hb19
  go_wp2_with fail
  refine (at_is 34 18 _).mono ?_
  rintro e w20 ⟨rfl, hb20⟩
  replace RP := Lib.hid (prow_below RP.out hb20)
  replace B := Lib.hid (belT B.out hb20)
  clear hb20
  go_wp2_with fail
  refine (at_is 0 0 _).mono ?_
  rintro e w21 ⟨rfl, hb21⟩
  replace RP := Lib.hid (prow_below RP.out hb21)
  replace B := Lib.hid (belT B.out hb21)
  clear hb21
  go_wp2_with fail
  refine (at_is (-1) 1 _).mono ?_
  rintro e w22 ⟨rfl, hb22⟩
  replace RP := Lib.hid (prow_below RP.out hb22)
  replace B := Lib.hid (belT B.out hb22)
  clear hb22
  go_wp2_with fail
  refine (at_is 0 0 _).mono ?_
  rintro e w23 ⟨rfl, hb23⟩
  replace RP := Lib.hid (prow_below RP.out hb23)
  replace B := Lib.hid (belT B.out hb23)
  clear hb23
  go_wp2_with fail
  refine (arc_is 0 0 (-1) 1 0 0 (0, 0) _ (by unfold InV; omega) (by unfold InV; omega) (by unfold InV; omega) (by unfold InV; omega) (by unfold InV; omega) (by unfold InV; omega) (Lib.hid h6_a3)).mono ?_
  rintro e w24 ⟨rfl, hb24⟩
  replace RP := Lib.hid (prow_below RP.out hb24)
  replace B := Lib.hid (belT B.out hb24)
  clear hb24
  go_wp2_with fail
  refine (at_is 0 0 _).mono ?_
  rintro e w25 ⟨rfl, hb25⟩
  replace RP := Lib.hid (prow_below RP.out hb25)
  replace B := Lib.hid (belT B.out hb25)
  clear hb25
  go_wp2_with fail
  refine (at_is (-16) 32 _).mono ?_
  rintro e w26 ⟨rfl, hb26⟩
  replace RP := Lib.hid (prow_below RP.out hb26)
  replace B := Lib.hid (belT B.out hb26)
  clear hb26
  go_wp2_with fail
  refine (at_is 0 0 _).mono ?_
  rintro e w27 ⟨rfl, hb27⟩
  replace RP := Lib.hid (prow_below RP.out hb27)
  replace B := Lib.hid (belT B.out hb27)
  clear hb27
  go_wp2_with fail
  refine (at_is 32 0 _).mono ?_
  rintro e w28 ⟨rfl, hb28⟩
  replace RP := Lib.hid (prow_below RP.out hb28)
  replace B := Lib.hid (belT B.out hb28)
  clear hb28
  go_wp2_with fail
  refine (at_is 32 16 _).mono ?_
  rintro e w29 ⟨rfl, hb29⟩
  replace RP := Lib.hid (prow_below RP.out hb29)
  replace B := Lib.hid (belT B.out hb29)
  clear hb29
  go_wp2_with fail
  refine (at_is 0 32 _).mono ?_
  rintro e w30 ⟨rfl, hb30⟩
  replace RP := Lib.hid (prow_below RP.out hb30)
  replace B := Lib.hid (belT B.out hb30)
  clear hb30
  go_wp2_with fail
  refine (same_is p2 (some ⟨w30.heap.size, 0, none⟩) _ 5 d2 5 h6H h6H true _ rfl rfl (Lib.hid (decide_eq_true rfl)) (by decide) (by decide) (prow_alloc RP.out (.cells #[.int .i64 (-16), .int .i64 32, .int .i64 0, .int .i64 0, .int .i64 32, .int .i64 0, .int .i64 32, .int .i64 16, .int .i64 0, .int .i64 32] 35)) (row_of (T := 35) (l := h6H) (blk_new w30 (.cells #[.int .i64 (-16), .int .i64 32, .int .i64 0, .int .i64 0, .int .i64 32, .int .i64 0, .int .i64 32, .int .i64 16, .int .i64 0, .int .i64 32] 35) _ rfl))).mono ?_
  rintro e w31 ⟨rfl, hb31⟩
  replace RP := Lib.hid (prow_below (prow_alloc RP.out (.cells #[.int .i64 (-16), .int .i64 32, .int .i64 0, .int .i64 0, .int .i64 32, .int .i64 0, .int .i64 32, .int .i64 16, .int .i64 0, .int .i64 32] 35)) hb31)
  replace B := Lib.hid (belT (belA B.out (.cells #[.int .i64 (-16), .int .i64 32, .int .i64 0, .int .i64 0, .int .i64 32, .int .i64 0, .int .i64 32, .int .i64 16, .int .i64 0, .int .i64 32] 35)) hb31)
  clear hb31
  go_wp2_with fail
  go_ret
  exact ⟨rfl, B.out⟩
end Go.Proofs.Ytnpadblfpaiofaa
