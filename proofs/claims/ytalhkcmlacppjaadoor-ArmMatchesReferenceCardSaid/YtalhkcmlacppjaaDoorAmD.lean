/- Contracts of package arm: Valid, InLimits. No condition on memory. -/
import Derived.Test.YtalhkcmlacppjaaDoorAmC
namespace Go.Proofs.YtalhkcmlacppjaaDoor
open Go.ChangeShapes Go.WideShapes Go.ChangeAt Go.RowKit
set_option linter.unusedVariables false
set_option linter.unusedSimpArgs false
set_option maxRecDepth 100000

def baseB (X Y n0 n1 n2 W : Int) : Bool := coordB X ((100 - (W + n0 + n1 + n2)) * 4394000) && coordB Y ((100 - (W + n0 + n1 + n2)) * 4394000)
set_option maxHeartbeats 1000000 in
theorem base_any (X Y n0 n1 n2 W l0 l1 l2 h0 h1 h2 : Int) (w : World) (hs : sizesB n0 n1 n2 W = true) :
    Calls Tryd.prog 37 #[.agg #[.int .i64 X, .int .i64 Y, .int .i64 n0, .int .i64 n1, .int .i64 n2, .int .i64 W, .int .i64 l0, .int .i64 l1, .int .i64 l2, .int .i64 h0, .int .i64 h1, .int .i64 h2]] w fun e w' => e = .returned (.bool (baseB X Y n0 n1 n2 W)) ∧ Below w.heap.size w w' := by
  have hs' := of_decide_eq_true hs
  have I0 := fun w => (ixI n0 n1 n2 w).1
  have I1 := fun w => (ixI n0 n1 n2 w).2.1
  have I2 := fun w => (ixI n0 n1 n2 w).2.2
  unfold baseB
  obtain ⟨tx, hx⟩ : ∃ t, coordB X ((100 - (W + n0 + n1 + n2)) * 4394000) = t := ⟨_, rfl⟩
  obtain ⟨ty, hy⟩ : ∃ t, coordB Y ((100 - (W + n0 + n1 + n2)) * 4394000) = t := ⟨_, rfl⟩
  have HX := Lib.hid hx
  have HY := Lib.hid hy
  rw [hx, hy]
  clear hx hy
  have CX := fun w => coord_any X ((100 - (W + n0 + n1 + n2)) * 4394000) tx w (by omega) HX
  have CY := fun w => coord_any Y ((100 - (W + n0 + n1 + n2)) * 4394000) ty w (by omega) HY
  clear HX HY hs
  have CX := Lib.hid CX
  have CY := Lib.hid CY
  cases tx
  all_goals
    go_enter Tryd.func37, Tryd.ntmps37
    go_wp2_with fail
    refine wp_loop_rounds 4 ?_
    repeat (rw [rounds_succ]; go_wp2_with (go_at_call 60; (first | with_reducible refine (CX.out _).mono ?_ | with_reducible refine (CY.out _).mono ?_); rintro e w' ⟨rfl, rfl⟩))
    go_ret
    exact ⟨ret_bool rfl, by go_grown⟩
def armB (X Y n0 n1 n2 W l0 l1 l2 h0 h1 h2 : Int) : Bool := sizesB n0 n1 n2 W && (limitsB l0 l1 l2 h0 h1 h2 && baseB X Y n0 n1 n2 W)
theorem armB_iff (X Y n0 n1 n2 W l0 l1 l2 h0 h1 h2 : Int) : armB X Y n0 n1 n2 W l0 l1 l2 h0 h1 h2 = true ↔ ((1 ≤ n0 ∧ n0 ≤ 40) ∧ (1 ≤ n1 ∧ n1 ≤ 40) ∧ (1 ≤ n2 ∧ n2 ≤ 40) ∧ 1 ≤ W ∧ W ≤ 4) ∧ ((-17 ≤ l0 ∧ l0 ≤ h0 ∧ h0 ≤ 18) ∧ (-17 ≤ l1 ∧ l1 ≤ h1 ∧ h1 ≤ 18) ∧ (-17 ≤ l2 ∧ l2 ≤ h2 ∧ h2 ≤ 18)) ∧ (X % 16 = 0 ∧ -((100 - (W + n0 + n1 + n2)) * 4394000) ≤ X ∧ X ≤ ((100 - (W + n0 + n1 + n2)) * 4394000)) ∧ Y % 16 = 0 ∧ -((100 - (W + n0 + n1 + n2)) * 4394000) ≤ Y ∧ Y ≤ ((100 - (W + n0 + n1 + n2)) * 4394000) := by
  unfold armB baseB sizesB limitsB coordB
  simp only [Bool.and_eq_true, decide_eq_true_eq]
set_option maxHeartbeats 2000000 in
theorem armv_any (X Y n0 n1 n2 W l0 l1 l2 h0 h1 h2 : Int) (w : World) :
    Calls Tryd.prog 11 #[.agg #[.int .i64 X, .int .i64 Y, .int .i64 n0, .int .i64 n1, .int .i64 n2, .int .i64 W, .int .i64 l0, .int .i64 l1, .int .i64 l2, .int .i64 h0, .int .i64 h1, .int .i64 h2]] w fun e w' => e = .returned (.bool (armB X Y n0 n1 n2 W l0 l1 l2 h0 h1 h2)) ∧ Below w.heap.size w w' := by
  by_cases s1 : sizesB n0 n1 n2 W = true
  · by_cases s2 : limitsB l0 l1 l2 h0 h1 h2 = true
    · obtain ⟨t, ht⟩ : ∃ t, baseB X Y n0 n1 n2 W = t := ⟨_, rfl⟩
      have hT : Hid (armB X Y n0 n1 n2 W l0 l1 l2 h0 h1 h2 = t) := Lib.hid (by unfold armB; rw [s1, s2, ht]; rfl)
      have b3 := base_any X Y n0 n1 n2 W l0 l1 l2 h0 h1 h2
      rw [ht] at b3
      have b1 := sizes_any X Y n0 n1 n2 W l0 l1 l2 h0 h1 h2
      rw [s1] at b1
      have b2 := limits_any X Y n0 n1 n2 W l0 l1 l2 h0 h1 h2
      rw [s2] at b2
      have H1 := Lib.hid b1
      have H2 := Lib.hid b2
      have H3 := Lib.hid b3
      have S1 := Lib.hid s1
      clear b1 b2 b3 s1 s2 ht
      go_enter Tryd.func11, Tryd.ntmps11
      go_wp2_with fail
      refine (H1.out _).mono ?_
      rintro e w1 ⟨rfl, hb1⟩
      obtain ⟨hc1, hf1⟩ := bcellR hb1
      have B1 := Lib.hid (belT (belA (Below.refl _ w) _) hb1)
      have k1 : w.heap.size < w1.heap.size := by have := hb1.size; simp at this; omega
      clear hb1
      go_wp2_with fail
      refine (H2.out _).mono ?_
      rintro e w2 ⟨rfl, hb2⟩
      obtain ⟨hc2, hf2⟩ := bcellR hb2
      have B2 := Lib.hid (belT B1.out hb2)
      have k2 : w.heap.size < w2.heap.size := by have := hb2.size; omega
      clear hb2
      go_wp2_with fail
      refine (H3.out _ S1.out).mono ?_
      rintro e w3 ⟨rfl, hb3⟩
      have B3 := Lib.hid (belT B2.out hb3)
      clear hb3
      go_wp2_with fail
      go_ret
      exact ⟨ret_bool hT.out.symm, B3.out⟩
    · have s2' : limitsB l0 l1 l2 h0 h1 h2 = false := by simpa using s2
      have hT : Hid (armB X Y n0 n1 n2 W l0 l1 l2 h0 h1 h2 = false) := Lib.hid (by unfold armB; rw [s1, s2']; rfl)
      have b1 := sizes_any X Y n0 n1 n2 W l0 l1 l2 h0 h1 h2
      rw [s1] at b1
      have b2 := limits_any X Y n0 n1 n2 W l0 l1 l2 h0 h1 h2
      rw [s2'] at b2
      have H1 := Lib.hid b1
      have H2 := Lib.hid b2
      clear b1 b2 s1 s2 s2'
      go_enter Tryd.func11, Tryd.ntmps11
      go_wp2_with fail
      refine (H1.out _).mono ?_
      rintro e w1 ⟨rfl, hb1⟩
      obtain ⟨hc1, hf1⟩ := bcellR hb1
      have B1 := Lib.hid (belT (belA (Below.refl _ w) _) hb1)
      have k1 : w.heap.size < w1.heap.size := by have := hb1.size; simp at this; omega
      clear hb1
      go_wp2_with fail
      refine (H2.out _).mono ?_
      rintro e w2 ⟨rfl, hb2⟩
      have B2 := Lib.hid (belT B1.out hb2)
      clear hb2
      go_wp2_with fail
      go_ret
      exact ⟨ret_bool hT.out.symm, B2.out⟩
  · have s1' : sizesB n0 n1 n2 W = false := by simpa using s1
    have hT : Hid (armB X Y n0 n1 n2 W l0 l1 l2 h0 h1 h2 = false) := Lib.hid (by unfold armB; rw [s1']; rfl)
    have b1 := sizes_any X Y n0 n1 n2 W l0 l1 l2 h0 h1 h2
    rw [s1'] at b1
    have H1 := Lib.hid b1
    clear b1 s1 s1'
    go_enter Tryd.func11, Tryd.ntmps11
    go_wp2_with fail
    refine (H1.out _).mono ?_
    rintro e w1 ⟨rfl, hb1⟩
    have B1 := Lib.hid (belT (belA (Below.refl _ w) _) hb1)
    clear hb1
    go_wp2_with fail
    go_ret
    exact ⟨ret_bool hT.out.symm, B1.out⟩
theorem armv_is (X Y n0 n1 n2 W l0 l1 l2 h0 h1 h2 : Int) (t : Bool) (w : World) (h : Hid (armB X Y n0 n1 n2 W l0 l1 l2 h0 h1 h2 = t)) :
    Calls Tryd.prog 11 #[.agg #[.int .i64 X, .int .i64 Y, .int .i64 n0, .int .i64 n1, .int .i64 n2, .int .i64 W, .int .i64 l0, .int .i64 l1, .int .i64 l2, .int .i64 h0, .int .i64 h1, .int .i64 h2]] w fun e w' => e = .returned (.bool t) ∧ Below w.heap.size w w' := by
  rw [← h.out]
  exact armv_any X Y n0 n1 n2 W l0 l1 l2 h0 h1 h2 w
end Go.Proofs.YtalhkcmlacppjaaDoor
