/- Contract of the laws of layer 8: May. -/
import Derived.Test.YtceejjamngplkaaDoorIkP
namespace Go.Proofs.YtceejjamngplkaaDoor
open Go.ChangeShapes Go.WideShapes Go.ChangeAt Go.RowKit
set_option linter.unusedVariables false
set_option linter.unusedSimpArgs false
set_option maxRecDepth 100000

def mayB8 (px py dx dy N : Int) : Bool := decide (((-439400000 ≤ px ∧ px ≤ 439400000) ∧ -439400000 ≤ py ∧ py ≤ 439400000) ∧ vdB dx dy N = true ∧ N = 3)
set_option maxHeartbeats 4000000 in
theorem may8_is (X Y n0 n1 n2 W l0 l1 l2 h0 h1 h2 px py dx dy N : Int) (t : Bool) (w : World) (V : Hid (armB X Y n0 n1 n2 W l0 l1 l2 h0 h1 h2 = true)) (ht : Hid (mayB8 px py dx dy N = t)) :
    Calls Tryd.prog 12 #[.agg #[.int .i64 X, .int .i64 Y, .int .i64 n0, .int .i64 n1, .int .i64 n2, .int .i64 W, .int .i64 l0, .int .i64 l1, .int .i64 l2, .int .i64 h0, .int .i64 h1, .int .i64 h2], .agg #[.int .i64 px, .int .i64 py], .agg #[.int .i64 dx, .int .i64 dy, .int .i64 N]] w fun e w' => e = .returned (.bool t) ∧ Below w.heap.size w w' := by
  have hT : True := trivial
  go_enter Tryd.func12, Tryd.ntmps12
  go_upto_region 1 with fail
  obtain ⟨W0, hW0⟩ : ∃ z, (((w.alloc (.cells #[.int .i64 X, .int .i64 Y, .int .i64 n0, .int .i64 n1, .int .i64 n2, .int .i64 W, .int .i64 l0, .int .i64 l1, .int .i64 l2, .int .i64 h0, .int .i64 h1, .int .i64 h2] 27)).alloc (.cells #[.int .i64 px, .int .i64 py] 23)).alloc (.cells #[.int .i64 dx, .int .i64 dy, .int .i64 N] 29)) = z := ⟨_, rfl⟩
  have HD : Hid (W0.heap[w.heap.size + 1 + 1]? = some (.cells #[.int .i64 dx, .int .i64 dy, .int .i64 N] 29 (0, 0))) := Lib.hid (by rw [← hW0]; exact blk_new _ _ _ (by simp))
  have HP : Hid (W0.heap[w.heap.size + 1]? = some (.cells #[.int .i64 px, .int .i64 py] 23 (0, 0))) := Lib.hid (by rw [← hW0]; exact blk_alloc (blk_new _ _ _ (by simp)) _)
  have HA : Hid (W0.heap[w.heap.size]? = some (.cells #[.int .i64 X, .int .i64 Y, .int .i64 n0, .int .i64 n1, .int .i64 n2, .int .i64 W, .int .i64 l0, .int .i64 l1, .int .i64 l2, .int .i64 h0, .int .i64 h1, .int .i64 h2] 27 (0, 0))) := Lib.hid (by rw [← hW0]; exact blk_alloc (blk_alloc (blk_new _ _ _ rfl) _) _)
  have B : Hid (Below w.heap.size w W0) := Lib.hid (by rw [← hW0]; go_grown)
  rw [hW0]
  clear hW0
  obtain ⟨ba, ea⟩ : ∃ a, w.heap.size = a := ⟨_, rfl⟩
  obtain ⟨bp, ep⟩ : ∃ a, w.heap.size + 1 = a := ⟨_, rfl⟩
  obtain ⟨bd, ed⟩ : ∃ a, w.heap.size + 1 + 1 = a := ⟨_, rfl⟩
  rw [ed, ep, ea]
  rw [ed] at HD
  rw [ep] at HP
  rw [ea] at HA
  clear ed ep ea
  have c0 := blk_cell HA.out 0 _ rfl
  have c1 := blk_cell HA.out 1 _ rfl
  have c2 := blk_cell HA.out 2 _ rfl
  have c3 := blk_cell HA.out 3 _ rfl
  have c4 := blk_cell HA.out 4 _ rfl
  have c5 := blk_cell HA.out 5 _ rfl
  have c6 := blk_cell HA.out 6 _ rfl
  have c7 := blk_cell HA.out 7 _ rfl
  have c8 := blk_cell HA.out 8 _ rfl
  have c9 := blk_cell HA.out 9 _ rfl
  have c10 := blk_cell HA.out 10 _ rfl
  have c11 := blk_cell HA.out 11 _ rfl
  go_upto_region 2 with (go_at_call 11; refine (right7_is X Y n0 n1 n2 W l0 l1 l2 h0 h1 h2 true _ V).mono ?_; rintro e W1 ⟨rfl, hb⟩)
  clear c0 c1 c2 c3 c4 c5 c6 c7 c8 c9 c10 c11
  replace HA := Lib.hid (blk_call HA.out hb)
  replace HP := Lib.hid (blk_call HP.out hb)
  replace HD := Lib.hid (blk_call HD.out hb)
  replace B := Lib.hid (belT B.out hb)
  clear hb
  obtain ⟨r, hr⟩ : ∃ r, decide ((-439400000 ≤ px ∧ px ≤ 439400000) ∧ -439400000 ≤ py ∧ py ≤ 439400000) = r := ⟨_, rfl⟩
  have MC : Hid (∀ w : World, Calls Tryd.prog 32 #[.agg #[.int .i64 px, .int .i64 py]] w fun e w' => e = .returned (.bool r) ∧ Below w.heap.size w w') := Lib.hid (fun w => by
      cases r
      · exact may_no px py w (of_decide_eq_false hr)
      · exact may_yes px py w (of_decide_eq_true hr).1 (of_decide_eq_true hr).2)
  have HRr := Lib.hid hr
  clear hr
  have c0 := blk_cell HP.out 0 _ rfl
  have c1 := blk_cell HP.out 1 _ rfl
  go_upto_region 3 with (go_at_call 32; refine (MC.out _).mono ?_; rintro e W2 ⟨rfl, hb⟩)
  clear c0 c1
  replace HA := Lib.hid (blk_call HA.out hb)
  replace HP := Lib.hid (blk_call HP.out hb)
  replace HD := Lib.hid (blk_call HD.out hb)
  replace B := Lib.hid (belT B.out hb)
  clear hb
  obtain ⟨v, hv⟩ : ∃ v, vdB dx dy N = v := ⟨_, rfl⟩
  have HVv := Lib.hid hv
  have RC : Hid (∀ w : World, Calls Tryd.prog 33 #[.agg #[.int .i64 dx, .int .i64 dy, .int .i64 N]] w fun e w' => e = .returned (.bool v) ∧ Below w.heap.size w w') := Lib.hid (fun w => by rw [← hv]; exact right_any dx dy N w)
  clear hv
  have c0 := blk_cell HD.out 0 _ rfl
  have c1 := blk_cell HD.out 1 _ rfl
  have c2 := blk_cell HD.out 2 _ rfl
  go_upto_region 4 with (go_at_call 33; refine (RC.out _).mono ?_; rintro e W3 ⟨rfl, hb⟩)
  clear c0 c1 c2
  replace HA := Lib.hid (blk_call HA.out hb)
  replace HP := Lib.hid (blk_call HP.out hb)
  replace HD := Lib.hid (blk_call HD.out hb)
  replace B := Lib.hid (belT B.out hb)
  clear hb
  have c0 := blk_cell HD.out 0 _ rfl
  have c1 := blk_cell HD.out 1 _ rfl
  have c2 := blk_cell HD.out 2 _ rfl
  have E : Hid (t = (r && (v && decide (N = 3)))) := Lib.hid (by rw [← ht.out, ← HRr.out, ← HVv.out]; unfold mayB8; simp [Bool.decide_and])
  clear ht HRr HVv MC RC
  cases r
  · go_wp2_with fail
    go_ret
    exact ⟨ret_bool (by rw [E.out]; rfl), B.out⟩
  cases v
  · go_wp2_with fail
    go_ret
    exact ⟨ret_bool (by rw [E.out]; rfl), B.out⟩
  by_cases h3 : N = 3
  · subst h3
    go_wp2_with fail
    go_ret
    exact ⟨ret_bool (by rw [E.out]; rfl), B.out⟩
  · have h3' : (N == 3) = false := by rw [beq_eq_false_iff_ne]; exact h3
    go_wp2_with fail
    go_ret
    exact ⟨ret_bool (by rw [E.out]; simp [h3]), B.out⟩
end Go.Proofs.YtceejjamngplkaaDoor
