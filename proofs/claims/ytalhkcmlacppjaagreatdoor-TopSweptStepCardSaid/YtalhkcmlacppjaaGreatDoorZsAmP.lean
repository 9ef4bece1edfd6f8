/- Helpers: what the law reaches. -/
import Derived.Test.YtalhkcmlacppjaaGreatDoorZsAmE
import Derived.Test.YtalhkcmlacppjaaGreatDoorZsAmF
namespace Go.Proofs.YtalhkcmlacppjaaGreatDoor
open Go.ChangeShapes Go.WideShapes Go.ChangeAt Go.RowKit
set_option linter.unusedVariables false
set_option linter.unusedSimpArgs false
set_option maxRecDepth 100000
set_option maxHeartbeats 2000000 in
theorem stepj0_yes (X Y n0 n1 n2 W l0 l1 l2 h0 h1 h2 : Int) (q0 q1 q2 : Int) (s : Int) (w : World) (hs : s = 1 ∨ s = -1) (b0 : -1000 ≤ q0 ∧ q0 ≤ 1000) (b1 : -1000 ≤ q1 ∧ q1 ≤ 1000) (b2 : -1000 ≤ q2 ∧ q2 ≤ 1000) (hf : Hid (fitB l0 l1 l2 h0 h1 h2 (q0 + s) q1 q2 = true)) :
    Calls Tryz.prog 19 #[.agg #[.int .i64 X, .int .i64 Y, .int .i64 n0, .int .i64 n1, .int .i64 n2, .int .i64 W, .int .i64 l0, .int .i64 l1, .int .i64 l2, .int .i64 h0, .int .i64 h1, .int .i64 h2], .agg #[.int .i64 q0, .int .i64 q1, .int .i64 q2], .int .i64 0, .int .i64 s] w fun e w' => e = .returned (.tuple #[.agg #[.int .i64 (q0 + s), .int .i64 q1, .int .i64 q2], .bool true]) ∧ Below w.heap.size w w' := by
  have hs2 : -1 ≤ s ∧ s ≤ 1 := by omega
  rcases hs with rfl | rfl
  · go_enter Tryz.func19, Tryz.ntmps19
    go_wp2_with (go_at_call 55; refine (btw_any _ _ _ _).mono ?_; rintro e w' ⟨rfl, rfl⟩)
    obtain ⟨W0, hW0⟩ : ∃ z, (((w.alloc (.cells #[.int .i64 X, .int .i64 Y, .int .i64 n0, .int .i64 n1, .int .i64 n2, .int .i64 W, .int .i64 l0, .int .i64 l1, .int .i64 l2, .int .i64 h0, .int .i64 h1, .int .i64 h2] 27)).alloc (.cells #[.int .i64 (q0 + 1), .int .i64 q1, .int .i64 q2] 25)).alloc (.cells #[.int .i64 0, .int .i64 0, .int .i64 0] 25)) = z := ⟨_, rfl⟩
    have HR : Hid (W0.heap[w.heap.size + 1 + 1]? = some (.cells #[.int .i64 0, .int .i64 0, .int .i64 0] 25 (0, 0))) := Lib.hid (by rw [← hW0]; exact blk_new _ _ _ (by simp))
    have HQ : Hid (W0.heap[w.heap.size + 1]? = some (.cells #[.int .i64 (q0 + 1), .int .i64 q1, .int .i64 q2] 25 (0, 0))) := Lib.hid (by rw [← hW0]; exact blk_alloc (blk_new _ _ _ (by simp)) _)
    have B : Hid (Below w.heap.size w W0) := Lib.hid (by rw [← hW0]; go_grown)
    rw [hW0]
    clear hW0
    refine (inlim_is X Y n0 n1 n2 W l0 l1 l2 h0 h1 h2 (q0 + 1) q1 q2 _ _ hf).mono ?_
    rintro e W1 ⟨rfl, hb⟩
    replace HR := Lib.hid (blk_call HR.out hb)
    replace HQ := Lib.hid (blk_call HQ.out hb)
    replace B := Lib.hid (belT B.out hb)
    clear hb
    generalize hr : w.heap.size + 1 + 1 = r at *
    generalize hq : w.heap.size + 1 = q at *
    have NR := Lib.hid (show w.heap.size ≤ r by omega)
    clear hr hq
    have c0 := blk_cell HQ.out 0 _ rfl
    have d0 := blk_cell HR.out 0 _ rfl
    have f0 := blk_fz HR.out 0
    have c1 := blk_cell HQ.out 1 _ rfl
    have d1 := blk_cell HR.out 1 _ rfl
    have f1 := blk_fz HR.out 1
    have c2 := blk_cell HQ.out 2 _ rfl
    have d2 := blk_cell HR.out 2 _ rfl
    have f2 := blk_fz HR.out 2
    go_wp2_with fail
    clear c0 c1 c2 d0 d1 d2 f0 f1 f2
    have HZ : Hid ((((W1.setCell ⟨r, 0, none⟩ (.int .i64 (q0 + 1))).setCell ⟨r, 1, none⟩ (.int .i64 q1)).setCell ⟨r, 2, none⟩ (.int .i64 q2)).heap[r]? = some (.cells #[.int .i64 (q0 + 1), .int .i64 q1, .int .i64 q2] 25 (0, 0))) := Lib.hid (blk_set (blk_set (blk_set HR.out _) _) _)
    replace B : Hid (Below w.heap.size w (((W1.setCell ⟨r, 0, none⟩ (.int .i64 (q0 + 1))).setCell ⟨r, 1, none⟩ (.int .i64 q1)).setCell ⟨r, 2, none⟩ (.int .i64 q2))) := Lib.hid (belS (p := ⟨r, 2, none⟩) (belS (p := ⟨r, 1, none⟩) (belS (p := ⟨r, 0, none⟩) B.out NR.out _) NR.out _) NR.out _)
    generalize (((W1.setCell ⟨r, 0, none⟩ (.int .i64 (q0 + 1))).setCell ⟨r, 1, none⟩ (.int .i64 q1)).setCell ⟨r, 2, none⟩ (.int .i64 q2)) = W2 at *
    have z0 := blk_cell HZ.out 0 _ rfl
    have z1 := blk_cell HZ.out 1 _ rfl
    have z2 := blk_cell HZ.out 2 _ rfl
    refine bodyPost_ret (v := .tuple #[.agg #[.int .i64 (q0 + 1), .int .i64 q1, .int .i64 q2], .bool true]) (by simp [results, Tryz.results19, go_sem, z0, z1, z2]) rfl ?_
    exact ⟨rfl, B.out⟩
  · go_enter Tryz.func19, Tryz.ntmps19
    go_wp2_with (go_at_call 55; refine (btw_any _ _ _ _).mono ?_; rintro e w' ⟨rfl, rfl⟩)
    obtain ⟨W0, hW0⟩ : ∃ z, (((w.alloc (.cells #[.int .i64 X, .int .i64 Y, .int .i64 n0, .int .i64 n1, .int .i64 n2, .int .i64 W, .int .i64 l0, .int .i64 l1, .int .i64 l2, .int .i64 h0, .int .i64 h1, .int .i64 h2] 27)).alloc (.cells #[.int .i64 (q0 + -1), .int .i64 q1, .int .i64 q2] 25)).alloc (.cells #[.int .i64 0, .int .i64 0, .int .i64 0] 25)) = z := ⟨_, rfl⟩
    have HR : Hid (W0.heap[w.heap.size + 1 + 1]? = some (.cells #[.int .i64 0, .int .i64 0, .int .i64 0] 25 (0, 0))) := Lib.hid (by rw [← hW0]; exact blk_new _ _ _ (by simp))
    have HQ : Hid (W0.heap[w.heap.size + 1]? = some (.cells #[.int .i64 (q0 + -1), .int .i64 q1, .int .i64 q2] 25 (0, 0))) := Lib.hid (by rw [← hW0]; exact blk_alloc (blk_new _ _ _ (by simp)) _)
    have B : Hid (Below w.heap.size w W0) := Lib.hid (by rw [← hW0]; go_grown)
    rw [hW0]
    clear hW0
    refine (inlim_is X Y n0 n1 n2 W l0 l1 l2 h0 h1 h2 (q0 + -1) q1 q2 _ _ hf).mono ?_
    rintro e W1 ⟨rfl, hb⟩
    replace HR := Lib.hid (blk_call HR.out hb)
    replace HQ := Lib.hid (blk_call HQ.out hb)
    replace B := Lib.hid (belT B.out hb)
    clear hb
    generalize hr : w.heap.size + 1 + 1 = r at *
    generalize hq : w.heap.size + 1 = q at *
    have NR := Lib.hid (show w.heap.size ≤ r by omega)
    clear hr hq
    have c0 := blk_cell HQ.out 0 _ rfl
    have d0 := blk_cell HR.out 0 _ rfl
    have f0 := blk_fz HR.out 0
    have c1 := blk_cell HQ.out 1 _ rfl
    have d1 := blk_cell HR.out 1 _ rfl
    have f1 := blk_fz HR.out 1
    have c2 := blk_cell HQ.out 2 _ rfl
    have d2 := blk_cell HR.out 2 _ rfl
    have f2 := blk_fz HR.out 2
    go_wp2_with fail
    clear c0 c1 c2 d0 d1 d2 f0 f1 f2
    have HZ : Hid ((((W1.setCell ⟨r, 0, none⟩ (.int .i64 (q0 + -1))).setCell ⟨r, 1, none⟩ (.int .i64 q1)).setCell ⟨r, 2, none⟩ (.int .i64 q2)).heap[r]? = some (.cells #[.int .i64 (q0 + -1), .int .i64 q1, .int .i64 q2] 25 (0, 0))) := Lib.hid (blk_set (blk_set (blk_set HR.out _) _) _)
    replace B : Hid (Below w.heap.size w (((W1.setCell ⟨r, 0, none⟩ (.int .i64 (q0 + -1))).setCell ⟨r, 1, none⟩ (.int .i64 q1)).setCell ⟨r, 2, none⟩ (.int .i64 q2))) := Lib.hid (belS (p := ⟨r, 2, none⟩) (belS (p := ⟨r, 1, none⟩) (belS (p := ⟨r, 0, none⟩) B.out NR.out _) NR.out _) NR.out _)
    generalize (((W1.setCell ⟨r, 0, none⟩ (.int .i64 (q0 + -1))).setCell ⟨r, 1, none⟩ (.int .i64 q1)).setCell ⟨r, 2, none⟩ (.int .i64 q2)) = W2 at *
    have z0 := blk_cell HZ.out 0 _ rfl
    have z1 := blk_cell HZ.out 1 _ rfl
    have z2 := blk_cell HZ.out 2 _ rfl
    refine bodyPost_ret (v := .tuple #[.agg #[.int .i64 (q0 + -1), .int .i64 q1, .int .i64 q2], .bool true]) (by simp [results, Tryz.results19, go_sem, z0, z1, z2]) rfl ?_
    exact ⟨rfl, B.out⟩
set_option maxHeartbeats 2000000 in
theorem stepj0_no (X Y n0 n1 n2 W l0 l1 l2 h0 h1 h2 : Int) (q0 q1 q2 : Int) (s : Int) (w : World) (hs : s = 1 ∨ s = -1) (b0 : -1000 ≤ q0 ∧ q0 ≤ 1000) (b1 : -1000 ≤ q1 ∧ q1 ≤ 1000) (b2 : -1000 ≤ q2 ∧ q2 ≤ 1000) (hf : Hid (fitB l0 l1 l2 h0 h1 h2 (q0 + s) q1 q2 = false)) :
    Calls Tryz.prog 19 #[.agg #[.int .i64 X, .int .i64 Y, .int .i64 n0, .int .i64 n1, .int .i64 n2, .int .i64 W, .int .i64 l0, .int .i64 l1, .int .i64 l2, .int .i64 h0, .int .i64 h1, .int .i64 h2], .agg #[.int .i64 q0, .int .i64 q1, .int .i64 q2], .int .i64 0, .int .i64 s] w fun e w' => e = .returned (.tuple #[.agg #[.int .i64 0, .int .i64 0, .int .i64 0], .bool false]) ∧ Below w.heap.size w w' := by
  have hs2 : -1 ≤ s ∧ s ≤ 1 := by omega
  rcases hs with rfl | rfl
  · go_enter Tryz.func19, Tryz.ntmps19
    go_wp2_with (go_at_call 55; refine (btw_any _ _ _ _).mono ?_; rintro e w' ⟨rfl, rfl⟩)
    obtain ⟨W0, hW0⟩ : ∃ z, (((w.alloc (.cells #[.int .i64 X, .int .i64 Y, .int .i64 n0, .int .i64 n1, .int .i64 n2, .int .i64 W, .int .i64 l0, .int .i64 l1, .int .i64 l2, .int .i64 h0, .int .i64 h1, .int .i64 h2] 27)).alloc (.cells #[.int .i64 (q0 + 1), .int .i64 q1, .int .i64 q2] 25)).alloc (.cells #[.int .i64 0, .int .i64 0, .int .i64 0] 25)) = z := ⟨_, rfl⟩
    have HR : Hid (W0.heap[w.heap.size + 1 + 1]? = some (.cells #[.int .i64 0, .int .i64 0, .int .i64 0] 25 (0, 0))) := Lib.hid (by rw [← hW0]; exact blk_new _ _ _ (by simp))
    have HQ : Hid (W0.heap[w.heap.size + 1]? = some (.cells #[.int .i64 (q0 + 1), .int .i64 q1, .int .i64 q2] 25 (0, 0))) := Lib.hid (by rw [← hW0]; exact blk_alloc (blk_new _ _ _ (by simp)) _)
    have B : Hid (Below w.heap.size w W0) := Lib.hid (by rw [← hW0]; go_grown)
    rw [hW0]
    clear hW0
    refine (inlim_is X Y n0 n1 n2 W l0 l1 l2 h0 h1 h2 (q0 + 1) q1 q2 _ _ hf).mono ?_
    rintro e W1 ⟨rfl, hb⟩
    replace HR := Lib.hid (blk_call HR.out hb)
    replace HQ := Lib.hid (blk_call HQ.out hb)
    replace B := Lib.hid (belT B.out hb)
    clear hb
    generalize hr : w.heap.size + 1 + 1 = r at *
    generalize hq : w.heap.size + 1 = q at *
    have NR := Lib.hid (show w.heap.size ≤ r by omega)
    clear hr hq
    have c0 := blk_cell HQ.out 0 _ rfl
    have d0 := blk_cell HR.out 0 _ rfl
    have f0 := blk_fz HR.out 0
    have c1 := blk_cell HQ.out 1 _ rfl
    have d1 := blk_cell HR.out 1 _ rfl
    have f1 := blk_fz HR.out 1
    have c2 := blk_cell HQ.out 2 _ rfl
    have d2 := blk_cell HR.out 2 _ rfl
    have f2 := blk_fz HR.out 2
    go_wp2_with fail
    clear c0 c1 c2 d0 d1 d2 f0 f1 f2
    have HZ : Hid ((((W1.setCell ⟨r, 0, none⟩ (.int .i64 0)).setCell ⟨r, 1, none⟩ (.int .i64 0)).setCell ⟨r, 2, none⟩ (.int .i64 0)).heap[r]? = some (.cells #[.int .i64 0, .int .i64 0, .int .i64 0] 25 (0, 0))) := Lib.hid (blk_set (blk_set (blk_set HR.out _) _) _)
    replace B : Hid (Below w.heap.size w (((W1.setCell ⟨r, 0, none⟩ (.int .i64 0)).setCell ⟨r, 1, none⟩ (.int .i64 0)).setCell ⟨r, 2, none⟩ (.int .i64 0))) := Lib.hid (belS (p := ⟨r, 2, none⟩) (belS (p := ⟨r, 1, none⟩) (belS (p := ⟨r, 0, none⟩) B.out NR.out _) NR.out _) NR.out _)
    generalize (((W1.setCell ⟨r, 0, none⟩ (.int .i64 0)).setCell ⟨r, 1, none⟩ (.int .i64 0)).setCell ⟨r, 2, none⟩ (.int .i64 0)) = W2 at *
    have z0 := blk_cell HZ.out 0 _ rfl
    have z1 := blk_cell HZ.out 1 _ rfl
    have z2 := blk_cell HZ.out 2 _ rfl
    refine bodyPost_ret (v := .tuple #[.agg #[.int .i64 0, .int .i64 0, .int .i64 0], .bool false]) (by simp [results, Tryz.results19, go_sem, z0, z1, z2]) rfl ?_
    exact ⟨rfl, B.out⟩
  · go_enter Tryz.func19, Tryz.ntmps19
    go_wp2_with (go_at_call 55; refine (btw_any _ _ _ _).mono ?_; rintro e w' ⟨rfl, rfl⟩)
    obtain ⟨W0, hW0⟩ : ∃ z, (((w.alloc (.cells #[.int .i64 X, .int .i64 Y, .int .i64 n0, .int .i64 n1, .int .i64 n2, .int .i64 W, .int .i64 l0, .int .i64 l1, .int .i64 l2, .int .i64 h0, .int .i64 h1, .int .i64 h2] 27)).alloc (.cells #[.int .i64 (q0 + -1), .int .i64 q1, .int .i64 q2] 25)).alloc (.cells #[.int .i64 0, .int .i64 0, .int .i64 0] 25)) = z := ⟨_, rfl⟩
    have HR : Hid (W0.heap[w.heap.size + 1 + 1]? = some (.cells #[.int .i64 0, .int .i64 0, .int .i64 0] 25 (0, 0))) := Lib.hid (by rw [← hW0]; exact blk_new _ _ _ (by simp))
    have HQ : Hid (W0.heap[w.heap.size + 1]? = some (.cells #[.int .i64 (q0 + -1), .int .i64 q1, .int .i64 q2] 25 (0, 0))) := Lib.hid (by rw [← hW0]; exact blk_alloc (blk_new _ _ _ (by simp)) _)
    have B : Hid (Below w.heap.size w W0) := Lib.hid (by rw [← hW0]; go_grown)
    rw [hW0]
    clear hW0
    refine (inlim_is X Y n0 n1 n2 W l0 l1 l2 h0 h1 h2 (q0 + -1) q1 q2 _ _ hf).mono ?_
    rintro e W1 ⟨rfl, hb⟩
    replace HR := Lib.hid (blk_call HR.out hb)
    replace HQ := Lib.hid (blk_call HQ.out hb)
    replace B := Lib.hid (belT B.out hb)
    clear hb
    generalize hr : w.heap.size + 1 + 1 = r at *
    generalize hq : w.heap.size + 1 = q at *
    have NR := Lib.hid (show w.heap.size ≤ r by omega)
    clear hr hq
    have c0 := blk_cell HQ.out 0 _ rfl
    have d0 := blk_cell HR.out 0 _ rfl
    have f0 := blk_fz HR.out 0
    have c1 := blk_cell HQ.out 1 _ rfl
    have d1 := blk_cell HR.out 1 _ rfl
    have f1 := blk_fz HR.out 1
    have c2 := blk_cell HQ.out 2 _ rfl
    have d2 := blk_cell HR.out 2 _ rfl
    have f2 := blk_fz HR.out 2
    go_wp2_with fail
    clear c0 c1 c2 d0 d1 d2 f0 f1 f2
    have HZ : Hid ((((W1.setCell ⟨r, 0, none⟩ (.int .i64 0)).setCell ⟨r, 1, none⟩ (.int .i64 0)).setCell ⟨r, 2, none⟩ (.int .i64 0)).heap[r]? = some (.cells #[.int .i64 0, .int .i64 0, .int .i64 0] 25 (0, 0))) := Lib.hid (blk_set (blk_set (blk_set HR.out _) _) _)
    replace B : Hid (Below w.heap.size w (((W1.setCell ⟨r, 0, none⟩ (.int .i64 0)).setCell ⟨r, 1, none⟩ (.int .i64 0)).setCell ⟨r, 2, none⟩ (.int .i64 0))) := Lib.hid (belS (p := ⟨r, 2, none⟩) (belS (p := ⟨r, 1, none⟩) (belS (p := ⟨r, 0, none⟩) B.out NR.out _) NR.out _) NR.out _)
    generalize (((W1.setCell ⟨r, 0, none⟩ (.int .i64 0)).setCell ⟨r, 1, none⟩ (.int .i64 0)).setCell ⟨r, 2, none⟩ (.int .i64 0)) = W2 at *
    have z0 := blk_cell HZ.out 0 _ rfl
    have z1 := blk_cell HZ.out 1 _ rfl
    have z2 := blk_cell HZ.out 2 _ rfl
    refine bodyPost_ret (v := .tuple #[.agg #[.int .i64 0, .int .i64 0, .int .i64 0], .bool false]) (by simp [results, Tryz.results19, go_sem, z0, z1, z2]) rfl ?_
    exact ⟨rfl, B.out⟩
set_option maxHeartbeats 2000000 in
theorem stepj1_yes (X Y n0 n1 n2 W l0 l1 l2 h0 h1 h2 : Int) (q0 q1 q2 : Int) (s : Int) (w : World) (hs : s = 1 ∨ s = -1) (b0 : -1000 ≤ q0 ∧ q0 ≤ 1000) (b1 : -1000 ≤ q1 ∧ q1 ≤ 1000) (b2 : -1000 ≤ q2 ∧ q2 ≤ 1000) (hf : Hid (fitB l0 l1 l2 h0 h1 h2 q0 (q1 + s) q2 = true)) :
    Calls Tryz.prog 19 #[.agg #[.int .i64 X, .int .i64 Y, .int .i64 n0, .int .i64 n1, .int .i64 n2, .int .i64 W, .int .i64 l0, .int .i64 l1, .int .i64 l2, .int .i64 h0, .int .i64 h1, .int .i64 h2], .agg #[.int .i64 q0, .int .i64 q1, .int .i64 q2], .int .i64 1, .int .i64 s] w fun e w' => e = .returned (.tuple #[.agg #[.int .i64 q0, .int .i64 (q1 + s), .int .i64 q2], .bool true]) ∧ Below w.heap.size w w' := by
  have hs2 : -1 ≤ s ∧ s ≤ 1 := by omega
  rcases hs with rfl | rfl
  · go_enter Tryz.func19, Tryz.ntmps19
    go_wp2_with (go_at_call 55; refine (btw_any _ _ _ _).mono ?_; rintro e w' ⟨rfl, rfl⟩)
    obtain ⟨W0, hW0⟩ : ∃ z, (((w.alloc (.cells #[.int .i64 X, .int .i64 Y, .int .i64 n0, .int .i64 n1, .int .i64 n2, .int .i64 W, .int .i64 l0, .int .i64 l1, .int .i64 l2, .int .i64 h0, .int .i64 h1, .int .i64 h2] 27)).alloc (.cells #[.int .i64 q0, .int .i64 (q1 + 1), .int .i64 q2] 25)).alloc (.cells #[.int .i64 0, .int .i64 0, .int .i64 0] 25)) = z := ⟨_, rfl⟩
    have HR : Hid (W0.heap[w.heap.size + 1 + 1]? = some (.cells #[.int .i64 0, .int .i64 0, .int .i64 0] 25 (0, 0))) := Lib.hid (by rw [← hW0]; exact blk_new _ _ _ (by simp))
    have HQ : Hid (W0.heap[w.heap.size + 1]? = some (.cells #[.int .i64 q0, .int .i64 (q1 + 1), .int .i64 q2] 25 (0, 0))) := Lib.hid (by rw [← hW0]; exact blk_alloc (blk_new _ _ _ (by simp)) _)
    have B : Hid (Below w.heap.size w W0) := Lib.hid (by rw [← hW0]; go_grown)
    rw [hW0]
    clear hW0
    refine (inlim_is X Y n0 n1 n2 W l0 l1 l2 h0 h1 h2 q0 (q1 + 1) q2 _ _ hf).mono ?_
    rintro e W1 ⟨rfl, hb⟩
    replace HR := Lib.hid (blk_call HR.out hb)
    replace HQ := Lib.hid (blk_call HQ.out hb)
    replace B := Lib.hid (belT B.out hb)
    clear hb
    generalize hr : w.heap.size + 1 + 1 = r at *
    generalize hq : w.heap.size + 1 = q at *
    have NR := Lib.hid (show w.heap.size ≤ r by omega)
    clear hr hq
    have c0 := blk_cell HQ.out 0 _ rfl
    have d0 := blk_cell HR.out 0 _ rfl
    have f0 := blk_fz HR.out 0
    have c1 := blk_cell HQ.out 1 _ rfl
    have d1 := blk_cell HR.out 1 _ rfl
    have f1 := blk_fz HR.out 1
    have c2 := blk_cell HQ.out 2 _ rfl
    have d2 := blk_cell HR.out 2 _ rfl
    have f2 := blk_fz HR.out 2
    go_wp2_with fail
    clear c0 c1 c2 d0 d1 d2 f0 f1 f2
    have HZ : Hid ((((W1.setCell ⟨r, 0, none⟩ (.int .i64 q0)).setCell ⟨r, 1, none⟩ (.int .i64 (q1 + 1))).setCell ⟨r, 2, none⟩ (.int .i64 q2)).heap[r]? = some (.cells #[.int .i64 q0, .int .i64 (q1 + 1), .int .i64 q2] 25 (0, 0))) := Lib.hid (blk_set (blk_set (blk_set HR.out _) _) _)
    replace B : Hid (Below w.heap.size w (((W1.setCell ⟨r, 0, none⟩ (.int .i64 q0)).setCell ⟨r, 1, none⟩ (.int .i64 (q1 + 1))).setCell ⟨r, 2, none⟩ (.int .i64 q2))) := Lib.hid (belS (p := ⟨r, 2, none⟩) (belS (p := ⟨r, 1, none⟩) (belS (p := ⟨r, 0, none⟩) B.out NR.out _) NR.out _) NR.out _)
    generalize (((W1.setCell ⟨r, 0, none⟩ (.int .i64 q0)).setCell ⟨r, 1, none⟩ (.int .i64 (q1 + 1))).setCell ⟨r, 2, none⟩ (.int .i64 q2)) = W2 at *
    have z0 := blk_cell HZ.out 0 _ rfl
    have z1 := blk_cell HZ.out 1 _ rfl
    have z2 := blk_cell HZ.out 2 _ rfl
    refine bodyPost_ret (v := .tuple #[.agg #[.int .i64 q0, .int .i64 (q1 + 1), .int .i64 q2], .bool true]) (by simp [results, Tryz.results19, go_sem, z0, z1, z2]) rfl ?_
    exact ⟨rfl, B.out⟩
  · go_enter Tryz.func19, Tryz.ntmps19
    go_wp2_with (go_at_call 55; refine (btw_any _ _ _ _).mono ?_; rintro e w' ⟨rfl, rfl⟩)
    obtain ⟨W0, hW0⟩ : ∃ z, (((w.alloc (.cells #[.int .i64 X, .int .i64 Y, .int .i64 n0, .int .i64 n1, .int .i64 n2, .int .i64 W, .int .i64 l0, .int .i64 l1, .int .i64 l2, .int .i64 h0, .int .i64 h1, .int .i64 h2] 27)).alloc (.cells #[.int .i64 q0, .int .i64 (q1 + -1), .int .i64 q2] 25)).alloc (.cells #[.int .i64 0, .int .i64 0, .int .i64 0] 25)) = z := ⟨_, rfl⟩
    have HR : Hid (W0.heap[w.heap.size + 1 + 1]? = some (.cells #[.int .i64 0, .int .i64 0, .int .i64 0] 25 (0, 0))) := Lib.hid (by rw [← hW0]; exact blk_new _ _ _ (by simp))
    have HQ : Hid (W0.heap[w.heap.size + 1]? = some (.cells #[.int .i64 q0, .int .i64 (q1 + -1), .int .i64 q2] 25 (0, 0))) := Lib.hid (by rw [← hW0]; exact blk_alloc (blk_new _ _ _ (by simp)) _)
    have B : Hid (Below w.heap.size w W0) := Lib.hid (by rw [← hW0]; go_grown)
    rw [hW0]
    clear hW0
    refine (inlim_is X Y n0 n1 n2 W l0 l1 l2 h0 h1 h2 q0 (q1 + -1) q2 _ _ hf).mono ?_
    rintro e W1 ⟨rfl, hb⟩
    replace HR := Lib.hid (blk_call HR.out hb)
    replace HQ := Lib.hid (blk_call HQ.out hb)
    replace B := Lib.hid (belT B.out hb)
    clear hb
    generalize hr : w.heap.size + 1 + 1 = r at *
    generalize hq : w.heap.size + 1 = q at *
    have NR := Lib.hid (show w.heap.size ≤ r by omega)
    clear hr hq
    have c0 := blk_cell HQ.out 0 _ rfl
    have d0 := blk_cell HR.out 0 _ rfl
    have f0 := blk_fz HR.out 0
    have c1 := blk_cell HQ.out 1 _ rfl
    have d1 := blk_cell HR.out 1 _ rfl
    have f1 := blk_fz HR.out 1
    have c2 := blk_cell HQ.out 2 _ rfl
    have d2 := blk_cell HR.out 2 _ rfl
    have f2 := blk_fz HR.out 2
    go_wp2_with fail
    clear c0 c1 c2 d0 d1 d2 f0 f1 f2
    have HZ : Hid ((((W1.setCell ⟨r, 0, none⟩ (.int .i64 q0)).setCell ⟨r, 1, none⟩ (.int .i64 (q1 + -1))).setCell ⟨r, 2, none⟩ (.int .i64 q2)).heap[r]? = some (.cells #[.int .i64 q0, .int .i64 (q1 + -1), .int .i64 q2] 25 (0, 0))) := Lib.hid (blk_set (blk_set (blk_set HR.out _) _) _)
    replace B : Hid (Below w.heap.size w (((W1.setCell ⟨r, 0, none⟩ (.int .i64 q0)).setCell ⟨r, 1, none⟩ (.int .i64 (q1 + -1))).setCell ⟨r, 2, none⟩ (.int .i64 q2))) := Lib.hid (belS (p := ⟨r, 2, none⟩) (belS (p := ⟨r, 1, none⟩) (belS (p := ⟨r, 0, none⟩) B.out NR.out _) NR.out _) NR.out _)
    generalize (((W1.setCell ⟨r, 0, none⟩ (.int .i64 q0)).setCell ⟨r, 1, none⟩ (.int .i64 (q1 + -1))).setCell ⟨r, 2, none⟩ (.int .i64 q2)) = W2 at *
    have z0 := blk_cell HZ.out 0 _ rfl
    have z1 := blk_cell HZ.out 1 _ rfl
    have z2 := blk_cell HZ.out 2 _ rfl
    refine bodyPost_ret (v := .tuple #[.agg #[.int .i64 q0, .int .i64 (q1 + -1), .int .i64 q2], .bool true]) (by simp [results, Tryz.results19, go_sem, z0, z1, z2]) rfl ?_
    exact ⟨rfl, B.out⟩
set_option maxHeartbeats 2000000 in
theorem stepj1_no (X Y n0 n1 n2 W l0 l1 l2 h0 h1 h2 : Int) (q0 q1 q2 : Int) (s : Int) (w : World) (hs : s = 1 ∨ s = -1) (b0 : -1000 ≤ q0 ∧ q0 ≤ 1000) (b1 : -1000 ≤ q1 ∧ q1 ≤ 1000) (b2 : -1000 ≤ q2 ∧ q2 ≤ 1000) (hf : Hid (fitB l0 l1 l2 h0 h1 h2 q0 (q1 + s) q2 = false)) :
    Calls Tryz.prog 19 #[.agg #[.int .i64 X, .int .i64 Y, .int .i64 n0, .int .i64 n1, .int .i64 n2, .int .i64 W, .int .i64 l0, .int .i64 l1, .int .i64 l2, .int .i64 h0, .int .i64 h1, .int .i64 h2], .agg #[.int .i64 q0, .int .i64 q1, .int .i64 q2], .int .i64 1, .int .i64 s] w fun e w' => e = .returned (.tuple #[.agg #[.int .i64 0, .int .i64 0, .int .i64 0], .bool false]) ∧ Below w.heap.size w w' := by
  have hs2 : -1 ≤ s ∧ s ≤ 1 := by omega
  rcases hs with rfl | rfl
  · go_enter Tryz.func19, Tryz.ntmps19
    go_wp2_with (go_at_call 55; refine (btw_any _ _ _ _).mono ?_; rintro e w' ⟨rfl, rfl⟩)
    obtain ⟨W0, hW0⟩ : ∃ z, (((w.alloc (.cells #[.int .i64 X, .int .i64 Y, .int .i64 n0, .int .i64 n1, .int .i64 n2, .int .i64 W, .int .i64 l0, .int .i64 l1, .int .i64 l2, .int .i64 h0, .int .i64 h1, .int .i64 h2] 27)).alloc (.cells #[.int .i64 q0, .int .i64 (q1 + 1), .int .i64 q2] 25)).alloc (.cells #[.int .i64 0, .int .i64 0, .int .i64 0] 25)) = z := ⟨_, rfl⟩
    have HR : Hid (W0.heap[w.heap.size + 1 + 1]? = some (.cells #[.int .i64 0, .int .i64 0, .int .i64 0] 25 (0, 0))) := Lib.hid (by rw [← hW0]; exact blk_new _ _ _ (by simp))
    have HQ : Hid (W0.heap[w.heap.size + 1]? = some (.cells #[.int .i64 q0, .int .i64 (q1 + 1), .int .i64 q2] 25 (0, 0))) := Lib.hid (by rw [← hW0]; exact blk_alloc (blk_new _ _ _ (by simp)) _)
    have B : Hid (Below w.heap.size w W0) := Lib.hid (by rw [← hW0]; go_grown)
    rw [hW0]
    clear hW0
    refine (inlim_is X Y n0 n1 n2 W l0 l1 l2 h0 h1 h2 q0 (q1 + 1) q2 _ _ hf).mono ?_
    rintro e W1 ⟨rfl, hb⟩
    replace HR := Lib.hid (blk_call HR.out hb)
    replace HQ := Lib.hid (blk_call HQ.out hb)
    replace B := Lib.hid (belT B.out hb)
    clear hb
    generalize hr : w.heap.size + 1 + 1 = r at *
    generalize hq : w.heap.size + 1 = q at *
    have NR := Lib.hid (show w.heap.size ≤ r by omega)
    clear hr hq
    have c0 := blk_cell HQ.out 0 _ rfl
    have d0 := blk_cell HR.out 0 _ rfl
    have f0 := blk_fz HR.out 0
    have c1 := blk_cell HQ.out 1 _ rfl
    have d1 := blk_cell HR.out 1 _ rfl
    have f1 := blk_fz HR.out 1
    have c2 := blk_cell HQ.out 2 _ rfl
    have d2 := blk_cell HR.out 2 _ rfl
    have f2 := blk_fz HR.out 2
    go_wp2_with fail
    clear c0 c1 c2 d0 d1 d2 f0 f1 f2
    have HZ : Hid ((((W1.setCell ⟨r, 0, none⟩ (.int .i64 0)).setCell ⟨r, 1, none⟩ (.int .i64 0)).setCell ⟨r, 2, none⟩ (.int .i64 0)).heap[r]? = some (.cells #[.int .i64 0, .int .i64 0, .int .i64 0] 25 (0, 0))) := Lib.hid (blk_set (blk_set (blk_set HR.out _) _) _)
    replace B : Hid (Below w.heap.size w (((W1.setCell ⟨r, 0, none⟩ (.int .i64 0)).setCell ⟨r, 1, none⟩ (.int .i64 0)).setCell ⟨r, 2, none⟩ (.int .i64 0))) := Lib.hid (belS (p := ⟨r, 2, none⟩) (belS (p := ⟨r, 1, none⟩) (belS (p := ⟨r, 0, none⟩) B.out NR.out _) NR.out _) NR.out _)
    generalize (((W1.setCell ⟨r, 0, none⟩ (.int .i64 0)).setCell ⟨r, 1, none⟩ (.int .i64 0)).setCell ⟨r, 2, none⟩ (.int .i64 0)) = W2 at *
    have z0 := blk_cell HZ.out 0 _ rfl
    have z1 := blk_cell HZ.out 1 _ rfl
    have z2 := blk_cell HZ.out 2 _ rfl
    refine bodyPost_ret (v := .tuple #[.agg #[.int .i64 0, .int .i64 0, .int .i64 0], .bool false]) (by simp [results, Tryz.results19, go_sem, z0, z1, z2]) rfl ?_
    exact ⟨rfl, B.out⟩
  · go_enter Tryz.func19, Tryz.ntmps19
    go_wp2_with (go_at_call 55; refine (btw_any _ _ _ _).mono ?_; rintro e w' ⟨rfl, rfl⟩)
    obtain ⟨W0, hW0⟩ : ∃ z, (((w.alloc (.cells #[.int .i64 X, .int .i64 Y, .int .i64 n0, .int .i64 n1, .int .i64 n2, .int .i64 W, .int .i64 l0, .int .i64 l1, .int .i64 l2, .int .i64 h0, .int .i64 h1, .int .i64 h2] 27)).alloc (.cells #[.int .i64 q0, .int .i64 (q1 + -1), .int .i64 q2] 25)).alloc (.cells #[.int .i64 0, .int .i64 0, .int .i64 0] 25)) = z := ⟨_, rfl⟩
    have HR : Hid (W0.heap[w.heap.size + 1 + 1]? = some (.cells #[.int .i64 0, .int .i64 0, .int .i64 0] 25 (0, 0))) := Lib.hid (by rw [← hW0]; exact blk_new _ _ _ (by simp))
    have HQ : Hid (W0.heap[w.heap.size + 1]? = some (.cells #[.int .i64 q0, .int .i64 (q1 + -1), .int .i64 q2] 25 (0, 0))) := Lib.hid (by rw [← hW0]; exact blk_alloc (blk_new _ _ _ (by simp)) _)
    have B : Hid (Below w.heap.size w W0) := Lib.hid (by rw [← hW0]; go_grown)
    rw [hW0]
    clear hW0
    refine (inlim_is X Y n0 n1 n2 W l0 l1 l2 h0 h1 h2 q0 (q1 + -1) q2 _ _ hf).mono ?_
    rintro e W1 ⟨rfl, hb⟩
    replace HR := Lib.hid (blk_call HR.out hb)
    replace HQ := Lib.hid (blk_call HQ.out hb)
    replace B := Lib.hid (belT B.out hb)
    clear hb
    generalize hr : w.heap.size + 1 + 1 = r at *
    generalize hq : w.heap.size + 1 = q at *
    have NR := Lib.hid (show w.heap.size ≤ r by omega)
    clear hr hq
    have c0 := blk_cell HQ.out 0 _ rfl
    have d0 := blk_cell HR.out 0 _ rfl
    have f0 := blk_fz HR.out 0
    have c1 := blk_cell HQ.out 1 _ rfl
    have d1 := blk_cell HR.out 1 _ rfl
    have f1 := blk_fz HR.out 1
    have c2 := blk_cell HQ.out 2 _ rfl
    have d2 := blk_cell HR.out 2 _ rfl
    have f2 := blk_fz HR.out 2
    go_wp2_with fail
    clear c0 c1 c2 d0 d1 d2 f0 f1 f2
    have HZ : Hid ((((W1.setCell ⟨r, 0, none⟩ (.int .i64 0)).setCell ⟨r, 1, none⟩ (.int .i64 0)).setCell ⟨r, 2, none⟩ (.int .i64 0)).heap[r]? = some (.cells #[.int .i64 0, .int .i64 0, .int .i64 0] 25 (0, 0))) := Lib.hid (blk_set (blk_set (blk_set HR.out _) _) _)
    replace B : Hid (Below w.heap.size w (((W1.setCell ⟨r, 0, none⟩ (.int .i64 0)).setCell ⟨r, 1, none⟩ (.int .i64 0)).setCell ⟨r, 2, none⟩ (.int .i64 0))) := Lib.hid (belS (p := ⟨r, 2, none⟩) (belS (p := ⟨r, 1, none⟩) (belS (p := ⟨r, 0, none⟩) B.out NR.out _) NR.out _) NR.out _)
    generalize (((W1.setCell ⟨r, 0, none⟩ (.int .i64 0)).setCell ⟨r, 1, none⟩ (.int .i64 0)).setCell ⟨r, 2, none⟩ (.int .i64 0)) = W2 at *
    have z0 := blk_cell HZ.out 0 _ rfl
    have z1 := blk_cell HZ.out 1 _ rfl
    have z2 := blk_cell HZ.out 2 _ rfl
    refine bodyPost_ret (v := .tuple #[.agg #[.int .i64 0, .int .i64 0, .int .i64 0], .bool false]) (by simp [results, Tryz.results19, go_sem, z0, z1, z2]) rfl ?_
    exact ⟨rfl, B.out⟩
set_option maxHeartbeats 2000000 in
theorem stepj2_yes (X Y n0 n1 n2 W l0 l1 l2 h0 h1 h2 : Int) (q0 q1 q2 : Int) (s : Int) (w : World) (hs : s = 1 ∨ s = -1) (b0 : -1000 ≤ q0 ∧ q0 ≤ 1000) (b1 : -1000 ≤ q1 ∧ q1 ≤ 1000) (b2 : -1000 ≤ q2 ∧ q2 ≤ 1000) (hf : Hid (fitB l0 l1 l2 h0 h1 h2 q0 q1 (q2 + s) = true)) :
    Calls Tryz.prog 19 #[.agg #[.int .i64 X, .int .i64 Y, .int .i64 n0, .int .i64 n1, .int .i64 n2, .int .i64 W, .int .i64 l0, .int .i64 l1, .int .i64 l2, .int .i64 h0, .int .i64 h1, .int .i64 h2], .agg #[.int .i64 q0, .int .i64 q1, .int .i64 q2], .int .i64 2, .int .i64 s] w fun e w' => e = .returned (.tuple #[.agg #[.int .i64 q0, .int .i64 q1, .int .i64 (q2 + s)], .bool true]) ∧ Below w.heap.size w w' := by
  have hs2 : -1 ≤ s ∧ s ≤ 1 := by omega
  rcases hs with rfl | rfl
  · go_enter Tryz.func19, Tryz.ntmps19
    go_wp2_with (go_at_call 55; refine (btw_any _ _ _ _).mono ?_; rintro e w' ⟨rfl, rfl⟩)
    obtain ⟨W0, hW0⟩ : ∃ z, (((w.alloc (.cells #[.int .i64 X, .int .i64 Y, .int .i64 n0, .int .i64 n1, .int .i64 n2, .int .i64 W, .int .i64 l0, .int .i64 l1, .int .i64 l2, .int .i64 h0, .int .i64 h1, .int .i64 h2] 27)).alloc (.cells #[.int .i64 q0, .int .i64 q1, .int .i64 (q2 + 1)] 25)).alloc (.cells #[.int .i64 0, .int .i64 0, .int .i64 0] 25)) = z := ⟨_, rfl⟩
    have HR : Hid (W0.heap[w.heap.size + 1 + 1]? = some (.cells #[.int .i64 0, .int .i64 0, .int .i64 0] 25 (0, 0))) := Lib.hid (by rw [← hW0]; exact blk_new _ _ _ (by simp))
    have HQ : Hid (W0.heap[w.heap.size + 1]? = some (.cells #[.int .i64 q0, .int .i64 q1, .int .i64 (q2 + 1)] 25 (0, 0))) := Lib.hid (by rw [← hW0]; exact blk_alloc (blk_new _ _ _ (by simp)) _)
    have B : Hid (Below w.heap.size w W0) := Lib.hid (by rw [← hW0]; go_grown)
    rw [hW0]
    clear hW0
    refine (inlim_is X Y n0 n1 n2 W l0 l1 l2 h0 h1 h2 q0 q1 (q2 + 1) _ _ hf).mono ?_
    rintro e W1 ⟨rfl, hb⟩
    replace HR := Lib.hid (blk_call HR.out hb)
    replace HQ := Lib.hid (blk_call HQ.out hb)
    replace B := Lib.hid (belT B.out hb)
    clear hb
    generalize hr : w.heap.size + 1 + 1 = r at *
    generalize hq : w.heap.size + 1 = q at *
    have NR := Lib.hid (show w.heap.size ≤ r by omega)
    clear hr hq
    have c0 := blk_cell HQ.out 0 _ rfl
    have d0 := blk_cell HR.out 0 _ rfl
    have f0 := blk_fz HR.out 0
    have c1 := blk_cell HQ.out 1 _ rfl
    have d1 := blk_cell HR.out 1 _ rfl
    have f1 := blk_fz HR.out 1
    have c2 := blk_cell HQ.out 2 _ rfl
    have d2 := blk_cell HR.out 2 _ rfl
    have f2 := blk_fz HR.out 2
    go_wp2_with fail
    clear c0 c1 c2 d0 d1 d2 f0 f1 f2
    have HZ : Hid ((((W1.setCell ⟨r, 0, none⟩ (.int .i64 q0)).setCell ⟨r, 1, none⟩ (.int .i64 q1)).setCell ⟨r, 2, none⟩ (.int .i64 (q2 + 1))).heap[r]? = some (.cells #[.int .i64 q0, .int .i64 q1, .int .i64 (q2 + 1)] 25 (0, 0))) := Lib.hid (blk_set (blk_set (blk_set HR.out _) _) _)
    replace B : Hid (Below w.heap.size w (((W1.setCell ⟨r, 0, none⟩ (.int .i64 q0)).setCell ⟨r, 1, none⟩ (.int .i64 q1)).setCell ⟨r, 2, none⟩ (.int .i64 (q2 + 1)))) := Lib.hid (belS (p := ⟨r, 2, none⟩) (belS (p := ⟨r, 1, none⟩) (belS (p := ⟨r, 0, none⟩) B.out NR.out _) NR.out _) NR.out _)
    generalize (((W1.setCell ⟨r, 0, none⟩ (.int .i64 q0)).setCell ⟨r, 1, none⟩ (.int .i64 q1)).setCell ⟨r, 2, none⟩ (.int .i64 (q2 + 1))) = W2 at *
    have z0 := blk_cell HZ.out 0 _ rfl
    have z1 := blk_cell HZ.out 1 _ rfl
    have z2 := blk_cell HZ.out 2 _ rfl
    refine bodyPost_ret (v := .tuple #[.agg #[.int .i64 q0, .int .i64 q1, .int .i64 (q2 + 1)], .bool true]) (by simp [results, Tryz.results19, go_sem, z0, z1, z2]) rfl ?_
    exact ⟨rfl, B.out⟩
  · go_enter Tryz.func19, Tryz.ntmps19
    go_wp2_with (go_at_call 55; refine (btw_any _ _ _ _).mono ?_; rintro e w' ⟨rfl, rfl⟩)
    obtain ⟨W0, hW0⟩ : ∃ z, (((w.alloc (.cells #[.int .i64 X, .int .i64 Y, .int .i64 n0, .int .i64 n1, .int .i64 n2, .int .i64 W, .int .i64 l0, .int .i64 l1, .int .i64 l2, .int .i64 h0, .int .i64 h1, .int .i64 h2] 27)).alloc (.cells #[.int .i64 q0, .int .i64 q1, .int .i64 (q2 + -1)] 25)).alloc (.cells #[.int .i64 0, .int .i64 0, .int .i64 0] 25)) = z := ⟨_, rfl⟩
    have HR : Hid (W0.heap[w.heap.size + 1 + 1]? = some (.cells #[.int .i64 0, .int .i64 0, .int .i64 0] 25 (0, 0))) := Lib.hid (by rw [← hW0]; exact blk_new _ _ _ (by simp))
    have HQ : Hid (W0.heap[w.heap.size + 1]? = some (.cells #[.int .i64 q0, .int .i64 q1, .int .i64 (q2 + -1)] 25 (0, 0))) := Lib.hid (by rw [← hW0]; exact blk_alloc (blk_new _ _ _ (by simp)) _)
    have B : Hid (Below w.heap.size w W0) := Lib.hid (by rw [← hW0]; go_grown)
    rw [hW0]
    clear hW0
    refine (inlim_is X Y n0 n1 n2 W l0 l1 l2 h0 h1 h2 q0 q1 (q2 + -1) _ _ hf).mono ?_
    rintro e W1 ⟨rfl, hb⟩
    replace HR := Lib.hid (blk_call HR.out hb)
    replace HQ := Lib.hid (blk_call HQ.out hb)
    replace B := Lib.hid (belT B.out hb)
    clear hb
    generalize hr : w.heap.size + 1 + 1 = r at *
    generalize hq : w.heap.size + 1 = q at *
    have NR := Lib.hid (show w.heap.size ≤ r by omega)
    clear hr hq
    have c0 := blk_cell HQ.out 0 _ rfl
    have d0 := blk_cell HR.out 0 _ rfl
    have f0 := blk_fz HR.out 0
    have c1 := blk_cell HQ.out 1 _ rfl
    have d1 := blk_cell HR.out 1 _ rfl
    have f1 := blk_fz HR.out 1
    have c2 := blk_cell HQ.out 2 _ rfl
    have d2 := blk_cell HR.out 2 _ rfl
    have f2 := blk_fz HR.out 2
    go_wp2_with fail
    clear c0 c1 c2 d0 d1 d2 f0 f1 f2
    have HZ : Hid ((((W1.setCell ⟨r, 0, none⟩ (.int .i64 q0)).setCell ⟨r, 1, none⟩ (.int .i64 q1)).setCell ⟨r, 2, none⟩ (.int .i64 (q2 + -1))).heap[r]? = some (.cells #[.int .i64 q0, .int .i64 q1, .int .i64 (q2 + -1)] 25 (0, 0))) := Lib.hid (blk_set (blk_set (blk_set HR.out _) _) _)
    replace B : Hid (Below w.heap.size w (((W1.setCell ⟨r, 0, none⟩ (.int .i64 q0)).setCell ⟨r, 1, none⟩ (.int .i64 q1)).setCell ⟨r, 2, none⟩ (.int .i64 (q2 + -1)))) := Lib.hid (belS (p := ⟨r, 2, none⟩) (belS (p := ⟨r, 1, none⟩) (belS (p := ⟨r, 0, none⟩) B.out NR.out _) NR.out _) NR.out _)
    generalize (((W1.setCell ⟨r, 0, none⟩ (.int .i64 q0)).setCell ⟨r, 1, none⟩ (.int .i64 q1)).setCell ⟨r, 2, none⟩ (.int .i64 (q2 + -1))) = W2 at *
    have z0 := blk_cell HZ.out 0 _ rfl
    have z1 := blk_cell HZ.out 1 _ rfl
    have z2 := blk_cell HZ.out 2 _ rfl
    refine bodyPost_ret (v := .tuple #[.agg #[.int .i64 q0, .int .i64 q1, .int .i64 (q2 + -1)], .bool true]) (by simp [results, Tryz.results19, go_sem, z0, z1, z2]) rfl ?_
    exact ⟨rfl, B.out⟩
set_option maxHeartbeats 2000000 in
theorem stepj2_no (X Y n0 n1 n2 W l0 l1 l2 h0 h1 h2 : Int) (q0 q1 q2 : Int) (s : Int) (w : World) (hs : s = 1 ∨ s = -1) (b0 : -1000 ≤ q0 ∧ q0 ≤ 1000) (b1 : -1000 ≤ q1 ∧ q1 ≤ 1000) (b2 : -1000 ≤ q2 ∧ q2 ≤ 1000) (hf : Hid (fitB l0 l1 l2 h0 h1 h2 q0 q1 (q2 + s) = false)) :
    Calls Tryz.prog 19 #[.agg #[.int .i64 X, .int .i64 Y, .int .i64 n0, .int .i64 n1, .int .i64 n2, .int .i64 W, .int .i64 l0, .int .i64 l1, .int .i64 l2, .int .i64 h0, .int .i64 h1, .int .i64 h2], .agg #[.int .i64 q0, .int .i64 q1, .int .i64 q2], .int .i64 2, .int .i64 s] w fun e w' => e = .returned (.tuple #[.agg #[.int .i64 0, .int .i64 0, .int .i64 0], .bool false]) ∧ Below w.heap.size w w' := by
  have hs2 : -1 ≤ s ∧ s ≤ 1 := by omega
  rcases hs with rfl | rfl
  · go_enter Tryz.func19, Tryz.ntmps19
    go_wp2_with (go_at_call 55; refine (btw_any _ _ _ _).mono ?_; rintro e w' ⟨rfl, rfl⟩)
    obtain ⟨W0, hW0⟩ : ∃ z, (((w.alloc (.cells #[.int .i64 X, .int .i64 Y, .int .i64 n0, .int .i64 n1, .int .i64 n2, .int .i64 W, .int .i64 l0, .int .i64 l1, .int .i64 l2, .int .i64 h0, .int .i64 h1, .int .i64 h2] 27)).alloc (.cells #[.int .i64 q0, .int .i64 q1, .int .i64 (q2 + 1)] 25)).alloc (.cells #[.int .i64 0, .int .i64 0, .int .i64 0] 25)) = z := ⟨_, rfl⟩
    have HR : Hid (W0.heap[w.heap.size + 1 + 1]? = some (.cells #[.int .i64 0, .int .i64 0, .int .i64 0] 25 (0, 0))) := Lib.hid (by rw [← hW0]; exact blk_new _ _ _ (by simp))
    have HQ : Hid (W0.heap[w.heap.size + 1]? = some (.cells #[.int .i64 q0, .int .i64 q1, .int .i64 (q2 + 1)] 25 (0, 0))) := Lib.hid (by rw [← hW0]; exact blk_alloc (blk_new _ _ _ (by simp)) _)
    have B : Hid (Below w.heap.size w W0) := Lib.hid (by rw [← hW0]; go_grown)
    rw [hW0]
    clear hW0
    refine (inlim_is X Y n0 n1 n2 W l0 l1 l2 h0 h1 h2 q0 q1 (q2 + 1) _ _ hf).mono ?_
    rintro e W1 ⟨rfl, hb⟩
    replace HR := Lib.hid (blk_call HR.out hb)
    replace HQ := Lib.hid (blk_call HQ.out hb)
    replace B := Lib.hid (belT B.out hb)
    clear hb
    generalize hr : w.heap.size + 1 + 1 = r at *
    generalize hq : w.heap.size + 1 = q at *
    have NR := Lib.hid (show w.heap.size ≤ r by omega)
    clear hr hq
    have c0 := blk_cell HQ.out 0 _ rfl
    have d0 := blk_cell HR.out 0 _ rfl
    have f0 := blk_fz HR.out 0
    have c1 := blk_cell HQ.out 1 _ rfl
    have d1 := blk_cell HR.out 1 _ rfl
    have f1 := blk_fz HR.out 1
    have c2 := blk_cell HQ.out 2 _ rfl
    have d2 := blk_cell HR.out 2 _ rfl
    have f2 := blk_fz HR.out 2
    go_wp2_with fail
    clear c0 c1 c2 d0 d1 d2 f0 f1 f2
    have HZ : Hid ((((W1.setCell ⟨r, 0, none⟩ (.int .i64 0)).setCell ⟨r, 1, none⟩ (.int .i64 0)).setCell ⟨r, 2, none⟩ (.int .i64 0)).heap[r]? = some (.cells #[.int .i64 0, .int .i64 0, .int .i64 0] 25 (0, 0))) := Lib.hid (blk_set (blk_set (blk_set HR.out _) _) _)
    replace B : Hid (Below w.heap.size w (((W1.setCell ⟨r, 0, none⟩ (.int .i64 0)).setCell ⟨r, 1, none⟩ (.int .i64 0)).setCell ⟨r, 2, none⟩ (.int .i64 0))) := Lib.hid (belS (p := ⟨r, 2, none⟩) (belS (p := ⟨r, 1, none⟩) (belS (p := ⟨r, 0, none⟩) B.out NR.out _) NR.out _) NR.out _)
    generalize (((W1.setCell ⟨r, 0, none⟩ (.int .i64 0)).setCell ⟨r, 1, none⟩ (.int .i64 0)).setCell ⟨r, 2, none⟩ (.int .i64 0)) = W2 at *
    have z0 := blk_cell HZ.out 0 _ rfl
    have z1 := blk_cell HZ.out 1 _ rfl
    have z2 := blk_cell HZ.out 2 _ rfl
    refine bodyPost_ret (v := .tuple #[.agg #[.int .i64 0, .int .i64 0, .int .i64 0], .bool false]) (by simp [results, Tryz.results19, go_sem, z0, z1, z2]) rfl ?_
    exact ⟨rfl, B.out⟩
  · go_enter Tryz.func19, Tryz.ntmps19
    go_wp2_with (go_at_call 55; refine (btw_any _ _ _ _).mono ?_; rintro e w' ⟨rfl, rfl⟩)
    obtain ⟨W0, hW0⟩ : ∃ z, (((w.alloc (.cells #[.int .i64 X, .int .i64 Y, .int .i64 n0, .int .i64 n1, .int .i64 n2, .int .i64 W, .int .i64 l0, .int .i64 l1, .int .i64 l2, .int .i64 h0, .int .i64 h1, .int .i64 h2] 27)).alloc (.cells #[.int .i64 q0, .int .i64 q1, .int .i64 (q2 + -1)] 25)).alloc (.cells #[.int .i64 0, .int .i64 0, .int .i64 0] 25)) = z := ⟨_, rfl⟩
    have HR : Hid (W0.heap[w.heap.size + 1 + 1]? = some (.cells #[.int .i64 0, .int .i64 0, .int .i64 0] 25 (0, 0))) := Lib.hid (by rw [← hW0]; exact blk_new _ _ _ (by simp))
    have HQ : Hid (W0.heap[w.heap.size + 1]? = some (.cells #[.int .i64 q0, .int .i64 q1, .int .i64 (q2 + -1)] 25 (0, 0))) := Lib.hid (by rw [← hW0]; exact blk_alloc (blk_new _ _ _ (by simp)) _)
    have B : Hid (Below w.heap.size w W0) := Lib.hid (by rw [← hW0]; go_grown)
    rw [hW0]
    clear hW0
    refine (inlim_is X Y n0 n1 n2 W l0 l1 l2 h0 h1 h2 q0 q1 (q2 + -1) _ _ hf).mono ?_
    rintro e W1 ⟨rfl, hb⟩
    replace HR := Lib.hid (blk_call HR.out hb)
    replace HQ := Lib.hid (blk_call HQ.out hb)
    replace B := Lib.hid (belT B.out hb)
    clear hb
    generalize hr : w.heap.size + 1 + 1 = r at *
    generalize hq : w.heap.size + 1 = q at *
    have NR := Lib.hid (show w.heap.size ≤ r by omega)
    clear hr hq
    have c0 := blk_cell HQ.out 0 _ rfl
    have d0 := blk_cell HR.out 0 _ rfl
    have f0 := blk_fz HR.out 0
    have c1 := blk_cell HQ.out 1 _ rfl
    have d1 := blk_cell HR.out 1 _ rfl
    have f1 := blk_fz HR.out 1
    have c2 := blk_cell HQ.out 2 _ rfl
    have d2 := blk_cell HR.out 2 _ rfl
    have f2 := blk_fz HR.out 2
    go_wp2_with fail
    clear c0 c1 c2 d0 d1 d2 f0 f1 f2
    have HZ : Hid ((((W1.setCell ⟨r, 0, none⟩ (.int .i64 0)).setCell ⟨r, 1, none⟩ (.int .i64 0)).setCell ⟨r, 2, none⟩ (.int .i64 0)).heap[r]? = some (.cells #[.int .i64 0, .int .i64 0, .int .i64 0] 25 (0, 0))) := Lib.hid (blk_set (blk_set (blk_set HR.out _) _) _)
    replace B : Hid (Below w.heap.size w (((W1.setCell ⟨r, 0, none⟩ (.int .i64 0)).setCell ⟨r, 1, none⟩ (.int .i64 0)).setCell ⟨r, 2, none⟩ (.int .i64 0))) := Lib.hid (belS (p := ⟨r, 2, none⟩) (belS (p := ⟨r, 1, none⟩) (belS (p := ⟨r, 0, none⟩) B.out NR.out _) NR.out _) NR.out _)
    generalize (((W1.setCell ⟨r, 0, none⟩ (.int .i64 0)).setCell ⟨r, 1, none⟩ (.int .i64 0)).setCell ⟨r, 2, none⟩ (.int .i64 0)) = W2 at *
    have z0 := blk_cell HZ.out 0 _ rfl
    have z1 := blk_cell HZ.out 1 _ rfl
    have z2 := blk_cell HZ.out 2 _ rfl
    refine bodyPost_ret (v := .tuple #[.agg #[.int .i64 0, .int .i64 0, .int .i64 0], .bool false]) (by simp [results, Tryz.results19, go_sem, z0, z1, z2]) rfl ?_
    exact ⟨rfl, B.out⟩
end Go.Proofs.YtalhkcmlacppjaaGreatDoor

