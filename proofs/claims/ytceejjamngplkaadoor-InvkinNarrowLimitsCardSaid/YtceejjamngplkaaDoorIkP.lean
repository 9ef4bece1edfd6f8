/- Contracts of the laws of layer 8: plain, tip, May; of package invkin: Solve for a valid arm and a valid target. -/
import Derived.Test.YtceejjamngplkaaDoorIkD
import Derived.Test.YtceejjamngplkaaDoorAmR
import Derived.Test.YtceejjamngplkaaDoorAmG
namespace Go.Proofs.YtceejjamngplkaaDoor
open Go.ChangeShapes Go.WideShapes Go.ChangeAt Go.RowKit
set_option linter.unusedVariables false
set_option linter.unusedSimpArgs false
set_option maxRecDepth 100000
set_option maxHeartbeats 2000000 in
theorem plain_is (a d c : Int) (w : World) :
    Calls Tryd.prog 29 #[.int .i64 a, .int .i64 d, .int .i64 c] w fun e w' => e = .returned (.agg #[.int .i64 0, .int .i64 0, .int .i64 a, .int .i64 d, .int .i64 c, .int .i64 1, .int .i64 (-17), .int .i64 (-17), .int .i64 (-17), .int .i64 18, .int .i64 18, .int .i64 18]) ∧ Below w.heap.size w w' := by
  go_enter Tryd.func29, Tryd.ntmps29
  go_upto_region 1 with fail
  obtain ⟨W0, hW0⟩ : ∃ z, w.alloc (.cells #[.int .i64 0, .int .i64 0, .int .i64 0, .int .i64 0, .int .i64 0, .int .i64 0, .int .i64 0, .int .i64 0, .int .i64 0, .int .i64 0, .int .i64 0, .int .i64 0] 27) = z := ⟨_, rfl⟩
  have HA : W0.heap[w.heap.size]? = some (.cells #[.int .i64 0, .int .i64 0, .int .i64 0, .int .i64 0, .int .i64 0, .int .i64 0, .int .i64 0, .int .i64 0, .int .i64 0, .int .i64 0, .int .i64 0, .int .i64 0] 27 (0, 0)) := by rw [← hW0]; exact blk_new _ _ _ rfl
  have B : Below w.heap.size w W0 := by rw [← hW0]; go_grown
  rw [hW0]
  have f0 := fun i => blk_fz HA i
  have y0 := blk_cell HA 0 _ rfl
  have y1 := blk_cell HA 1 _ rfl
  have y2 := blk_cell HA 2 _ rfl
  have y3 := blk_cell HA 3 _ rfl
  have y4 := blk_cell HA 4 _ rfl
  have y5 := blk_cell HA 5 _ rfl
  have y6 := blk_cell HA 6 _ rfl
  have y7 := blk_cell HA 7 _ rfl
  have y8 := blk_cell HA 8 _ rfl
  have y9 := blk_cell HA 9 _ rfl
  have y10 := blk_cell HA 10 _ rfl
  have y11 := blk_cell HA 11 _ rfl
  have e0 := f0 0
  have e1 := f0 1
  have e2 := f0 2
  have e3 := f0 3
  have e4 := f0 4
  have e5 := f0 5
  have e6 := f0 6
  have e7 := f0 7
  have e8 := f0 8
  have e9 := f0 9
  have e10 := f0 10
  have e11 := f0 11
  go_wp2_with fail
  generalize hb : w.heap.size = b at *
  have Z0 := HA
  have Z1 : (W0.setCell ⟨b, 0, none⟩ (.int .i64 0)).heap[b]? = some (.cells #[.int .i64 0, .int .i64 0, .int .i64 0, .int .i64 0, .int .i64 0, .int .i64 0, .int .i64 0, .int .i64 0, .int .i64 0, .int .i64 0, .int .i64 0, .int .i64 0] 27 (0, 0)) := blk_set (j := 0) Z0 _
  have Z2 : ((W0.setCell ⟨b, 0, none⟩ (.int .i64 0)).setCell ⟨b, 1, none⟩ (.int .i64 0)).heap[b]? = some (.cells #[.int .i64 0, .int .i64 0, .int .i64 0, .int .i64 0, .int .i64 0, .int .i64 0, .int .i64 0, .int .i64 0, .int .i64 0, .int .i64 0, .int .i64 0, .int .i64 0] 27 (0, 0)) := blk_set (j := 1) Z1 _
  have Z3 : (((W0.setCell ⟨b, 0, none⟩ (.int .i64 0)).setCell ⟨b, 1, none⟩ (.int .i64 0)).setCell ⟨b, 2, none⟩ (.int .i64 a)).heap[b]? = some (.cells #[.int .i64 0, .int .i64 0, .int .i64 a, .int .i64 0, .int .i64 0, .int .i64 0, .int .i64 0, .int .i64 0, .int .i64 0, .int .i64 0, .int .i64 0, .int .i64 0] 27 (0, 0)) := blk_set (j := 2) Z2 _
  have Z4 : ((((W0.setCell ⟨b, 0, none⟩ (.int .i64 0)).setCell ⟨b, 1, none⟩ (.int .i64 0)).setCell ⟨b, 2, none⟩ (.int .i64 a)).setCell ⟨b, 3, none⟩ (.int .i64 d)).heap[b]? = some (.cells #[.int .i64 0, .int .i64 0, .int .i64 a, .int .i64 d, .int .i64 0, .int .i64 0, .int .i64 0, .int .i64 0, .int .i64 0, .int .i64 0, .int .i64 0, .int .i64 0] 27 (0, 0)) := blk_set (j := 3) Z3 _
  have Z5 : (((((W0.setCell ⟨b, 0, none⟩ (.int .i64 0)).setCell ⟨b, 1, none⟩ (.int .i64 0)).setCell ⟨b, 2, none⟩ (.int .i64 a)).setCell ⟨b, 3, none⟩ (.int .i64 d)).setCell ⟨b, 4, none⟩ (.int .i64 c)).heap[b]? = some (.cells #[.int .i64 0, .int .i64 0, .int .i64 a, .int .i64 d, .int .i64 c, .int .i64 0, .int .i64 0, .int .i64 0, .int .i64 0, .int .i64 0, .int .i64 0, .int .i64 0] 27 (0, 0)) := blk_set (j := 4) Z4 _
  have Z6 : ((((((W0.setCell ⟨b, 0, none⟩ (.int .i64 0)).setCell ⟨b, 1, none⟩ (.int .i64 0)).setCell ⟨b, 2, none⟩ (.int .i64 a)).setCell ⟨b, 3, none⟩ (.int .i64 d)).setCell ⟨b, 4, none⟩ (.int .i64 c)).setCell ⟨b, 5, none⟩ (.int .i64 1)).heap[b]? = some (.cells #[.int .i64 0, .int .i64 0, .int .i64 a, .int .i64 d, .int .i64 c, .int .i64 1, .int .i64 0, .int .i64 0, .int .i64 0, .int .i64 0, .int .i64 0, .int .i64 0] 27 (0, 0)) := blk_set (j := 5) Z5 _
  have Z7 : (((((((W0.setCell ⟨b, 0, none⟩ (.int .i64 0)).setCell ⟨b, 1, none⟩ (.int .i64 0)).setCell ⟨b, 2, none⟩ (.int .i64 a)).setCell ⟨b, 3, none⟩ (.int .i64 d)).setCell ⟨b, 4, none⟩ (.int .i64 c)).setCell ⟨b, 5, none⟩ (.int .i64 1)).setCell ⟨b, 6, none⟩ (.int .i64 (-17))).heap[b]? = some (.cells #[.int .i64 0, .int .i64 0, .int .i64 a, .int .i64 d, .int .i64 c, .int .i64 1, .int .i64 (-17), .int .i64 0, .int .i64 0, .int .i64 0, .int .i64 0, .int .i64 0] 27 (0, 0)) := blk_set (j := 6) Z6 _
  have Z8 : ((((((((W0.setCell ⟨b, 0, none⟩ (.int .i64 0)).setCell ⟨b, 1, none⟩ (.int .i64 0)).setCell ⟨b, 2, none⟩ (.int .i64 a)).setCell ⟨b, 3, none⟩ (.int .i64 d)).setCell ⟨b, 4, none⟩ (.int .i64 c)).setCell ⟨b, 5, none⟩ (.int .i64 1)).setCell ⟨b, 6, none⟩ (.int .i64 (-17))).setCell ⟨b, 7, none⟩ (.int .i64 (-17))).heap[b]? = some (.cells #[.int .i64 0, .int .i64 0, .int .i64 a, .int .i64 d, .int .i64 c, .int .i64 1, .int .i64 (-17), .int .i64 (-17), .int .i64 0, .int .i64 0, .int .i64 0, .int .i64 0] 27 (0, 0)) := blk_set (j := 7) Z7 _
  have Z9 : (((((((((W0.setCell ⟨b, 0, none⟩ (.int .i64 0)).setCell ⟨b, 1, none⟩ (.int .i64 0)).setCell ⟨b, 2, none⟩ (.int .i64 a)).setCell ⟨b, 3, none⟩ (.int .i64 d)).setCell ⟨b, 4, none⟩ (.int .i64 c)).setCell ⟨b, 5, none⟩ (.int .i64 1)).setCell ⟨b, 6, none⟩ (.int .i64 (-17))).setCell ⟨b, 7, none⟩ (.int .i64 (-17))).setCell ⟨b, 8, none⟩ (.int .i64 (-17))).heap[b]? = some (.cells #[.int .i64 0, .int .i64 0, .int .i64 a, .int .i64 d, .int .i64 c, .int .i64 1, .int .i64 (-17), .int .i64 (-17), .int .i64 (-17), .int .i64 0, .int .i64 0, .int .i64 0] 27 (0, 0)) := blk_set (j := 8) Z8 _
  have Z10 : ((((((((((W0.setCell ⟨b, 0, none⟩ (.int .i64 0)).setCell ⟨b, 1, none⟩ (.int .i64 0)).setCell ⟨b, 2, none⟩ (.int .i64 a)).setCell ⟨b, 3, none⟩ (.int .i64 d)).setCell ⟨b, 4, none⟩ (.int .i64 c)).setCell ⟨b, 5, none⟩ (.int .i64 1)).setCell ⟨b, 6, none⟩ (.int .i64 (-17))).setCell ⟨b, 7, none⟩ (.int .i64 (-17))).setCell ⟨b, 8, none⟩ (.int .i64 (-17))).setCell ⟨b, 9, none⟩ (.int .i64 18)).heap[b]? = some (.cells #[.int .i64 0, .int .i64 0, .int .i64 a, .int .i64 d, .int .i64 c, .int .i64 1, .int .i64 (-17), .int .i64 (-17), .int .i64 (-17), .int .i64 18, .int .i64 0, .int .i64 0] 27 (0, 0)) := blk_set (j := 9) Z9 _
  have Z11 : (((((((((((W0.setCell ⟨b, 0, none⟩ (.int .i64 0)).setCell ⟨b, 1, none⟩ (.int .i64 0)).setCell ⟨b, 2, none⟩ (.int .i64 a)).setCell ⟨b, 3, none⟩ (.int .i64 d)).setCell ⟨b, 4, none⟩ (.int .i64 c)).setCell ⟨b, 5, none⟩ (.int .i64 1)).setCell ⟨b, 6, none⟩ (.int .i64 (-17))).setCell ⟨b, 7, none⟩ (.int .i64 (-17))).setCell ⟨b, 8, none⟩ (.int .i64 (-17))).setCell ⟨b, 9, none⟩ (.int .i64 18)).setCell ⟨b, 10, none⟩ (.int .i64 18)).heap[b]? = some (.cells #[.int .i64 0, .int .i64 0, .int .i64 a, .int .i64 d, .int .i64 c, .int .i64 1, .int .i64 (-17), .int .i64 (-17), .int .i64 (-17), .int .i64 18, .int .i64 18, .int .i64 0] 27 (0, 0)) := blk_set (j := 10) Z10 _
  have Z12 : ((((((((((((W0.setCell ⟨b, 0, none⟩ (.int .i64 0)).setCell ⟨b, 1, none⟩ (.int .i64 0)).setCell ⟨b, 2, none⟩ (.int .i64 a)).setCell ⟨b, 3, none⟩ (.int .i64 d)).setCell ⟨b, 4, none⟩ (.int .i64 c)).setCell ⟨b, 5, none⟩ (.int .i64 1)).setCell ⟨b, 6, none⟩ (.int .i64 (-17))).setCell ⟨b, 7, none⟩ (.int .i64 (-17))).setCell ⟨b, 8, none⟩ (.int .i64 (-17))).setCell ⟨b, 9, none⟩ (.int .i64 18)).setCell ⟨b, 10, none⟩ (.int .i64 18)).setCell ⟨b, 11, none⟩ (.int .i64 18)).heap[b]? = some (.cells #[.int .i64 0, .int .i64 0, .int .i64 a, .int .i64 d, .int .i64 c, .int .i64 1, .int .i64 (-17), .int .i64 (-17), .int .i64 (-17), .int .i64 18, .int .i64 18, .int .i64 18] 27 (0, 0)) := blk_set (j := 11) Z11 _
  have BZ0 := B
  have BZ1 := BZ0.setCell (p := ⟨b, 0, none⟩) (Nat.le_refl _) (.int .i64 0)
  have BZ2 := BZ1.setCell (p := ⟨b, 1, none⟩) (Nat.le_refl _) (.int .i64 0)
  have BZ3 := BZ2.setCell (p := ⟨b, 2, none⟩) (Nat.le_refl _) (.int .i64 a)
  have BZ4 := BZ3.setCell (p := ⟨b, 3, none⟩) (Nat.le_refl _) (.int .i64 d)
  have BZ5 := BZ4.setCell (p := ⟨b, 4, none⟩) (Nat.le_refl _) (.int .i64 c)
  have BZ6 := BZ5.setCell (p := ⟨b, 5, none⟩) (Nat.le_refl _) (.int .i64 1)
  have BZ7 := BZ6.setCell (p := ⟨b, 6, none⟩) (Nat.le_refl _) (.int .i64 (-17))
  have BZ8 := BZ7.setCell (p := ⟨b, 7, none⟩) (Nat.le_refl _) (.int .i64 (-17))
  have BZ9 := BZ8.setCell (p := ⟨b, 8, none⟩) (Nat.le_refl _) (.int .i64 (-17))
  have BZ10 := BZ9.setCell (p := ⟨b, 9, none⟩) (Nat.le_refl _) (.int .i64 18)
  have BZ11 := BZ10.setCell (p := ⟨b, 10, none⟩) (Nat.le_refl _) (.int .i64 18)
  have BZ12 := BZ11.setCell (p := ⟨b, 11, none⟩) (Nat.le_refl _) (.int .i64 18)
  generalize ((((((((((((W0.setCell ⟨b, 0, none⟩ (.int .i64 0)).setCell ⟨b, 1, none⟩ (.int .i64 0)).setCell ⟨b, 2, none⟩ (.int .i64 a)).setCell ⟨b, 3, none⟩ (.int .i64 d)).setCell ⟨b, 4, none⟩ (.int .i64 c)).setCell ⟨b, 5, none⟩ (.int .i64 1)).setCell ⟨b, 6, none⟩ (.int .i64 (-17))).setCell ⟨b, 7, none⟩ (.int .i64 (-17))).setCell ⟨b, 8, none⟩ (.int .i64 (-17))).setCell ⟨b, 9, none⟩ (.int .i64 18)).setCell ⟨b, 10, none⟩ (.int .i64 18)).setCell ⟨b, 11, none⟩ (.int .i64 18)) = W2 at *
  have z0 := blk_cell Z12 0 _ rfl
  have z1 := blk_cell Z12 1 _ rfl
  have z2 := blk_cell Z12 2 _ rfl
  have z3 := blk_cell Z12 3 _ rfl
  have z4 := blk_cell Z12 4 _ rfl
  have z5 := blk_cell Z12 5 _ rfl
  have z6 := blk_cell Z12 6 _ rfl
  have z7 := blk_cell Z12 7 _ rfl
  have z8 := blk_cell Z12 8 _ rfl
  have z9 := blk_cell Z12 9 _ rfl
  have z10 := blk_cell Z12 10 _ rfl
  have z11 := blk_cell Z12 11 _ rfl
  refine bodyPost_ret (v := .agg #[.int .i64 0, .int .i64 0, .int .i64 a, .int .i64 d, .int .i64 c, .int .i64 1, .int .i64 (-17), .int .i64 (-17), .int .i64 (-17), .int .i64 18, .int .i64 18, .int .i64 18]) (by simp [results, Tryd.results29, go_sem, z0, z1, z2, z3, z4, z5, z6, z7, z8, z9, z10, z11]) rfl ?_
  exact ⟨rfl, BZ12⟩
set_option maxHeartbeats 4000000 in
theorem tip_is (X Y n0 n1 n2 W l0 l1 l2 h0 h1 h2 : Int) (q0 q1 q2 : Int) (x1 x2 x3 y1 y2 y3 u1 u2 u3 v1 v2 v3 a1 a2 a3 b1 b2 b3 : Int) (w : World) (hT : Tab w) (k0 : -1000 ≤ q0 ∧ q0 ≤ 1000) (k1 : -1000 ≤ q1 ∧ q1 ≤ 1000) (k2 : -1000 ≤ q2 ∧ q2 ≤ 1000) (V : Hid (armB X Y n0 n1 n2 W l0 l1 l2 h0 h1 h2 = true)) (P : Hid (Pose X Y n0 n1 n2 q0 q1 q2 x1 x2 x3 y1 y2 y3 u1 u2 u3 v1 v2 v3 a1 a2 a3 b1 b2 b3)) :
    Calls Tryd.prog 16 #[.agg #[.int .i64 X, .int .i64 Y, .int .i64 n0, .int .i64 n1, .int .i64 n2, .int .i64 W, .int .i64 l0, .int .i64 l1, .int .i64 l2, .int .i64 h0, .int .i64 h1, .int .i64 h2], .agg #[.int .i64 q0, .int .i64 q1, .int .i64 q2]] w fun e w' => e = .returned (.tuple #[.agg #[.int .i64 a3, .int .i64 b3], .agg #[.int .i64 x3, .int .i64 y3, .int .i64 3]]) ∧ Below w.heap.size w w' := by
  go_enter Tryd.func16, Tryd.ntmps16
  go_upto_region 1 with fail
  obtain ⟨W0, hW0⟩ : ∃ z, ((((w.alloc (.cells #[.int .i64 X, .int .i64 Y, .int .i64 n0, .int .i64 n1, .int .i64 n2, .int .i64 W, .int .i64 l0, .int .i64 l1, .int .i64 l2, .int .i64 h0, .int .i64 h1, .int .i64 h2] 27)).alloc (.cells #[.int .i64 q0, .int .i64 q1, .int .i64 q2] 25)).alloc (.cells #[.int .i64 0, .int .i64 0] 23)).alloc (.cells #[.int .i64 0, .int .i64 0, .int .i64 0] 29)) = z := ⟨_, rfl⟩
  have HD : Hid (W0.heap[w.heap.size + 1 + 1 + 1]? = some (.cells #[.int .i64 0, .int .i64 0, .int .i64 0] 29 (0, 0))) := Lib.hid (by rw [← hW0]; exact blk_new _ _ _ (by simp))
  have HE : Hid (W0.heap[w.heap.size + 1 + 1]? = some (.cells #[.int .i64 0, .int .i64 0] 23 (0, 0))) := Lib.hid (by rw [← hW0]; exact blk_alloc (blk_new _ _ _ (by simp)) _)
  have HQ : Hid (W0.heap[w.heap.size + 1]? = some (.cells #[.int .i64 q0, .int .i64 q1, .int .i64 q2] 25 (0, 0))) := Lib.hid (by rw [← hW0]; exact blk_alloc (blk_alloc (blk_new _ _ _ (by simp)) _) _)
  have HA : Hid (W0.heap[w.heap.size]? = some (.cells #[.int .i64 X, .int .i64 Y, .int .i64 n0, .int .i64 n1, .int .i64 n2, .int .i64 W, .int .i64 l0, .int .i64 l1, .int .i64 l2, .int .i64 h0, .int .i64 h1, .int .i64 h2] 27 (0, 0))) := Lib.hid (by rw [← hW0]; exact blk_alloc (blk_alloc (blk_alloc (blk_new _ _ _ rfl) _) _) _)
  have B : Hid (Below w.heap.size w W0) := Lib.hid (by rw [← hW0]; go_grown)
  have TT : Hid (Tab W0) := Lib.hid (by rw [← hW0]; repeat (first | exact hT | apply Tab.alloc))
  rw [hW0]
  clear hW0 hT
  obtain ⟨ba, ea⟩ : ∃ a, w.heap.size = a := ⟨_, rfl⟩
  obtain ⟨bq, eq⟩ : ∃ a, w.heap.size + 1 = a := ⟨_, rfl⟩
  obtain ⟨be, et⟩ : ∃ a, w.heap.size + 1 + 1 = a := ⟨_, rfl⟩
  obtain ⟨bd, ed⟩ : ∃ a, w.heap.size + 1 + 1 + 1 = a := ⟨_, rfl⟩
  have NE := Lib.hid (show be ≠ bd ∧ w.heap.size ≤ be ∧ w.heap.size ≤ bd by omega)
  rw [ed, et, eq, ea]
  rw [ed] at HD
  rw [et] at HE
  rw [eq] at HQ
  rw [ea] at HA
  clear ed et eq ea
  have c0 := blk_cell HA.out 0 _ rfl
  have c1 := blk_cell HA.out 1 _ rfl
  have c2 := blk_cell HA.out 2 _ rfl
  have c3 := blk_cell HA.out 3 _ rfl
  have c4 := blk_cell HA.out 4 _ rfl
  have c5 := blk_cell HA.out 5 _ rfl
  have c6 := blk_cell HA.out 6 _ rfl
  have c7 := blk_cell HA.out 7 _ rfl
  have c8 := blk_cell HA.out 8 _ rfl
  have c9 := blk_cell HA.out 9 _ rfl
  have c10 := blk_cell HA.out 10 _ rfl
  have c11 := blk_cell HA.out 11 _ rfl
  have j0 := blk_cell HQ.out 0 _ rfl
  have j1 := blk_cell HQ.out 1 _ rfl
  have j2 := blk_cell HQ.out 2 _ rfl
  go_wp2_with (first | (go_at_call 38; refine (points_is X Y n0 n1 n2 W l0 l1 l2 h0 h1 h2 q0 q1 q2 x1 x2 x3 y1 y2 y3 u1 u2 u3 v1 v2 v3 a1 a2 a3 b1 b2 b3 _ TT.out k0 k1 k2 V P).mono ?_; rintro e W1 ⟨rfl, hb1⟩; have T1 := Lib.hid (TT.out.below hb1); have D1 := Lib.hid (blk_call HD.out hb1); have E1 := Lib.hid (blk_call HE.out hb1); have B1 := Lib.hid (belT B.out hb1); have za0 := blk_cell (blk_call HA.out hb1) 0 _ rfl; have za1 := blk_cell (blk_call HA.out hb1) 1 _ rfl; have za2 := blk_cell (blk_call HA.out hb1) 2 _ rfl; have za3 := blk_cell (blk_call HA.out hb1) 3 _ rfl; have za4 := blk_cell (blk_call HA.out hb1) 4 _ rfl; have za5 := blk_cell (blk_call HA.out hb1) 5 _ rfl; have za6 := blk_cell (blk_call HA.out hb1) 6 _ rfl; have za7 := blk_cell (blk_call HA.out hb1) 7 _ rfl; have za8 := blk_cell (blk_call HA.out hb1) 8 _ rfl; have za9 := blk_cell (blk_call HA.out hb1) 9 _ rfl; have za10 := blk_cell (blk_call HA.out hb1) 10 _ rfl; have za11 := blk_cell (blk_call HA.out hb1) 11 _ rfl; have la := blk_lt (blk_call HA.out hb1); have zq0 := blk_cell (blk_call HQ.out hb1) 0 _ rfl; have zq1 := blk_cell (blk_call HQ.out hb1) 1 _ rfl; have zq2 := blk_cell (blk_call HQ.out hb1) 2 _ rfl; have lq := blk_lt (blk_call HQ.out hb1); clear hb1 c0 c1 c2 c3 c4 c5 c6 c7 c8 c9 c10 c11 j0 j1 j2) | (go_at_call 39; refine (dirsP_is X Y n0 n1 n2 W l0 l1 l2 h0 h1 h2 q0 q1 q2 x1 x2 x3 y1 y2 y3 u1 u2 u3 v1 v2 v3 a1 a2 a3 b1 b2 b3 _ (T1.out.alloc _) k0 k1 k2 P).mono ?_; rintro e W2 ⟨rfl, hb2⟩; have B2 := Lib.hid (belT (belA B1.out _) hb2); have D2 := Lib.hid (blk_call (blk_alloc D1.out _) hb2); have E2 := Lib.hid (blk_call (blk_alloc E1.out _) hb2); have P2 := Lib.hid (blk_call (blk_new W1 (.cells #[.int .i64 X, .int .i64 Y, .int .i64 a1, .int .i64 b1, .int .i64 a2, .int .i64 b2, .int .i64 a3, .int .i64 b3] 44) _ rfl) hb2)))
  have NX := Lib.hid (show be < W1.heap.size ∧ bd < W1.heap.size from ⟨blk_lt E1.out, blk_lt D1.out⟩)
  obtain ⟨bp, ebp⟩ : ∃ x, W1.heap.size = x := ⟨_, rfl⟩
  obtain ⟨bv, ebv⟩ : ∃ x, W2.heap.size = x := ⟨_, rfl⟩
  have NY := Lib.hid (show be ≠ bp ∧ bd ≠ bp ∧ be ≠ bv ∧ bd ≠ bv by have := NX.out; have := blk_lt E2.out; have := blk_lt D2.out; omega)
  have D3 := Lib.hid (blk_alloc D2.out (.cells #[.int .i64 x1, .int .i64 y1, .int .i64 1, .int .i64 x2, .int .i64 y2, .int .i64 2, .int .i64 x3, .int .i64 y3, .int .i64 3] 46))
  have E3 := Lib.hid (blk_alloc E2.out (.cells #[.int .i64 x1, .int .i64 y1, .int .i64 1, .int .i64 x2, .int .i64 y2, .int .i64 2, .int .i64 x3, .int .i64 y3, .int .i64 3] 46))
  have P3 := Lib.hid (blk_alloc P2.out (.cells #[.int .i64 x1, .int .i64 y1, .int .i64 1, .int .i64 x2, .int .i64 y2, .int .i64 2, .int .i64 x3, .int .i64 y3, .int .i64 3] 46))
  have V3 := Lib.hid (blk_new W2 (.cells #[.int .i64 x1, .int .i64 y1, .int .i64 1, .int .i64 x2, .int .i64 y2, .int .i64 2, .int .i64 x3, .int .i64 y3, .int .i64 3] 46) _ rfl)
  have B3 := Lib.hid (belA B2.out (.cells #[.int .i64 x1, .int .i64 y1, .int .i64 1, .int .i64 x2, .int .i64 y2, .int .i64 2, .int .i64 x3, .int .i64 y3, .int .i64 3] 46))
  rw [ebp] at P3 ⊢
  rw [ebv] at V3 ⊢
  clear ebp ebv E2 D2 P2 B2 E1 D1 B1 T1 TT B HD HE HQ HA NX
  generalize W2.alloc (.cells #[.int .i64 x1, .int .i64 y1, .int .i64 1, .int .i64 x2, .int .i64 y2, .int .i64 2, .int .i64 x3, .int .i64 y3, .int .i64 3] 46) = W3 at *
  have p6 := blk_cell P3.out 6 _ rfl
  have p7 := blk_cell P3.out 7 _ rfl
  have v6 := blk_cell V3.out 6 _ rfl
  have v7 := blk_cell V3.out 7 _ rfl
  have v8 := blk_cell V3.out 8 _ rfl
  have s0 := blk_cell E3.out 0 _ rfl
  have s1 := blk_cell E3.out 1 _ rfl
  have t0 := blk_cell D3.out 0 _ rfl
  have t1 := blk_cell D3.out 1 _ rfl
  have t2 := blk_cell D3.out 2 _ rfl
  have fs0 := blk_fz E3.out 0
  have fs1 := blk_fz E3.out 1
  have ft0 := blk_fz D3.out 0
  have ft1 := blk_fz D3.out 1
  have ft2 := blk_fz D3.out 2
  have n1 := NE.out.1
  have n2' : bd ≠ be := fun h => n1 h.symm
  have n3 := NY.out.1
  have n4 := NY.out.2.1
  have n5 := NY.out.2.2.1
  have n6 := NY.out.2.2.2
  have n7 : bp ≠ be := fun h => n3 h.symm
  have n8 : bp ≠ bd := fun h => n4 h.symm
  have n9 : bv ≠ be := fun h => n5 h.symm
  have n10 : bv ≠ bd := fun h => n6 h.symm
  go_region
  go_wp2_with fail
  have ZE : (((((W3.setCell ⟨be, 0, none⟩ (.int .i64 a3)).setCell ⟨be, 1, none⟩ (.int .i64 b3)).setCell ⟨bd, 0, none⟩ (.int .i64 x3)).setCell ⟨bd, 1, none⟩ (.int .i64 y3)).setCell ⟨bd, 2, none⟩ (.int .i64 3)).drew.heap[be]? = some (.cells #[.int .i64 a3, .int .i64 b3] 23 (0, 0)) := blk_other (j := 2) (blk_other (j := 1) (blk_other (j := 0) (blk_set (j := 1) (blk_set (j := 0) E3.out _) _) n2' _) n2' _) n2' _
  have ZD : (((((W3.setCell ⟨be, 0, none⟩ (.int .i64 a3)).setCell ⟨be, 1, none⟩ (.int .i64 b3)).setCell ⟨bd, 0, none⟩ (.int .i64 x3)).setCell ⟨bd, 1, none⟩ (.int .i64 y3)).setCell ⟨bd, 2, none⟩ (.int .i64 3)).drew.heap[bd]? = some (.cells #[.int .i64 x3, .int .i64 y3, .int .i64 3] 29 (0, 0)) := blk_set (j := 2) (blk_set (j := 1) (blk_set (j := 0) (blk_other (j := 1) (blk_other (j := 0) D3.out n1 _) n1 _) _) _) _
  have ne1 := NE.out.2.1
  have ne2 := NE.out.2.2
  have BZ := (belS (p := ⟨bd, 2, none⟩) (belS (p := ⟨bd, 1, none⟩) (belS (p := ⟨bd, 0, none⟩) (belS (p := ⟨be, 1, none⟩) (belS (p := ⟨be, 0, none⟩) B3.out ne1 (.int .i64 a3)) ne1 (.int .i64 b3)) ne2 (.int .i64 x3)) ne2 (.int .i64 y3)) ne2 (.int .i64 3)).drew
  clear s0 s1 t0 t1 t2 fs0 fs1 ft0 ft1 ft2 p6 p7 v6 v7 v8 P3 V3 E3 D3 B3
  generalize (((((W3.setCell ⟨be, 0, none⟩ (.int .i64 a3)).setCell ⟨be, 1, none⟩ (.int .i64 b3)).setCell ⟨bd, 0, none⟩ (.int .i64 x3)).setCell ⟨bd, 1, none⟩ (.int .i64 y3)).setCell ⟨bd, 2, none⟩ (.int .i64 3)).drew = W4 at *
  have e0 := blk_cell ZE 0 _ rfl
  have e1 := blk_cell ZE 1 _ rfl
  have d0 := blk_cell ZD 0 _ rfl
  have d1 := blk_cell ZD 1 _ rfl
  have d2 := blk_cell ZD 2 _ rfl
  refine bodyPost_ret (v := .tuple #[.agg #[.int .i64 a3, .int .i64 b3], .agg #[.int .i64 x3, .int .i64 y3, .int .i64 3]]) (by simp [results, Tryd.results16, go_sem, e0, e1, d0, d1, d2]) rfl ?_
  exact ⟨rfl, BZ⟩
/-- What Solve asks of the target. -/
theorem solve_any (X Y n0 n1 n2 W l0 l1 l2 h0 h1 h2 px py dx dy : Int) (w : World) (hT : Tab w) (V : Hid (armB X Y n0 n1 n2 W l0 l1 l2 h0 h1 h2 = true)) (hd : Hid (vdB dx dy 3 = true)) (hp : Hid ((-1000000000 ≤ px ∧ px ≤ 1000000000) ∧ -1000000000 ≤ py ∧ py ≤ 1000000000)) (L : List J3) (n : Nat) (hL : Hid (solL X Y n0 n1 n2 l0 l1 l2 h0 h1 h2 px py dx dy = L)) (hn : Hid (L.length = n)) :
    Calls Tryd.prog 14 #[.agg #[.int .i64 X, .int .i64 Y, .int .i64 n0, .int .i64 n1, .int .i64 n2, .int .i64 W, .int .i64 l0, .int .i64 l1, .int .i64 l2, .int .i64 h0, .int .i64 h1, .int .i64 h2], .agg #[.int .i64 px, .int .i64 py], .agg #[.int .i64 dx, .int .i64 dy, .int .i64 3]] w fun e w' => (∃ ao cap, e = .returned (.slice ao n cap) ∧ PRow3 w' ao L) ∧ Below w.heap.size w w' := by
  rw [← hn.out, ← hL.out]
  have hb := vd_bd hd.out
  have hn : 1 ≤ n2 ∧ n2 ≤ 40 := by have := (armB_iff X Y n0 n1 n2 W l0 l1 l2 h0 h1 h2).1 V.out; omega
  have t1 := far_bdI (n := n2) (M := 274625) (by omega) hb.2.1
  have t2 := far_bdI (n := n2) (M := 274625) (by omega) hb.2.2
  have e1 : n2 * 16 * p65 (3 - 3) * dx = 16 * (n2 * dx) := by rw [show p65 (3 - 3) = 1 by decide]; grind
  have e2 : n2 * 16 * p65 (3 - 3) * dy = 16 * (n2 * dy) := by rw [show p65 (3 - 3) = 1 by decide]; grind
  have hq := hp.out
  exact solve_is X Y n0 n1 n2 W l0 l1 l2 h0 h1 h2 px py dx dy _ _ _ _ w hT V hd (Lib.hid e1) (Lib.hid e2) (Lib.hid rfl) (Lib.hid rfl) (Lib.hid (by omega))
end Go.Proofs.YtceejjamngplkaaDoor
