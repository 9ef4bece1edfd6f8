/- Contracts of the reference of layer 8: Reaches, All. Conditions: the arm is valid. -/
import Derived.Test.YtceejjamngplkaaDoorIkD
import Derived.Test.YtceejjamngplkaaDoorAmR
namespace Go.Proofs.YtceejjamngplkaaDoor
open Go.ChangeShapes Go.WideShapes Go.ChangeAt Go.RowKit
set_option linter.unusedVariables false
set_option linter.unusedSimpArgs false
set_option maxRecDepth 100000

theorem alloc4 (w : World) (a b c d : Obj) : (((((w.alloc a).alloc b).alloc c).alloc d).heap[w.heap.size]? = (w.alloc a).heap[w.heap.size]?) := by
  have h0 : (w.alloc a).heap[w.heap.size]? = some a := World.alloc_heap_new w a
  have h1 := Below.heap_alloc (w.alloc a) b w.heap.size (by simp)
  have h2 := Below.heap_alloc ((w.alloc a).alloc b) c w.heap.size (by simp; omega)
  have h3 := Below.heap_alloc (((w.alloc a).alloc b).alloc c) d w.heap.size (by simp; omega)
  rw [h3, h2, h1]
set_option maxHeartbeats 8000000 in
theorem reaches_is (X Y n0 n1 n2 W l0 l1 l2 h0 h1 h2 : Int) (q0 q1 q2 : Int) (x1 x2 x3 y1 y2 y3 u1 u2 u3 v1 v2 v3 a1 a2 a3 b1 b2 b3 : Int) (px py dx dy : Int) (t : Bool) (w : World) (hT : Tab w) (k0 : -1000 ≤ q0 ∧ q0 ≤ 1000) (k1 : -1000 ≤ q1 ∧ q1 ≤ 1000) (k2 : -1000 ≤ q2 ∧ q2 ≤ 1000) (V : Hid (armB X Y n0 n1 n2 W l0 l1 l2 h0 h1 h2 = true)) (P : Hid (Pose X Y n0 n1 n2 q0 q1 q2 x1 x2 x3 y1 y2 y3 u1 u2 u3 v1 v2 v3 a1 a2 a3 b1 b2 b3))
    (ht : Hid (decide ((a3 = px ∧ b3 = py) ∧ x3 = dx ∧ y3 = dy) = t)) :
    Calls Tryd.prog 37 #[.agg #[.int .i64 X, .int .i64 Y, .int .i64 n0, .int .i64 n1, .int .i64 n2, .int .i64 W, .int .i64 l0, .int .i64 l1, .int .i64 l2, .int .i64 h0, .int .i64 h1, .int .i64 h2], .agg #[.int .i64 q0, .int .i64 q1, .int .i64 q2], .agg #[.int .i64 px, .int .i64 py], .agg #[.int .i64 dx, .int .i64 dy, .int .i64 3]] w fun e w' => e = .returned (.bool t) ∧ Below w.heap.size w w' := by
  go_enter Tryd.func37, Tryd.ntmps37
  go_upto_region 1 with fail
  obtain ⟨W0, hW0⟩ : ∃ z, ((((w.alloc (.cells #[.int .i64 X, .int .i64 Y, .int .i64 n0, .int .i64 n1, .int .i64 n2, .int .i64 W, .int .i64 l0, .int .i64 l1, .int .i64 l2, .int .i64 h0, .int .i64 h1, .int .i64 h2] 27)).alloc (.cells #[.int .i64 q0, .int .i64 q1, .int .i64 q2] 25)).alloc (.cells #[.int .i64 px, .int .i64 py] 23)).alloc (.cells #[.int .i64 dx, .int .i64 dy, .int .i64 3] 29)) = z := ⟨_, rfl⟩
  have HD : Hid (W0.heap[w.heap.size + 1 + 1 + 1]? = some (.cells #[.int .i64 dx, .int .i64 dy, .int .i64 3] 29 (0, 0))) := Lib.hid (by rw [← hW0]; exact blk_new _ _ _ (by simp))
  have HT : Hid (W0.heap[w.heap.size + 1 + 1]? = some (.cells #[.int .i64 px, .int .i64 py] 23 (0, 0))) := Lib.hid (by rw [← hW0]; exact blk_alloc (blk_new _ _ _ (by simp)) _)
  have HQ : Hid (W0.heap[w.heap.size + 1]? = some (.cells #[.int .i64 q0, .int .i64 q1, .int .i64 q2] 25 (0, 0))) := Lib.hid (by rw [← hW0]; exact blk_alloc (blk_alloc (blk_new _ _ _ (by simp)) _) _)
  have HA : Hid (W0.heap[w.heap.size]? = some (.cells #[.int .i64 X, .int .i64 Y, .int .i64 n0, .int .i64 n1, .int .i64 n2, .int .i64 W, .int .i64 l0, .int .i64 l1, .int .i64 l2, .int .i64 h0, .int .i64 h1, .int .i64 h2] 27 (0, 0))) := Lib.hid (by rw [← hW0]; exact blk_alloc (blk_alloc (blk_alloc (blk_new _ _ _ rfl) _) _) _)
  have B : Hid (Below w.heap.size w W0) := Lib.hid (by rw [← hW0]; go_grown)
  have TT : Hid (Tab W0) := Lib.hid (by rw [← hW0]; repeat (first | exact hT | apply Tab.alloc))
  rw [hW0]
  clear hW0 hT
  obtain ⟨ba, ea⟩ : ∃ a, w.heap.size = a := ⟨_, rfl⟩
  obtain ⟨bq, eq⟩ : ∃ a, w.heap.size + 1 = a := ⟨_, rfl⟩
  obtain ⟨bt, et⟩ : ∃ a, w.heap.size + 1 + 1 = a := ⟨_, rfl⟩
  obtain ⟨bd, ed⟩ : ∃ a, w.heap.size + 1 + 1 + 1 = a := ⟨_, rfl⟩
  rw [ed, et, eq, ea]
  rw [ed] at HD
  rw [et] at HT
  rw [eq] at HQ
  rw [ea] at HA
  clear ed et eq ea
  have c0 := blk_cell HA.out 0 _ rfl
  have c1 := blk_cell HA.out 1 _ rfl
  have c2 := blk_cell HA.out 2 _ rfl
  have c3 := blk_cell HA.out 3 _ rfl
  have c4 := blk_cell HA.out 4 _ rfl
  have c5 := blk_cell HA.out 5 _ rfl
  have c6 := blk_cell HA.out 6 _ rfl
  have c7 := blk_cell HA.out 7 _ rfl
  have c8 := blk_cell HA.out 8 _ rfl
  have c9 := blk_cell HA.out 9 _ rfl
  have c10 := blk_cell HA.out 10 _ rfl
  have c11 := blk_cell HA.out 11 _ rfl
  have j0 := blk_cell HQ.out 0 _ rfl
  have j1 := blk_cell HQ.out 1 _ rfl
  have j2 := blk_cell HQ.out 2 _ rfl
  by_cases e1 : a3 = px
  rotate_left
  · go_wp2_with (first | (go_at_call 38; refine (points_is X Y n0 n1 n2 W l0 l1 l2 h0 h1 h2 q0 q1 q2 x1 x2 x3 y1 y2 y3 u1 u2 u3 v1 v2 v3 a1 a2 a3 b1 b2 b3 _ TT.out k0 k1 k2 V P).mono ?_; rintro e W1 ⟨rfl, hb1⟩; have T1 := Lib.hid (TT.out.below hb1); have D1 := Lib.hid (blk_call HD.out hb1); have B1 := Lib.hid (belT B.out hb1); have zu0 := blk_cell (blk_call HT.out hb1) 0 _ rfl; have zu1 := blk_cell (blk_call HT.out hb1) 1 _ rfl; have lu := blk_lt (blk_call HT.out hb1); have za0 := blk_cell (blk_call HA.out hb1) 0 _ rfl; have za1 := blk_cell (blk_call HA.out hb1) 1 _ rfl; have za2 := blk_cell (blk_call HA.out hb1) 2 _ rfl; have za3 := blk_cell (blk_call HA.out hb1) 3 _ rfl; have za4 := blk_cell (blk_call HA.out hb1) 4 _ rfl; have za5 := blk_cell (blk_call HA.out hb1) 5 _ rfl; have za6 := blk_cell (blk_call HA.out hb1) 6 _ rfl; have za7 := blk_cell (blk_call HA.out hb1) 7 _ rfl; have za8 := blk_cell (blk_call HA.out hb1) 8 _ rfl; have za9 := blk_cell (blk_call HA.out hb1) 9 _ rfl; have za10 := blk_cell (blk_call HA.out hb1) 10 _ rfl; have za11 := blk_cell (blk_call HA.out hb1) 11 _ rfl; have la := blk_lt (blk_call HA.out hb1); have zq0 := blk_cell (blk_call HQ.out hb1) 0 _ rfl; have zq1 := blk_cell (blk_call HQ.out hb1) 1 _ rfl; have zq2 := blk_cell (blk_call HQ.out hb1) 2 _ rfl; have lq := blk_lt (blk_call HQ.out hb1); clear hb1 c0 c1 c2 c3 c4 c5 c6 c7 c8 c9 c10 c11 j0 j1 j2) | (go_at_call 39; refine (dirsP_is X Y n0 n1 n2 W l0 l1 l2 h0 h1 h2 q0 q1 q2 x1 x2 x3 y1 y2 y3 u1 u2 u3 v1 v2 v3 a1 a2 a3 b1 b2 b3 _ (T1.out.alloc _) k0 k1 k2 P).mono ?_; rintro e W2 ⟨rfl, hb2⟩; have B2 := Lib.hid (belT (belA B1.out _) hb2); have zd0 := blk_cell (blk_call (blk_alloc D1.out _) hb2) 0 _ rfl; have zd1 := blk_cell (blk_call (blk_alloc D1.out _) hb2) 1 _ rfl; have zd2 := blk_cell (blk_call (blk_alloc D1.out _) hb2) 2 _ rfl; have ld := blk_lt (blk_call (blk_alloc D1.out _) hb2); clear hb2))
    go_ret
    exact ⟨ret_bool (by rw [← ht.out]; simp [e1]), belA B1.out _⟩
  subst e1
  by_cases e2 : b3 = py
  rotate_left
  · go_wp2_with (first | (go_at_call 38; refine (points_is X Y n0 n1 n2 W l0 l1 l2 h0 h1 h2 q0 q1 q2 x1 x2 x3 y1 y2 y3 u1 u2 u3 v1 v2 v3 a1 a2 a3 b1 b2 b3 _ TT.out k0 k1 k2 V P).mono ?_; rintro e W1 ⟨rfl, hb1⟩; have T1 := Lib.hid (TT.out.below hb1); have D1 := Lib.hid (blk_call HD.out hb1); have B1 := Lib.hid (belT B.out hb1); have zu0 := blk_cell (blk_call HT.out hb1) 0 _ rfl; have zu1 := blk_cell (blk_call HT.out hb1) 1 _ rfl; have lu := blk_lt (blk_call HT.out hb1); have za0 := blk_cell (blk_call HA.out hb1) 0 _ rfl; have za1 := blk_cell (blk_call HA.out hb1) 1 _ rfl; have za2 := blk_cell (blk_call HA.out hb1) 2 _ rfl; have za3 := blk_cell (blk_call HA.out hb1) 3 _ rfl; have za4 := blk_cell (blk_call HA.out hb1) 4 _ rfl; have za5 := blk_cell (blk_call HA.out hb1) 5 _ rfl; have za6 := blk_cell (blk_call HA.out hb1) 6 _ rfl; have za7 := blk_cell (blk_call HA.out hb1) 7 _ rfl; have za8 := blk_cell (blk_call HA.out hb1) 8 _ rfl; have za9 := blk_cell (blk_call HA.out hb1) 9 _ rfl; have za10 := blk_cell (blk_call HA.out hb1) 10 _ rfl; have za11 := blk_cell (blk_call HA.out hb1) 11 _ rfl; have la := blk_lt (blk_call HA.out hb1); have zq0 := blk_cell (blk_call HQ.out hb1) 0 _ rfl; have zq1 := blk_cell (blk_call HQ.out hb1) 1 _ rfl; have zq2 := blk_cell (blk_call HQ.out hb1) 2 _ rfl; have lq := blk_lt (blk_call HQ.out hb1); clear hb1 c0 c1 c2 c3 c4 c5 c6 c7 c8 c9 c10 c11 j0 j1 j2) | (go_at_call 39; refine (dirsP_is X Y n0 n1 n2 W l0 l1 l2 h0 h1 h2 q0 q1 q2 x1 x2 x3 y1 y2 y3 u1 u2 u3 v1 v2 v3 a1 a2 a3 b1 b2 b3 _ (T1.out.alloc _) k0 k1 k2 P).mono ?_; rintro e W2 ⟨rfl, hb2⟩; have B2 := Lib.hid (belT (belA B1.out _) hb2); have zd0 := blk_cell (blk_call (blk_alloc D1.out _) hb2) 0 _ rfl; have zd1 := blk_cell (blk_call (blk_alloc D1.out _) hb2) 1 _ rfl; have zd2 := blk_cell (blk_call (blk_alloc D1.out _) hb2) 2 _ rfl; have ld := blk_lt (blk_call (blk_alloc D1.out _) hb2); clear hb2))
    go_ret
    exact ⟨ret_bool (by rw [← ht.out]; simp [e2]), belA B1.out _⟩
  subst e2
  by_cases e3 : x3 = dx
  rotate_left
  · go_wp2_with (first | (go_at_call 38; refine (points_is X Y n0 n1 n2 W l0 l1 l2 h0 h1 h2 q0 q1 q2 x1 x2 x3 y1 y2 y3 u1 u2 u3 v1 v2 v3 a1 a2 a3 b1 b2 b3 _ TT.out k0 k1 k2 V P).mono ?_; rintro e W1 ⟨rfl, hb1⟩; have T1 := Lib.hid (TT.out.below hb1); have D1 := Lib.hid (blk_call HD.out hb1); have B1 := Lib.hid (belT B.out hb1); have zu0 := blk_cell (blk_call HT.out hb1) 0 _ rfl; have zu1 := blk_cell (blk_call HT.out hb1) 1 _ rfl; have lu := blk_lt (blk_call HT.out hb1); have za0 := blk_cell (blk_call HA.out hb1) 0 _ rfl; have za1 := blk_cell (blk_call HA.out hb1) 1 _ rfl; have za2 := blk_cell (blk_call HA.out hb1) 2 _ rfl; have za3 := blk_cell (blk_call HA.out hb1) 3 _ rfl; have za4 := blk_cell (blk_call HA.out hb1) 4 _ rfl; have za5 := blk_cell (blk_call HA.out hb1) 5 _ rfl; have za6 := blk_cell (blk_call HA.out hb1) 6 _ rfl; have za7 := blk_cell (blk_call HA.out hb1) 7 _ rfl; have za8 := blk_cell (blk_call HA.out hb1) 8 _ rfl; have za9 := blk_cell (blk_call HA.out hb1) 9 _ rfl; have za10 := blk_cell (blk_call HA.out hb1) 10 _ rfl; have za11 := blk_cell (blk_call HA.out hb1) 11 _ rfl; have la := blk_lt (blk_call HA.out hb1); have zq0 := blk_cell (blk_call HQ.out hb1) 0 _ rfl; have zq1 := blk_cell (blk_call HQ.out hb1) 1 _ rfl; have zq2 := blk_cell (blk_call HQ.out hb1) 2 _ rfl; have lq := blk_lt (blk_call HQ.out hb1); clear hb1 c0 c1 c2 c3 c4 c5 c6 c7 c8 c9 c10 c11 j0 j1 j2) | (go_at_call 39; refine (dirsP_is X Y n0 n1 n2 W l0 l1 l2 h0 h1 h2 q0 q1 q2 x1 x2 x3 y1 y2 y3 u1 u2 u3 v1 v2 v3 a1 a2 a3 b1 b2 b3 _ (T1.out.alloc _) k0 k1 k2 P).mono ?_; rintro e W2 ⟨rfl, hb2⟩; have B2 := Lib.hid (belT (belA B1.out _) hb2); have zd0 := blk_cell (blk_call (blk_alloc D1.out _) hb2) 0 _ rfl; have zd1 := blk_cell (blk_call (blk_alloc D1.out _) hb2) 1 _ rfl; have zd2 := blk_cell (blk_call (blk_alloc D1.out _) hb2) 2 _ rfl; have ld := blk_lt (blk_call (blk_alloc D1.out _) hb2); clear hb2))
    go_ret
    exact ⟨ret_bool (by rw [← ht.out]; simp [e3]), belA B2.out _⟩
  subst e3
  by_cases e4 : y3 = dy
  rotate_left
  · go_wp2_with (first | (go_at_call 38; refine (points_is X Y n0 n1 n2 W l0 l1 l2 h0 h1 h2 q0 q1 q2 x1 x2 x3 y1 y2 y3 u1 u2 u3 v1 v2 v3 a1 a2 a3 b1 b2 b3 _ TT.out k0 k1 k2 V P).mono ?_; rintro e W1 ⟨rfl, hb1⟩; have T1 := Lib.hid (TT.out.below hb1); have D1 := Lib.hid (blk_call HD.out hb1); have B1 := Lib.hid (belT B.out hb1); have zu0 := blk_cell (blk_call HT.out hb1) 0 _ rfl; have zu1 := blk_cell (blk_call HT.out hb1) 1 _ rfl; have lu := blk_lt (blk_call HT.out hb1); have za0 := blk_cell (blk_call HA.out hb1) 0 _ rfl; have za1 := blk_cell (blk_call HA.out hb1) 1 _ rfl; have za2 := blk_cell (blk_call HA.out hb1) 2 _ rfl; have za3 := blk_cell (blk_call HA.out hb1) 3 _ rfl; have za4 := blk_cell (blk_call HA.out hb1) 4 _ rfl; have za5 := blk_cell (blk_call HA.out hb1) 5 _ rfl; have za6 := blk_cell (blk_call HA.out hb1) 6 _ rfl; have za7 := blk_cell (blk_call HA.out hb1) 7 _ rfl; have za8 := blk_cell (blk_call HA.out hb1) 8 _ rfl; have za9 := blk_cell (blk_call HA.out hb1) 9 _ rfl; have za10 := blk_cell (blk_call HA.out hb1) 10 _ rfl; have za11 := blk_cell (blk_call HA.out hb1) 11 _ rfl; have la := blk_lt (blk_call HA.out hb1); have zq0 := blk_cell (blk_call HQ.out hb1) 0 _ rfl; have zq1 := blk_cell (blk_call HQ.out hb1) 1 _ rfl; have zq2 := blk_cell (blk_call HQ.out hb1) 2 _ rfl; have lq := blk_lt (blk_call HQ.out hb1); clear hb1 c0 c1 c2 c3 c4 c5 c6 c7 c8 c9 c10 c11 j0 j1 j2) | (go_at_call 39; refine (dirsP_is X Y n0 n1 n2 W l0 l1 l2 h0 h1 h2 q0 q1 q2 x1 x2 x3 y1 y2 y3 u1 u2 u3 v1 v2 v3 a1 a2 a3 b1 b2 b3 _ (T1.out.alloc _) k0 k1 k2 P).mono ?_; rintro e W2 ⟨rfl, hb2⟩; have B2 := Lib.hid (belT (belA B1.out _) hb2); have zd0 := blk_cell (blk_call (blk_alloc D1.out _) hb2) 0 _ rfl; have zd1 := blk_cell (blk_call (blk_alloc D1.out _) hb2) 1 _ rfl; have zd2 := blk_cell (blk_call (blk_alloc D1.out _) hb2) 2 _ rfl; have ld := blk_lt (blk_call (blk_alloc D1.out _) hb2); clear hb2))
    go_ret
    exact ⟨ret_bool (by rw [← ht.out]; simp [e4]), belA B2.out _⟩
  subst e4
  go_wp2_with (first | (go_at_call 38; refine (points_is X Y n0 n1 n2 W l0 l1 l2 h0 h1 h2 q0 q1 q2 x1 x2 x3 y1 y2 y3 u1 u2 u3 v1 v2 v3 a1 a2 a3 b1 b2 b3 _ TT.out k0 k1 k2 V P).mono ?_; rintro e W1 ⟨rfl, hb1⟩; have T1 := Lib.hid (TT.out.below hb1); have D1 := Lib.hid (blk_call HD.out hb1); have B1 := Lib.hid (belT B.out hb1); have zu0 := blk_cell (blk_call HT.out hb1) 0 _ rfl; have zu1 := blk_cell (blk_call HT.out hb1) 1 _ rfl; have lu := blk_lt (blk_call HT.out hb1); have za0 := blk_cell (blk_call HA.out hb1) 0 _ rfl; have za1 := blk_cell (blk_call HA.out hb1) 1 _ rfl; have za2 := blk_cell (blk_call HA.out hb1) 2 _ rfl; have za3 := blk_cell (blk_call HA.out hb1) 3 _ rfl; have za4 := blk_cell (blk_call HA.out hb1) 4 _ rfl; have za5 := blk_cell (blk_call HA.out hb1) 5 _ rfl; have za6 := blk_cell (blk_call HA.out hb1) 6 _ rfl; have za7 := blk_cell (blk_call HA.out hb1) 7 _ rfl; have za8 := blk_cell (blk_call HA.out hb1) 8 _ rfl; have za9 := blk_cell (blk_call HA.out hb1) 9 _ rfl; have za10 := blk_cell (blk_call HA.out hb1) 10 _ rfl; have za11 := blk_cell (blk_call HA.out hb1) 11 _ rfl; have la := blk_lt (blk_call HA.out hb1); have zq0 := blk_cell (blk_call HQ.out hb1) 0 _ rfl; have zq1 := blk_cell (blk_call HQ.out hb1) 1 _ rfl; have zq2 := blk_cell (blk_call HQ.out hb1) 2 _ rfl; have lq := blk_lt (blk_call HQ.out hb1); clear hb1 c0 c1 c2 c3 c4 c5 c6 c7 c8 c9 c10 c11 j0 j1 j2) | (go_at_call 39; refine (dirsP_is X Y n0 n1 n2 W l0 l1 l2 h0 h1 h2 q0 q1 q2 x1 x2 x3 y1 y2 y3 u1 u2 u3 v1 v2 v3 a1 a2 a3 b1 b2 b3 _ (T1.out.alloc _) k0 k1 k2 P).mono ?_; rintro e W2 ⟨rfl, hb2⟩; have B2 := Lib.hid (belT (belA B1.out _) hb2); have zd0 := blk_cell (blk_call (blk_alloc D1.out _) hb2) 0 _ rfl; have zd1 := blk_cell (blk_call (blk_alloc D1.out _) hb2) 1 _ rfl; have zd2 := blk_cell (blk_call (blk_alloc D1.out _) hb2) 2 _ rfl; have ld := blk_lt (blk_call (blk_alloc D1.out _) hb2); clear hb2))
  go_ret
  exact ⟨ret_bool (by rw [← ht.out]; simp), belA B2.out _⟩

theorem ups_snoc {l a : Int} (h : l ≤ a) : ups l a = ups l (a - 1) ++ [a] := by
  unfold ups
  rw [show (a - l + 1).toNat = (a - 1 - l + 1).toNat + 1 by omega, List.range_succ, List.map_append]
  simp only [List.map_cons, List.map_nil]
  rw [show l + (((a - 1 - l + 1).toNat : Nat) : Int) = a by omega]
theorem ups_none (l : Int) : ups l (l - 1) = [] := by
  unfold ups
  rw [show (l - 1 - l + 1).toNat = 0 by omega]
  rfl
/-- Whether a configuration reaches the target, by the tip. -/
def reB (X Y n0 n1 n2 px py dx dy a b c : Int) : Bool := decide (((pw X Y n0 n1 a b).1 + n2 * (16 * (pd a b c).1) = px ∧ (pw X Y n0 n1 a b).2 + n2 * (16 * (pd a b c).2) = py) ∧ (pd a b c).1 = dx ∧ (pd a b c).2 = dy)
theorem sol2_eq (X Y n0 n1 n2 l2 h2 px py dx dy a b : Int) : sol2 X Y n0 n1 n2 l2 h2 px py dx dy a b = ((ups l2 h2).filter (reB X Y n0 n1 n2 px py dx dy a b)).map fun c => (a, b, c) := by
  unfold sol2
  split
  · rename_i h
    refine congrArg _ (List.filter_congr (fun c _ => ?_))
    unfold reB
    rw [h]
    obtain ⟨x, y⟩ := pd a b c
    simp only [Prod.mk.injEq]
    by_cases e1 : x = dx
    · by_cases e2 : y = dy
      · subst e1; subst e2; simp
      · simp [e2]
    · simp [e1]
  · rename_i h
    rw [List.filter_eq_nil_iff.2 (fun c _ hc => ?_)]
    · rfl
    · refine h ?_
      have := of_decide_eq_true hc
      obtain ⟨⟨h1, h2⟩, h3, h4⟩ := this
      rw [h3] at h1
      rw [h4] at h2
      exact Prod.ext (by simp only; omega) (by simp only; omega)
theorem pose_re {X Y n0 n1 n2 q0 q1 q2 x1 x2 x3 y1 y2 y3 u1 u2 u3 v1 v2 v3 a1 a2 a3 b1 b2 b3 : Int} (px py dx dy : Int) (P : Pose X Y n0 n1 n2 q0 q1 q2 x1 x2 x3 y1 y2 y3 u1 u2 u3 v1 v2 v3 a1 a2 a3 b1 b2 b3) : reB X Y n0 n1 n2 px py dx dy q0 q1 q2 = decide ((a3 = px ∧ b3 = py) ∧ x3 = dx ∧ y3 = dy) := by
  unfold reB
  rw [pose_pw P, pose_pd P, ← P.g3.1, ← P.g3.2, ← P.f3.1, ← P.f3.2]
theorem rowK {W W' : World} {base : Nat} {e : TypeId} {n k : Nat} {v : Value} {xs : List Value} (h : W.ownsRow base e n v k xs) (hb : Below W.heap.size W W') : W'.ownsRow base e n v k xs := h.kept (grownB hb) (by cases v.ownBlock <;> simp)
theorem row_base {w : World} {base : Nat} {e : TypeId} {n k : Nat} {v : Value} {xs : List Value} (h : w.ownsRow base e n v k xs) : ∀ g, v.ownBlock = some g → base ≤ g := fun g e' => by
  rcases h.2 with ⟨rfl, _⟩ | ⟨g', cap, cur, rfl, hb, _⟩
  · simp [Value.ownBlock] at e'
  · obtain rfl : g' = g := by simpa [Value.ownBlock] using e'
    exact hb
set_option maxHeartbeats 8000000 in
theorem all8_is (X Y n0 n1 n2 W l0 l1 l2 h0 h1 h2 px py dx dy : Int) (w : World) (hT : Tab w) (V : Hid (armB X Y n0 n1 n2 W l0 l1 l2 h0 h1 h2 = true)) :
    Calls Tryd.prog 15 #[.agg #[.int .i64 X, .int .i64 Y, .int .i64 n0, .int .i64 n1, .int .i64 n2, .int .i64 W, .int .i64 l0, .int .i64 l1, .int .i64 l2, .int .i64 h0, .int .i64 h1, .int .i64 h2], .agg #[.int .i64 px, .int .i64 py], .agg #[.int .i64 dx, .int .i64 dy, .int .i64 3]] w fun e w' => (∃ ao cap, e = .returned (.slice ao (solL X Y n0 n1 n2 l0 l1 l2 h0 h1 h2 px py dx dy).length cap) ∧ PRow3 w' ao (solL X Y n0 n1 n2 l0 l1 l2 h0 h1 h2 px py dx dy)) ∧ Below w.heap.size w w' := by
  have vv : (-17 ≤ l0 ∧ l0 ≤ h0 ∧ h0 ≤ 18) ∧ (-17 ≤ l1 ∧ l1 ≤ h1 ∧ h1 ≤ 18) ∧ -17 ≤ l2 ∧ l2 ≤ h2 ∧ h2 ≤ 18 := by have := (armB_iff X Y n0 n1 n2 W l0 l1 l2 h0 h1 h2).1 V.out; omega
  obtain ⟨vb0, vb1, vb2⟩ := vv
  have TT := Lib.hid hT
  clear hT
  go_enter Tryd.func15, Tryd.ntmps15
  go_upto_region 2 with fail
  obtain ⟨W0, hW0⟩ : ∃ z, (((w.alloc (.cells #[.int .i64 X, .int .i64 Y, .int .i64 n0, .int .i64 n1, .int .i64 n2, .int .i64 W, .int .i64 l0, .int .i64 l1, .int .i64 l2, .int .i64 h0, .int .i64 h1, .int .i64 h2] 27)).alloc (.cells #[.int .i64 px, .int .i64 py] 23)).alloc (.cells #[.int .i64 dx, .int .i64 dy, .int .i64 3] 29)) = z := ⟨_, rfl⟩
  have HD : W0.heap[w.heap.size + 1 + 1]? = some (.cells #[.int .i64 dx, .int .i64 dy, .int .i64 3] 29 (0, 0)) := by rw [← hW0]; exact blk_new _ _ _ (by simp)
  have HT : W0.heap[w.heap.size + 1]? = some (.cells #[.int .i64 px, .int .i64 py] 23 (0, 0)) := by rw [← hW0]; exact blk_alloc (blk_new _ _ _ (by simp)) _
  have HA : W0.heap[w.heap.size]? = some (.cells #[.int .i64 X, .int .i64 Y, .int .i64 n0, .int .i64 n1, .int .i64 n2, .int .i64 W, .int .i64 l0, .int .i64 l1, .int .i64 l2, .int .i64 h0, .int .i64 h1, .int .i64 h2] 27 (0, 0)) := by rw [← hW0]; exact blk_alloc (blk_alloc (blk_new _ _ _ rfl) _) _
  have B : Below w.heap.size w W0 := by rw [← hW0]; go_grown
  rw [hW0]
  clear hW0
  obtain ⟨ba, ea⟩ : ∃ a, w.heap.size = a := ⟨_, rfl⟩
  obtain ⟨bt, et⟩ : ∃ a, w.heap.size + 1 = a := ⟨_, rfl⟩
  obtain ⟨bd, ed⟩ : ∃ a, w.heap.size + 1 + 1 = a := ⟨_, rfl⟩
  rw [ed, et, ea]
  rw [ed] at HD
  rw [et] at HT
  rw [ea] at HA
  clear ed et ea
  have H0 : Held [(ba, #[.int .i64 X, .int .i64 Y, .int .i64 n0, .int .i64 n1, .int .i64 n2, .int .i64 W, .int .i64 l0, .int .i64 l1, .int .i64 l2, .int .i64 h0, .int .i64 h1, .int .i64 h2], 27), (bt, #[.int .i64 px, .int .i64 py], 23), (bd, #[.int .i64 dx, .int .i64 dy, .int .i64 3], 29)] W0 := by
    intro x hx
    simp only [List.mem_cons, List.not_mem_nil, or_false] at hx
    rcases hx with rfl | rfl | rfl
    · exact HA
    · exact HT
    · exact HD
  have HH := Lib.hid H0
  have HB := Lib.hid B
  have c6 := blk_cell HA 6 _ rfl
  clear H0 B HA HT HD
  go_wp2_with fail
  clear c6
  go_loopw [8, 7] (fun s8 s7 wr => ∃ a : Int, (l0 ≤ a ∧ a ≤ h0 + 1) ∧ s8 = .int .i64 a ∧ (∃ v, s7 = v ∧ wr.ownsRow w.heap.size 25 3 v ((ups l0 (a - 1)).flatMap (sol1 X Y n0 n1 n2 l1 l2 h1 h2 px py dx dy)).length (flat3 ((ups l0 (a - 1)).flatMap (sol1 X Y n0 n1 n2 l1 l2 h1 h2 px py dx dy)))) ∧ Held [(ba, #[.int .i64 X, .int .i64 Y, .int .i64 n0, .int .i64 n1, .int .i64 n2, .int .i64 W, .int .i64 l0, .int .i64 l1, .int .i64 l2, .int .i64 h0, .int .i64 h1, .int .i64 h2], 27), (bt, #[.int .i64 px, .int .i64 py], 23), (bd, #[.int .i64 dx, .int .i64 dy, .int .i64 3], 29)] wr ∧ Below w.heap.size w wr) (fun s8 _ _ => (h0 + 1 - intOf s8).toNat)
  case atStart => exact ⟨l0, ⟨Int.le_refl _, by omega⟩, rfl, ⟨_, rfl, by rw [ups_none]; exact World.ownsRow_nil _ _ _ _⟩, HH.out, HB.out⟩
  case round =>
    clear HH HB
    obtain ⟨a, ha, rfl, ⟨v, rfl, hrow⟩, hH, hB⟩ := hrel
    have HR := Lib.hid hrow
    have HH := Lib.hid hH
    have HB := Lib.hid hB
    have c7 := blk_cell (hH.get 0 _ rfl) 7 _ rfl
    have c9 := blk_cell (hH.get 0 _ rfl) 9 _ rfl
    clear hrow hH hB
    by_cases hlt : a ≤ h0
    rotate_left
    · have E : Hid (a - 1 = h0) := Lib.hid (by omega)
      have hr : wr.ownsRow w.heap.size 25 3 u7 (solL X Y n0 n1 n2 l0 l1 l2 h0 h1 h2 px py dx dy).length (flat3 (solL X Y n0 n1 n2 l0 l1 l2 h0 h1 h2 px py dx dy)) := by
        have hr := HR.out
        rw [E.out] at hr
        exact hr
      obtain ⟨ao, cap, rfl, -, hp⟩ := prow3_own hr
      clear HR hr
      go_wp2_with fail
      go_ret
      exact ⟨⟨ao, ⟨cap, rfl⟩, hp⟩, HB.out⟩
    go_wp2_with fail
    clear c7 c9
    go_loopw [9, 7] (fun s9 s7 wr => ∃ b : Int, (l1 ≤ b ∧ b ≤ h1 + 1) ∧ s9 = .int .i64 b ∧ (∃ v, s7 = v ∧ wr.ownsRow w.heap.size 25 3 v (((ups l0 (a - 1)).flatMap (sol1 X Y n0 n1 n2 l1 l2 h1 h2 px py dx dy)) ++ (ups l1 (b - 1)).flatMap (sol2 X Y n0 n1 n2 l2 h2 px py dx dy a)).length (flat3 (((ups l0 (a - 1)).flatMap (sol1 X Y n0 n1 n2 l1 l2 h1 h2 px py dx dy)) ++ (ups l1 (b - 1)).flatMap (sol2 X Y n0 n1 n2 l2 h2 px py dx dy a)))) ∧ Held [(ba, #[.int .i64 X, .int .i64 Y, .int .i64 n0, .int .i64 n1, .int .i64 n2, .int .i64 W, .int .i64 l0, .int .i64 l1, .int .i64 l2, .int .i64 h0, .int .i64 h1, .int .i64 h2], 27), (bt, #[.int .i64 px, .int .i64 py], 23), (bd, #[.int .i64 dx, .int .i64 dy, .int .i64 3], 29)] wr ∧ Below w.heap.size w wr) (fun s9 _ _ => (h1 + 1 - intOf s9).toNat)
    case atStart => exact ⟨l1, ⟨Int.le_refl _, by omega⟩, rfl, ⟨_, rfl, by rw [ups_none]; simpa using HR.out⟩, HH.out, HB.out⟩
    case round =>
      clear HR HH HB
      obtain ⟨b, hb, rfl, ⟨v, rfl, hrow⟩, hH, hB⟩ := hrel
      have HR := Lib.hid hrow
      have HH := Lib.hid hH
      have HB := Lib.hid hB
      have c8 := blk_cell (hH.get 0 _ rfl) 8 _ rfl
      have c10 := blk_cell (hH.get 0 _ rfl) 10 _ rfl
      clear hrow hH hB
      by_cases hlt2 : b ≤ h1
      rotate_left
      · have E : Hid (b - 1 = h1) := Lib.hid (by omega)
        have HRR := Lib.hid (show wr.ownsRow w.heap.size 25 3 u7 ((ups l0 (a + 1 - 1)).flatMap (sol1 X Y n0 n1 n2 l1 l2 h1 h2 px py dx dy)).length (flat3 ((ups l0 (a + 1 - 1)).flatMap (sol1 X Y n0 n1 n2 l1 l2 h1 h2 px py dx dy))) by
          rw [show a + 1 - 1 = a by omega, ups_snoc ha.1, List.flatMap_append, show [a].flatMap (sol1 X Y n0 n1 n2 l1 l2 h1 h2 px py dx dy) = sol1 X Y n0 n1 n2 l1 l2 h1 h2 px py dx dy a by simp]
          have hr := HR.out
          rw [E.out] at hr
          exact hr)
        go_wp2_with fail
        exact ⟨⟨a + 1, by omega, rfl, ⟨_, rfl, HRR.out⟩, HH.out, HB.out⟩, by simp [intOf]; omega⟩
      go_wp2_with fail
      clear c8 c10
      go_loopw [10, 7] (fun s10 s7 wr => ∃ c : Int, (l2 ≤ c ∧ c ≤ h2 + 1) ∧ s10 = .int .i64 c ∧ (∃ v, s7 = v ∧ wr.ownsRow w.heap.size 25 3 v (((ups l0 (a - 1)).flatMap (sol1 X Y n0 n1 n2 l1 l2 h1 h2 px py dx dy)) ++ ((ups l1 (b - 1)).flatMap (sol2 X Y n0 n1 n2 l2 h2 px py dx dy a) ++ ((ups l2 (c - 1)).filter (reB X Y n0 n1 n2 px py dx dy a b)).map fun c => (a, b, c))).length (flat3 (((ups l0 (a - 1)).flatMap (sol1 X Y n0 n1 n2 l1 l2 h1 h2 px py dx dy)) ++ ((ups l1 (b - 1)).flatMap (sol2 X Y n0 n1 n2 l2 h2 px py dx dy a) ++ ((ups l2 (c - 1)).filter (reB X Y n0 n1 n2 px py dx dy a b)).map fun c => (a, b, c))))) ∧ Held [(ba, #[.int .i64 X, .int .i64 Y, .int .i64 n0, .int .i64 n1, .int .i64 n2, .int .i64 W, .int .i64 l0, .int .i64 l1, .int .i64 l2, .int .i64 h0, .int .i64 h1, .int .i64 h2], 27), (bt, #[.int .i64 px, .int .i64 py], 23), (bd, #[.int .i64 dx, .int .i64 dy, .int .i64 3], 29)] wr ∧ Below w.heap.size w wr) (fun s10 _ _ => (h2 + 1 - intOf s10).toNat)
      case atStart => exact ⟨l2, ⟨Int.le_refl _, by omega⟩, rfl, ⟨_, rfl, by rw [ups_none l2]; simpa using HR.out⟩, HH.out, HB.out⟩
      case round =>
        clear HR HH HB
        obtain ⟨c, hc, rfl, ⟨v, rfl, hrow⟩, hH, hB⟩ := hrel
        have HR := Lib.hid hrow
        have HH := Lib.hid hH
        have HB := Lib.hid hB
        have c0 := blk_cell (hH.get 0 _ rfl) 0 _ rfl
        have c1 := blk_cell (hH.get 0 _ rfl) 1 _ rfl
        have c2 := blk_cell (hH.get 0 _ rfl) 2 _ rfl
        have c3 := blk_cell (hH.get 0 _ rfl) 3 _ rfl
        have c4 := blk_cell (hH.get 0 _ rfl) 4 _ rfl
        have c5 := blk_cell (hH.get 0 _ rfl) 5 _ rfl
        have c6 := blk_cell (hH.get 0 _ rfl) 6 _ rfl
        have c7 := blk_cell (hH.get 0 _ rfl) 7 _ rfl
        have c8 := blk_cell (hH.get 0 _ rfl) 8 _ rfl
        have c9 := blk_cell (hH.get 0 _ rfl) 9 _ rfl
        have c10 := blk_cell (hH.get 0 _ rfl) 10 _ rfl
        have c11 := blk_cell (hH.get 0 _ rfl) 11 _ rfl
        have la := blk_lt (hH.get 0 _ rfl)
        have lt' := blk_lt (hH.get 1 _ rfl)
        have ld := blk_lt (hH.get 2 _ rfl)
        have t0 := blk_cell (hH.get 1 _ rfl) 0 _ rfl
        have t1 := blk_cell (hH.get 1 _ rfl) 1 _ rfl
        have d0 := blk_cell (hH.get 2 _ rfl) 0 _ rfl
        have d1 := blk_cell (hH.get 2 _ rfl) 1 _ rfl
        have d2 := blk_cell (hH.get 2 _ rfl) 2 _ rfl
        clear hrow hH hB
        by_cases hlt3 : c ≤ h2
        rotate_left
        · have E : Hid (c - 1 = h2) := Lib.hid (by omega)
          have HRR := Lib.hid (show wr.ownsRow w.heap.size 25 3 u7 (((ups l0 (a - 1)).flatMap (sol1 X Y n0 n1 n2 l1 l2 h1 h2 px py dx dy)) ++ (ups l1 (b + 1 - 1)).flatMap (sol2 X Y n0 n1 n2 l2 h2 px py dx dy a)).length (flat3 (((ups l0 (a - 1)).flatMap (sol1 X Y n0 n1 n2 l1 l2 h1 h2 px py dx dy)) ++ (ups l1 (b + 1 - 1)).flatMap (sol2 X Y n0 n1 n2 l2 h2 px py dx dy a))) by
            rw [show b + 1 - 1 = b by omega, ups_snoc hb.1, List.flatMap_append, show [b].flatMap (sol2 X Y n0 n1 n2 l2 h2 px py dx dy a) = sol2 X Y n0 n1 n2 l2 h2 px py dx dy a b by simp, sol2_eq]
            have hr := HR.out
            rw [E.out] at hr
            exact hr)
          go_wp2_with fail
          exact ⟨⟨b + 1, by omega, rfl, ⟨_, rfl, HRR.out⟩, HH.out, HB.out⟩, by simp [intOf]; omega⟩
        obtain ⟨x1, x2, x3, y1, y2, y3, u1, u2, u3, v1, v2, v3, a1, a2, a3, b1, b2, b3, hP⟩ := pose_ex X Y n0 n1 n2 a b c
        have HP := Lib.hid hP
        have RE := Lib.hid (pose_re px py dx dy hP)
        clear hP
        obtain ⟨t, ht⟩ : ∃ t, reB X Y n0 n1 n2 px py dx dy a b c = t := ⟨_, rfl⟩
        have HT := Lib.hid ht
        have HT2 : Hid (decide ((a3 = px ∧ b3 = py) ∧ x3 = dx ∧ y3 = dy) = t) := Lib.hid (by rw [← RE.out]; exact ht)
        clear ht RE
        have C := fun w hT => reaches_is X Y n0 n1 n2 W l0 l1 l2 h0 h1 h2 a b c x1 x2 x3 y1 y2 y3 u1 u2 u3 v1 v2 v3 a1 a2 a3 b1 b2 b3 px py dx dy t w hT (by omega) (by omega) (by omega) V HP HT2
        have T3 := Lib.hid (Tab.below TT.out HB.out)
        have ups3 := Lib.hid (ups_snoc (l := l2) (a := c) hc.1)
        have hc3 : Hid (c + 1 - 1 = c) := Lib.hid (by omega)
        have hcb : l2 ≤ c + 1 ∧ c + 1 ≤ h2 + 1 := by omega
        have hbb : -17 ≤ c ∧ c ≤ 18 := by omega
        cases t
        · have HRR := Lib.hid (show wr.ownsRow w.heap.size 25 3 u7 (((ups l0 (a - 1)).flatMap (sol1 X Y n0 n1 n2 l1 l2 h1 h2 px py dx dy)) ++ ((ups l1 (b - 1)).flatMap (sol2 X Y n0 n1 n2 l2 h2 px py dx dy a) ++ ((ups l2 (c + 1 - 1)).filter (reB X Y n0 n1 n2 px py dx dy a b)).map fun c => (a, b, c))).length (flat3 (((ups l0 (a - 1)).flatMap (sol1 X Y n0 n1 n2 l1 l2 h1 h2 px py dx dy)) ++ ((ups l1 (b - 1)).flatMap (sol2 X Y n0 n1 n2 l2 h2 px py dx dy a) ++ ((ups l2 (c + 1 - 1)).filter (reB X Y n0 n1 n2 px py dx dy a b)).map fun c => (a, b, c)))) by
            rw [hc3.out, ups3.out, List.filter_append, show [c].filter (reB X Y n0 n1 n2 px py dx dy a b) = [] by simp [HT.out], List.append_nil]
            exact HR.out)
          go_wp2_with (go_at_call 37; refine (C _ (T3.out.alloc _)).mono ?_; rintro e W1 ⟨rfl, hb1⟩)
          exact ⟨⟨c + 1, hcb, rfl, ⟨_, rfl, rowK (HRR.out.alloc _) hb1⟩, (HH.out.alloc _).call hb1, belT (belA HB.out _) hb1⟩, by simp [intOf]; omega⟩
        · have HN : Hid ((((ups l0 (a - 1)).flatMap (sol1 X Y n0 n1 n2 l1 l2 h1 h2 px py dx dy)) ++ ((ups l1 (b - 1)).flatMap (sol2 X Y n0 n1 n2 l2 h2 px py dx dy a) ++ ((ups l2 (c - 1)).filter (reB X Y n0 n1 n2 px py dx dy a b)).map fun c => (a, b, c))).length + 1 ≤ 60000) := Lib.hid (by
            have e1 := flatMap_len (ups l0 (a - 1)) (sol1 X Y n0 n1 n2 l1 l2 h1 h2 px py dx dy) 1296 (fun a => sol1_len _ _ _ _ _ _ _ _ _ _ _ _ _ _ ⟨vb2.1, vb2.2.2⟩ ⟨vb1.1, vb1.2.2⟩)
            have e2 := flatMap_len (ups l1 (b - 1)) (sol2 X Y n0 n1 n2 l2 h2 px py dx dy a) 36 (fun b => sol2_len _ _ _ _ _ _ _ _ _ _ _ _ _ ⟨vb2.1, vb2.2.2⟩)
            have e3 := List.length_filter_le (reB X Y n0 n1 n2 px py dx dy a b) (ups l2 (c - 1))
            rw [ups_length] at e1 e2 e3
            have f1 : (a - 1 - l0 + 1).toNat ≤ 36 := by omega
            have f2 : (b - 1 - l1 + 1).toNat ≤ 36 := by omega
            have f3 : (c - 1 - l2 + 1).toNat ≤ 36 := by omega
            simp only [List.length_append, List.length_map]
            omega)
          have EQ : Hid (((ups l0 (a - 1)).flatMap (sol1 X Y n0 n1 n2 l1 l2 h1 h2 px py dx dy)) ++ ((ups l1 (b - 1)).flatMap (sol2 X Y n0 n1 n2 l2 h2 px py dx dy a) ++ ((ups l2 (c + 1 - 1)).filter (reB X Y n0 n1 n2 px py dx dy a b)).map fun c => (a, b, c)) = (((ups l0 (a - 1)).flatMap (sol1 X Y n0 n1 n2 l1 l2 h1 h2 px py dx dy)) ++ ((ups l1 (b - 1)).flatMap (sol2 X Y n0 n1 n2 l2 h2 px py dx dy a) ++ ((ups l2 (c - 1)).filter (reB X Y n0 n1 n2 px py dx dy a b)).map fun c => (a, b, c))) ++ [(a, b, c)]) := Lib.hid (by
            rw [hc3.out, ups3.out, List.filter_append, List.map_append, show [c].filter (reB X Y n0 n1 n2 px py dx dy a b) = [c] by simp [HT.out]]
            simp only [List.map_cons, List.map_nil, List.append_assoc])
          obtain ⟨LL, hLL⟩ : ∃ LL, ((ups l0 (a - 1)).flatMap (sol1 X Y n0 n1 n2 l1 l2 h1 h2 px py dx dy)) ++ ((ups l1 (b - 1)).flatMap (sol2 X Y n0 n1 n2 l2 h2 px py dx dy a) ++ ((ups l2 (c - 1)).filter (reB X Y n0 n1 n2 px py dx dy a b)).map fun c => (a, b, c)) = LL := ⟨_, rfl⟩
          rw [hLL] at HR HN EQ
          clear hLL
          have hl := HN.out
          have mlen : maxLen = 9223372036854775807 := rfl
          have NT : ∀ x ∈ ([(ba, #[.int .i64 X, .int .i64 Y, .int .i64 n0, .int .i64 n1, .int .i64 n2, .int .i64 W, .int .i64 l0, .int .i64 l1, .int .i64 l2, .int .i64 h0, .int .i64 h1, .int .i64 h2], 27), (bt, #[.int .i64 px, .int .i64 py], 23), (bd, #[.int .i64 dx, .int .i64 dy, .int .i64 3], 29)] : HL), x.2.2 ≠ 25 := by simp
          obtain ⟨i0, hi, hz0, hz1', hz2'⟩ := info_parts infoJ
          go_wp2_with (first | (go_at_call 37; refine (C _ (T3.out.alloc _)).mono ?_; rintro e W1 ⟨rfl, hb1⟩; have Q1 := Lib.hid (blk_call (blk_new wr (.cells #[.int .i64 a, .int .i64 b, .int .i64 c] 25) _ rfl) hb1); have H1 := Lib.hid ((HH.out.alloc (.cells #[.int .i64 a, .int .i64 b, .int .i64 c] 25)).call hb1); have B1 := Lib.hid (belT (belA HB.out (.cells #[.int .i64 a, .int .i64 b, .int .i64 c] 25)) hb1); have R1 := Lib.hid (rowK (HR.out.alloc (.cells #[.int .i64 a, .int .i64 b, .int .i64 c] 25)) hb1); clear hb1; have m0 := blk_cell Q1.out 0 _ rfl; have m1 := blk_cell Q1.out 1 _ rfl; have m2 := blk_cell Q1.out 2 _ rfl; have lm := blk_lt Q1.out) | (at_builtin; refine wpList_append_own _ rfl _ _ 31 rfl w.heap.size 25 i0 (.agg #[.int .i64 0, .int .i64 0, .int .i64 0]) 3 24 Tryd.underlying31 hi hz0 hz1' hz2' rfl (by decide) _ _ _ rfl (R1.out.alloc _) ⟨W1.heap.size, 0, none⟩ 1 1 [.int .i64 a, .int .i64 b, .int .i64 c] rfl rfl (cell_three_new _ _ _ _ _) (by simp [Value.oneCell']) (by omega) (by omega) (Nat.le_trans B1.out.size (by simp)) ?_; intro v' wb hown' hgrow _; obtain ⟨g', cap', rfl⟩ := ownsRow_succ hown'; have hHb := ((H1.out.alloc _).kept hgrow (H1.out.row R1.out NT)); have hBb : Below w.heap.size w wb := (belA B1.out _).grown hgrow (Nat.le_trans B1.out.size (by simp)) (row_base R1.out)))
          exact ⟨⟨c + 1, hcb, rfl, ⟨_, rfl, by rw [EQ.out, List.length_append, flat3_append]; exact hown'⟩, hHb, hBb⟩, by simp [intOf]; omega⟩
end Go.Proofs.YtceejjamngplkaaDoor
