/- Contract of pick: four points reduced to points in range or to points near the origin. No condition. -/
import Derived.Test.YtbkbdejmnhpdeaaGeoB
import Derived.Test.YtbkbdejmnhpdeaaGeoBlk
import Derived.LoopN
namespace Go.Proofs.Ytbkbdejmnhpdeaa
open Go.ChangeShapes Go.WideShapes Go.ChangeAt Go.RowKit

set_option maxHeartbeats 4000000 in
theorem pick_near (x0 x1 x2 x3 x4 x5 x6 x7 : Int) (w : World) :
    Calls Try.prog 11 #[.agg #[.int .i64 x0, .int .i64 x1, .int .i64 x2, .int .i64 x3, .int .i64 x4, .int .i64 x5, .int .i64 x6, .int .i64 x7], .bool true] w fun e w' => e = .returned (.agg #[.int .i64 (x0.tmod 9), .int .i64 (x1.tmod 9), .int .i64 (x2.tmod 9), .int .i64 (x3.tmod 9), .int .i64 (x4.tmod 9), .int .i64 (x5.tmod 9), .int .i64 (x6.tmod 9), .int .i64 (x7.tmod 9)]) ∧ Below w.heap.size w w' := by
  go_enter Try.func11, Try.ntmps11
  go_wp2
  have bx : (((w.alloc (.cells #[.int .i64 x0, .int .i64 x1, .int .i64 x2, .int .i64 x3, .int .i64 x4, .int .i64 x5, .int .i64 x6, .int .i64 x7] 24)).alloc (.cells #[.int .i64 0, .int .i64 0, .int .i64 0, .int .i64 0, .int .i64 0, .int .i64 0, .int .i64 0, .int .i64 0] 24)).alloc (.cells #[.int .i64 x0, .int .i64 x1, .int .i64 x2, .int .i64 x3, .int .i64 x4, .int .i64 x5, .int .i64 x6, .int .i64 x7] 24)).heap[w.heap.size]? = some (.cells #[.int .i64 x0, .int .i64 x1, .int .i64 x2, .int .i64 x3, .int .i64 x4, .int .i64 x5, .int .i64 x6, .int .i64 x7] 24 (0, 0)) := blk_alloc (blk_alloc (blk_new _ _ _ rfl) _) _
  have br : (((w.alloc (.cells #[.int .i64 x0, .int .i64 x1, .int .i64 x2, .int .i64 x3, .int .i64 x4, .int .i64 x5, .int .i64 x6, .int .i64 x7] 24)).alloc (.cells #[.int .i64 0, .int .i64 0, .int .i64 0, .int .i64 0, .int .i64 0, .int .i64 0, .int .i64 0, .int .i64 0] 24)).alloc (.cells #[.int .i64 x0, .int .i64 x1, .int .i64 x2, .int .i64 x3, .int .i64 x4, .int .i64 x5, .int .i64 x6, .int .i64 x7] 24)).heap[w.heap.size + 1]? = some (.cells #[.int .i64 0, .int .i64 0, .int .i64 0, .int .i64 0, .int .i64 0, .int .i64 0, .int .i64 0, .int .i64 0] 24 (0, 0)) := blk_alloc (blk_new _ _ _ (by simp)) _
  have bo : (((w.alloc (.cells #[.int .i64 x0, .int .i64 x1, .int .i64 x2, .int .i64 x3, .int .i64 x4, .int .i64 x5, .int .i64 x6, .int .i64 x7] 24)).alloc (.cells #[.int .i64 0, .int .i64 0, .int .i64 0, .int .i64 0, .int .i64 0, .int .i64 0, .int .i64 0, .int .i64 0] 24)).alloc (.cells #[.int .i64 x0, .int .i64 x1, .int .i64 x2, .int .i64 x3, .int .i64 x4, .int .i64 x5, .int .i64 x6, .int .i64 x7] 24)).heap[w.heap.size + 1 + 1]? = some (.cells #[.int .i64 x0, .int .i64 x1, .int .i64 x2, .int .i64 x3, .int .i64 x4, .int .i64 x5, .int .i64 x6, .int .i64 x7] 24 (0, 0)) := blk_new _ _ _ (by simp)
  have hB : Below w.heap.size w (((w.alloc (.cells #[.int .i64 x0, .int .i64 x1, .int .i64 x2, .int .i64 x3, .int .i64 x4, .int .i64 x5, .int .i64 x6, .int .i64 x7] 24)).alloc (.cells #[.int .i64 0, .int .i64 0, .int .i64 0, .int .i64 0, .int .i64 0, .int .i64 0, .int .i64 0, .int .i64 0] 24)).alloc (.cells #[.int .i64 x0, .int .i64 x1, .int .i64 x2, .int .i64 x3, .int .i64 x4, .int .i64 x5, .int .i64 x6, .int .i64 x7] 24)) := belA (belA (belA (Below.refl _ _) _) _) _
  generalize (((w.alloc (.cells #[.int .i64 x0, .int .i64 x1, .int .i64 x2, .int .i64 x3, .int .i64 x4, .int .i64 x5, .int .i64 x6, .int .i64 x7] 24)).alloc (.cells #[.int .i64 0, .int .i64 0, .int .i64 0, .int .i64 0, .int .i64 0, .int .i64 0, .int .i64 0, .int .i64 0] 24)).alloc (.cells #[.int .i64 x0, .int .i64 x1, .int .i64 x2, .int .i64 x3, .int .i64 x4, .int .i64 x5, .int .i64 x6, .int .i64 x7] 24)) = v0 at *
  refine wp_loop_rounds 5 ?_
  rw [rounds_succ]
  have c0 := blk_cell bx 0 _ rfl
  have c1 := blk_cell bx 1 _ rfl
  go_wp2_with fail
  refine (near_any _ _ _).mono ?_; rintro e u0 ⟨rfl, hb⟩
  replace bx : u0.heap[w.heap.size]? = some (.cells #[.int .i64 x0, .int .i64 x1, .int .i64 x2, .int .i64 x3, .int .i64 x4, .int .i64 x5, .int .i64 x6, .int .i64 x7] 24 (0, 0)) := blk_call bx hb
  replace br : u0.heap[w.heap.size + 1]? = some (.cells #[.int .i64 0, .int .i64 0, .int .i64 0, .int .i64 0, .int .i64 0, .int .i64 0, .int .i64 0, .int .i64 0] 24 (0, 0)) := blk_call br hb
  replace bo : u0.heap[w.heap.size + 1 + 1]? = some (.cells #[.int .i64 x0, .int .i64 x1, .int .i64 x2, .int .i64 x3, .int .i64 x4, .int .i64 x5, .int .i64 x6, .int .i64 x7] 24 (0, 0)) := blk_call bo hb
  replace hB := belT hB hb
  clear hb c0 c1
  have o0 := blk_cell bo 0 _ rfl
  have o1 := blk_cell bo 1 _ rfl
  have f0 := blk_fz bo 0
  have f1 := blk_fz bo 1
  go_wp2_with fail
  replace bx : ((u0.setCell ⟨w.heap.size + 1 + 1, 0, none⟩ (.int .i64 (x0.tmod 9))).setCell ⟨w.heap.size + 1 + 1, 1, none⟩ (.int .i64 (x1.tmod 9))).heap[w.heap.size]? = some (.cells #[.int .i64 x0, .int .i64 x1, .int .i64 x2, .int .i64 x3, .int .i64 x4, .int .i64 x5, .int .i64 x6, .int .i64 x7] 24 (0, 0)) := blk_other (blk_other bx (by omega) _) (by omega) _
  replace br : ((u0.setCell ⟨w.heap.size + 1 + 1, 0, none⟩ (.int .i64 (x0.tmod 9))).setCell ⟨w.heap.size + 1 + 1, 1, none⟩ (.int .i64 (x1.tmod 9))).heap[w.heap.size + 1]? = some (.cells #[.int .i64 0, .int .i64 0, .int .i64 0, .int .i64 0, .int .i64 0, .int .i64 0, .int .i64 0, .int .i64 0] 24 (0, 0)) := blk_other (blk_other br (by omega) _) (by omega) _
  replace bo : ((u0.setCell ⟨w.heap.size + 1 + 1, 0, none⟩ (.int .i64 (x0.tmod 9))).setCell ⟨w.heap.size + 1 + 1, 1, none⟩ (.int .i64 (x1.tmod 9))).heap[w.heap.size + 1 + 1]? = some (.cells #[.int .i64 (x0.tmod 9), .int .i64 (x1.tmod 9), .int .i64 x2, .int .i64 x3, .int .i64 x4, .int .i64 x5, .int .i64 x6, .int .i64 x7] 24 (0, 0)) := blk_set (blk_set bo _) _
  replace hB : Below w.heap.size w ((u0.setCell ⟨w.heap.size + 1 + 1, 0, none⟩ (.int .i64 (x0.tmod 9))).setCell ⟨w.heap.size + 1 + 1, 1, none⟩ (.int .i64 (x1.tmod 9))) := belS (belS hB (by simp; omega) _) (by simp; omega) _
  clear o0 o1 f0 f1
  generalize ((u0.setCell ⟨w.heap.size + 1 + 1, 0, none⟩ (.int .i64 (x0.tmod 9))).setCell ⟨w.heap.size + 1 + 1, 1, none⟩ (.int .i64 (x1.tmod 9))) = v1 at *
  rw [rounds_succ]
  have c0 := blk_cell bx 2 _ rfl
  have c1 := blk_cell bx 3 _ rfl
  go_wp2_with fail
  refine (near_any _ _ _).mono ?_; rintro e u1 ⟨rfl, hb⟩
  replace bx : u1.heap[w.heap.size]? = some (.cells #[.int .i64 x0, .int .i64 x1, .int .i64 x2, .int .i64 x3, .int .i64 x4, .int .i64 x5, .int .i64 x6, .int .i64 x7] 24 (0, 0)) := blk_call bx hb
  replace br : u1.heap[w.heap.size + 1]? = some (.cells #[.int .i64 0, .int .i64 0, .int .i64 0, .int .i64 0, .int .i64 0, .int .i64 0, .int .i64 0, .int .i64 0] 24 (0, 0)) := blk_call br hb
  replace bo : u1.heap[w.heap.size + 1 + 1]? = some (.cells #[.int .i64 (x0.tmod 9), .int .i64 (x1.tmod 9), .int .i64 x2, .int .i64 x3, .int .i64 x4, .int .i64 x5, .int .i64 x6, .int .i64 x7] 24 (0, 0)) := blk_call bo hb
  replace hB := belT hB hb
  clear hb c0 c1
  have o0 := blk_cell bo 2 _ rfl
  have o1 := blk_cell bo 3 _ rfl
  have f0 := blk_fz bo 2
  have f1 := blk_fz bo 3
  go_wp2_with fail
  replace bx : ((u1.setCell ⟨w.heap.size + 1 + 1, 2, none⟩ (.int .i64 (x2.tmod 9))).setCell ⟨w.heap.size + 1 + 1, 3, none⟩ (.int .i64 (x3.tmod 9))).heap[w.heap.size]? = some (.cells #[.int .i64 x0, .int .i64 x1, .int .i64 x2, .int .i64 x3, .int .i64 x4, .int .i64 x5, .int .i64 x6, .int .i64 x7] 24 (0, 0)) := blk_other (blk_other bx (by omega) _) (by omega) _
  replace br : ((u1.setCell ⟨w.heap.size + 1 + 1, 2, none⟩ (.int .i64 (x2.tmod 9))).setCell ⟨w.heap.size + 1 + 1, 3, none⟩ (.int .i64 (x3.tmod 9))).heap[w.heap.size + 1]? = some (.cells #[.int .i64 0, .int .i64 0, .int .i64 0, .int .i64 0, .int .i64 0, .int .i64 0, .int .i64 0, .int .i64 0] 24 (0, 0)) := blk_other (blk_other br (by omega) _) (by omega) _
  replace bo : ((u1.setCell ⟨w.heap.size + 1 + 1, 2, none⟩ (.int .i64 (x2.tmod 9))).setCell ⟨w.heap.size + 1 + 1, 3, none⟩ (.int .i64 (x3.tmod 9))).heap[w.heap.size + 1 + 1]? = some (.cells #[.int .i64 (x0.tmod 9), .int .i64 (x1.tmod 9), .int .i64 (x2.tmod 9), .int .i64 (x3.tmod 9), .int .i64 x4, .int .i64 x5, .int .i64 x6, .int .i64 x7] 24 (0, 0)) := blk_set (blk_set bo _) _
  replace hB : Below w.heap.size w ((u1.setCell ⟨w.heap.size + 1 + 1, 2, none⟩ (.int .i64 (x2.tmod 9))).setCell ⟨w.heap.size + 1 + 1, 3, none⟩ (.int .i64 (x3.tmod 9))) := belS (belS hB (by simp; omega) _) (by simp; omega) _
  clear o0 o1 f0 f1
  generalize ((u1.setCell ⟨w.heap.size + 1 + 1, 2, none⟩ (.int .i64 (x2.tmod 9))).setCell ⟨w.heap.size + 1 + 1, 3, none⟩ (.int .i64 (x3.tmod 9))) = v2 at *
  rw [rounds_succ]
  have c0 := blk_cell bx 4 _ rfl
  have c1 := blk_cell bx 5 _ rfl
  go_wp2_with fail
  refine (near_any _ _ _).mono ?_; rintro e u2 ⟨rfl, hb⟩
  replace bx : u2.heap[w.heap.size]? = some (.cells #[.int .i64 x0, .int .i64 x1, .int .i64 x2, .int .i64 x3, .int .i64 x4, .int .i64 x5, .int .i64 x6, .int .i64 x7] 24 (0, 0)) := blk_call bx hb
  replace br : u2.heap[w.heap.size + 1]? = some (.cells #[.int .i64 0, .int .i64 0, .int .i64 0, .int .i64 0, .int .i64 0, .int .i64 0, .int .i64 0, .int .i64 0] 24 (0, 0)) := blk_call br hb
  replace bo : u2.heap[w.heap.size + 1 + 1]? = some (.cells #[.int .i64 (x0.tmod 9), .int .i64 (x1.tmod 9), .int .i64 (x2.tmod 9), .int .i64 (x3.tmod 9), .int .i64 x4, .int .i64 x5, .int .i64 x6, .int .i64 x7] 24 (0, 0)) := blk_call bo hb
  replace hB := belT hB hb
  clear hb c0 c1
  have o0 := blk_cell bo 4 _ rfl
  have o1 := blk_cell bo 5 _ rfl
  have f0 := blk_fz bo 4
  have f1 := blk_fz bo 5
  go_wp2_with fail
  replace bx : ((u2.setCell ⟨w.heap.size + 1 + 1, 4, none⟩ (.int .i64 (x4.tmod 9))).setCell ⟨w.heap.size + 1 + 1, 5, none⟩ (.int .i64 (x5.tmod 9))).heap[w.heap.size]? = some (.cells #[.int .i64 x0, .int .i64 x1, .int .i64 x2, .int .i64 x3, .int .i64 x4, .int .i64 x5, .int .i64 x6, .int .i64 x7] 24 (0, 0)) := blk_other (blk_other bx (by omega) _) (by omega) _
  replace br : ((u2.setCell ⟨w.heap.size + 1 + 1, 4, none⟩ (.int .i64 (x4.tmod 9))).setCell ⟨w.heap.size + 1 + 1, 5, none⟩ (.int .i64 (x5.tmod 9))).heap[w.heap.size + 1]? = some (.cells #[.int .i64 0, .int .i64 0, .int .i64 0, .int .i64 0, .int .i64 0, .int .i64 0, .int .i64 0, .int .i64 0] 24 (0, 0)) := blk_other (blk_other br (by omega) _) (by omega) _
  replace bo : ((u2.setCell ⟨w.heap.size + 1 + 1, 4, none⟩ (.int .i64 (x4.tmod 9))).setCell ⟨w.heap.size + 1 + 1, 5, none⟩ (.int .i64 (x5.tmod 9))).heap[w.heap.size + 1 + 1]? = some (.cells #[.int .i64 (x0.tmod 9), .int .i64 (x1.tmod 9), .int .i64 (x2.tmod 9), .int .i64 (x3.tmod 9), .int .i64 (x4.tmod 9), .int .i64 (x5.tmod 9), .int .i64 x6, .int .i64 x7] 24 (0, 0)) := blk_set (blk_set bo _) _
  replace hB : Below w.heap.size w ((u2.setCell ⟨w.heap.size + 1 + 1, 4, none⟩ (.int .i64 (x4.tmod 9))).setCell ⟨w.heap.size + 1 + 1, 5, none⟩ (.int .i64 (x5.tmod 9))) := belS (belS hB (by simp; omega) _) (by simp; omega) _
  clear o0 o1 f0 f1
  generalize ((u2.setCell ⟨w.heap.size + 1 + 1, 4, none⟩ (.int .i64 (x4.tmod 9))).setCell ⟨w.heap.size + 1 + 1, 5, none⟩ (.int .i64 (x5.tmod 9))) = v3 at *
  rw [rounds_succ]
  have c0 := blk_cell bx 6 _ rfl
  have c1 := blk_cell bx 7 _ rfl
  go_wp2_with fail
  refine (near_any _ _ _).mono ?_; rintro e u3 ⟨rfl, hb⟩
  replace bx : u3.heap[w.heap.size]? = some (.cells #[.int .i64 x0, .int .i64 x1, .int .i64 x2, .int .i64 x3, .int .i64 x4, .int .i64 x5, .int .i64 x6, .int .i64 x7] 24 (0, 0)) := blk_call bx hb
  replace br : u3.heap[w.heap.size + 1]? = some (.cells #[.int .i64 0, .int .i64 0, .int .i64 0, .int .i64 0, .int .i64 0, .int .i64 0, .int .i64 0, .int .i64 0] 24 (0, 0)) := blk_call br hb
  replace bo : u3.heap[w.heap.size + 1 + 1]? = some (.cells #[.int .i64 (x0.tmod 9), .int .i64 (x1.tmod 9), .int .i64 (x2.tmod 9), .int .i64 (x3.tmod 9), .int .i64 (x4.tmod 9), .int .i64 (x5.tmod 9), .int .i64 x6, .int .i64 x7] 24 (0, 0)) := blk_call bo hb
  replace hB := belT hB hb
  clear hb c0 c1
  have o0 := blk_cell bo 6 _ rfl
  have o1 := blk_cell bo 7 _ rfl
  have f0 := blk_fz bo 6
  have f1 := blk_fz bo 7
  go_wp2_with fail
  replace bx : ((u3.setCell ⟨w.heap.size + 1 + 1, 6, none⟩ (.int .i64 (x6.tmod 9))).setCell ⟨w.heap.size + 1 + 1, 7, none⟩ (.int .i64 (x7.tmod 9))).heap[w.heap.size]? = some (.cells #[.int .i64 x0, .int .i64 x1, .int .i64 x2, .int .i64 x3, .int .i64 x4, .int .i64 x5, .int .i64 x6, .int .i64 x7] 24 (0, 0)) := blk_other (blk_other bx (by omega) _) (by omega) _
  replace br : ((u3.setCell ⟨w.heap.size + 1 + 1, 6, none⟩ (.int .i64 (x6.tmod 9))).setCell ⟨w.heap.size + 1 + 1, 7, none⟩ (.int .i64 (x7.tmod 9))).heap[w.heap.size + 1]? = some (.cells #[.int .i64 0, .int .i64 0, .int .i64 0, .int .i64 0, .int .i64 0, .int .i64 0, .int .i64 0, .int .i64 0] 24 (0, 0)) := blk_other (blk_other br (by omega) _) (by omega) _
  replace bo : ((u3.setCell ⟨w.heap.size + 1 + 1, 6, none⟩ (.int .i64 (x6.tmod 9))).setCell ⟨w.heap.size + 1 + 1, 7, none⟩ (.int .i64 (x7.tmod 9))).heap[w.heap.size + 1 + 1]? = some (.cells #[.int .i64 (x0.tmod 9), .int .i64 (x1.tmod 9), .int .i64 (x2.tmod 9), .int .i64 (x3.tmod 9), .int .i64 (x4.tmod 9), .int .i64 (x5.tmod 9), .int .i64 (x6.tmod 9), .int .i64 (x7.tmod 9)] 24 (0, 0)) := blk_set (blk_set bo _) _
  replace hB : Below w.heap.size w ((u3.setCell ⟨w.heap.size + 1 + 1, 6, none⟩ (.int .i64 (x6.tmod 9))).setCell ⟨w.heap.size + 1 + 1, 7, none⟩ (.int .i64 (x7.tmod 9))) := belS (belS hB (by simp; omega) _) (by simp; omega) _
  clear o0 o1 f0 f1
  generalize ((u3.setCell ⟨w.heap.size + 1 + 1, 6, none⟩ (.int .i64 (x6.tmod 9))).setCell ⟨w.heap.size + 1 + 1, 7, none⟩ (.int .i64 (x7.tmod 9))) = v4 at *
  rw [rounds_succ]
  have o0 := blk_cell bo 0 _ rfl
  have r0 := blk_cell br 0 _ rfl
  have g0 := blk_fz br 0
  have o1 := blk_cell bo 1 _ rfl
  have r1 := blk_cell br 1 _ rfl
  have g1 := blk_fz br 1
  have o2 := blk_cell bo 2 _ rfl
  have r2 := blk_cell br 2 _ rfl
  have g2 := blk_fz br 2
  have o3 := blk_cell bo 3 _ rfl
  have r3 := blk_cell br 3 _ rfl
  have g3 := blk_fz br 3
  have o4 := blk_cell bo 4 _ rfl
  have r4 := blk_cell br 4 _ rfl
  have g4 := blk_fz br 4
  have o5 := blk_cell bo 5 _ rfl
  have r5 := blk_cell br 5 _ rfl
  have g5 := blk_fz br 5
  have o6 := blk_cell bo 6 _ rfl
  have r6 := blk_cell br 6 _ rfl
  have g6 := blk_fz br 6
  have o7 := blk_cell bo 7 _ rfl
  have r7 := blk_cell br 7 _ rfl
  have g7 := blk_fz br 7
  go_wp2_with fail
  have bf : ((((((((v4.setCell ⟨w.heap.size + 1, 0, none⟩ (.int .i64 (x0.tmod 9))).setCell ⟨w.heap.size + 1, 1, none⟩ (.int .i64 (x1.tmod 9))).setCell ⟨w.heap.size + 1, 2, none⟩ (.int .i64 (x2.tmod 9))).setCell ⟨w.heap.size + 1, 3, none⟩ (.int .i64 (x3.tmod 9))).setCell ⟨w.heap.size + 1, 4, none⟩ (.int .i64 (x4.tmod 9))).setCell ⟨w.heap.size + 1, 5, none⟩ (.int .i64 (x5.tmod 9))).setCell ⟨w.heap.size + 1, 6, none⟩ (.int .i64 (x6.tmod 9))).setCell ⟨w.heap.size + 1, 7, none⟩ (.int .i64 (x7.tmod 9))).heap[w.heap.size + 1]? = some (.cells #[.int .i64 (x0.tmod 9), .int .i64 (x1.tmod 9), .int .i64 (x2.tmod 9), .int .i64 (x3.tmod 9), .int .i64 (x4.tmod 9), .int .i64 (x5.tmod 9), .int .i64 (x6.tmod 9), .int .i64 (x7.tmod 9)] 24 (0, 0)) := (blk_set (blk_set (blk_set (blk_set (blk_set (blk_set (blk_set (blk_set br _) _) _) _) _) _) _) _)
  have hBf : Below w.heap.size w ((((((((v4.setCell ⟨w.heap.size + 1, 0, none⟩ (.int .i64 (x0.tmod 9))).setCell ⟨w.heap.size + 1, 1, none⟩ (.int .i64 (x1.tmod 9))).setCell ⟨w.heap.size + 1, 2, none⟩ (.int .i64 (x2.tmod 9))).setCell ⟨w.heap.size + 1, 3, none⟩ (.int .i64 (x3.tmod 9))).setCell ⟨w.heap.size + 1, 4, none⟩ (.int .i64 (x4.tmod 9))).setCell ⟨w.heap.size + 1, 5, none⟩ (.int .i64 (x5.tmod 9))).setCell ⟨w.heap.size + 1, 6, none⟩ (.int .i64 (x6.tmod 9))).setCell ⟨w.heap.size + 1, 7, none⟩ (.int .i64 (x7.tmod 9))) := (belS (belS (belS (belS (belS (belS (belS (belS hB (by simp) _) (by simp) _) (by simp) _) (by simp) _) (by simp) _) (by simp) _) (by simp) _) (by simp) _)
  clear bx br bo hB o0 r0 g0 o1 r1 g1 o2 r2 g2 o3 r3 g3 o4 r4 g4 o5 r5 g5 o6 r6 g6 o7 r7 g7
  generalize ((((((((v4.setCell ⟨w.heap.size + 1, 0, none⟩ (.int .i64 (x0.tmod 9))).setCell ⟨w.heap.size + 1, 1, none⟩ (.int .i64 (x1.tmod 9))).setCell ⟨w.heap.size + 1, 2, none⟩ (.int .i64 (x2.tmod 9))).setCell ⟨w.heap.size + 1, 3, none⟩ (.int .i64 (x3.tmod 9))).setCell ⟨w.heap.size + 1, 4, none⟩ (.int .i64 (x4.tmod 9))).setCell ⟨w.heap.size + 1, 5, none⟩ (.int .i64 (x5.tmod 9))).setCell ⟨w.heap.size + 1, 6, none⟩ (.int .i64 (x6.tmod 9))).setCell ⟨w.heap.size + 1, 7, none⟩ (.int .i64 (x7.tmod 9))) = vf at *
  have q0 := blk_cell bf 0 _ rfl
  have q1 := blk_cell bf 1 _ rfl
  have q2 := blk_cell bf 2 _ rfl
  have q3 := blk_cell bf 3 _ rfl
  have q4 := blk_cell bf 4 _ rfl
  have q5 := blk_cell bf 5 _ rfl
  have q6 := blk_cell bf 6 _ rfl
  have q7 := blk_cell bf 7 _ rfl
  refine bodyPost_ret (v := .agg #[.int .i64 (x0.tmod 9), .int .i64 (x1.tmod 9), .int .i64 (x2.tmod 9), .int .i64 (x3.tmod 9), .int .i64 (x4.tmod 9), .int .i64 (x5.tmod 9), .int .i64 (x6.tmod 9), .int .i64 (x7.tmod 9)]) (by simp [results, Try.results11, go_sem, q0, q1, q2, q3, q4, q5, q6, q7]) rfl ?_
  exact ⟨rfl, hBf⟩

set_option maxHeartbeats 4000000 in
theorem pick_fit (x0 x1 x2 x3 x4 x5 x6 x7 : Int) (w : World) :
    Calls Try.prog 11 #[.agg #[.int .i64 x0, .int .i64 x1, .int .i64 x2, .int .i64 x3, .int .i64 x4, .int .i64 x5, .int .i64 x6, .int .i64 x7], .bool false] w fun e w' => e = .returned (.agg #[.int .i64 (x0.tmod 439400001), .int .i64 (x1.tmod 439400001), .int .i64 (x2.tmod 439400001), .int .i64 (x3.tmod 439400001), .int .i64 (x4.tmod 439400001), .int .i64 (x5.tmod 439400001), .int .i64 (x6.tmod 439400001), .int .i64 (x7.tmod 439400001)]) ∧ Below w.heap.size w w' := by
  go_enter Try.func11, Try.ntmps11
  go_wp2
  have bx : (((w.alloc (.cells #[.int .i64 x0, .int .i64 x1, .int .i64 x2, .int .i64 x3, .int .i64 x4, .int .i64 x5, .int .i64 x6, .int .i64 x7] 24)).alloc (.cells #[.int .i64 0, .int .i64 0, .int .i64 0, .int .i64 0, .int .i64 0, .int .i64 0, .int .i64 0, .int .i64 0] 24)).alloc (.cells #[.int .i64 x0, .int .i64 x1, .int .i64 x2, .int .i64 x3, .int .i64 x4, .int .i64 x5, .int .i64 x6, .int .i64 x7] 24)).heap[w.heap.size]? = some (.cells #[.int .i64 x0, .int .i64 x1, .int .i64 x2, .int .i64 x3, .int .i64 x4, .int .i64 x5, .int .i64 x6, .int .i64 x7] 24 (0, 0)) := blk_alloc (blk_alloc (blk_new _ _ _ rfl) _) _
  have br : (((w.alloc (.cells #[.int .i64 x0, .int .i64 x1, .int .i64 x2, .int .i64 x3, .int .i64 x4, .int .i64 x5, .int .i64 x6, .int .i64 x7] 24)).alloc (.cells #[.int .i64 0, .int .i64 0, .int .i64 0, .int .i64 0, .int .i64 0, .int .i64 0, .int .i64 0, .int .i64 0] 24)).alloc (.cells #[.int .i64 x0, .int .i64 x1, .int .i64 x2, .int .i64 x3, .int .i64 x4, .int .i64 x5, .int .i64 x6, .int .i64 x7] 24)).heap[w.heap.size + 1]? = some (.cells #[.int .i64 0, .int .i64 0, .int .i64 0, .int .i64 0, .int .i64 0, .int .i64 0, .int .i64 0, .int .i64 0] 24 (0, 0)) := blk_alloc (blk_new _ _ _ (by simp)) _
  have bo : (((w.alloc (.cells #[.int .i64 x0, .int .i64 x1, .int .i64 x2, .int .i64 x3, .int .i64 x4, .int .i64 x5, .int .i64 x6, .int .i64 x7] 24)).alloc (.cells #[.int .i64 0, .int .i64 0, .int .i64 0, .int .i64 0, .int .i64 0, .int .i64 0, .int .i64 0, .int .i64 0] 24)).alloc (.cells #[.int .i64 x0, .int .i64 x1, .int .i64 x2, .int .i64 x3, .int .i64 x4, .int .i64 x5, .int .i64 x6, .int .i64 x7] 24)).heap[w.heap.size + 1 + 1]? = some (.cells #[.int .i64 x0, .int .i64 x1, .int .i64 x2, .int .i64 x3, .int .i64 x4, .int .i64 x5, .int .i64 x6, .int .i64 x7] 24 (0, 0)) := blk_new _ _ _ (by simp)
  have hB : Below w.heap.size w (((w.alloc (.cells #[.int .i64 x0, .int .i64 x1, .int .i64 x2, .int .i64 x3, .int .i64 x4, .int .i64 x5, .int .i64 x6, .int .i64 x7] 24)).alloc (.cells #[.int .i64 0, .int .i64 0, .int .i64 0, .int .i64 0, .int .i64 0, .int .i64 0, .int .i64 0, .int .i64 0] 24)).alloc (.cells #[.int .i64 x0, .int .i64 x1, .int .i64 x2, .int .i64 x3, .int .i64 x4, .int .i64 x5, .int .i64 x6, .int .i64 x7] 24)) := belA (belA (belA (Below.refl _ _) _) _) _
  generalize (((w.alloc (.cells #[.int .i64 x0, .int .i64 x1, .int .i64 x2, .int .i64 x3, .int .i64 x4, .int .i64 x5, .int .i64 x6, .int .i64 x7] 24)).alloc (.cells #[.int .i64 0, .int .i64 0, .int .i64 0, .int .i64 0, .int .i64 0, .int .i64 0, .int .i64 0, .int .i64 0] 24)).alloc (.cells #[.int .i64 x0, .int .i64 x1, .int .i64 x2, .int .i64 x3, .int .i64 x4, .int .i64 x5, .int .i64 x6, .int .i64 x7] 24)) = v0 at *
  refine wp_loop_rounds 5 ?_
  rw [rounds_succ]
  have c0 := blk_cell bx 0 _ rfl
  have c1 := blk_cell bx 1 _ rfl
  go_wp2_with fail
  refine (fit_any _ _ _).mono ?_; rintro e u0 ⟨rfl, hb⟩
  replace bx : u0.heap[w.heap.size]? = some (.cells #[.int .i64 x0, .int .i64 x1, .int .i64 x2, .int .i64 x3, .int .i64 x4, .int .i64 x5, .int .i64 x6, .int .i64 x7] 24 (0, 0)) := blk_call bx hb
  replace br : u0.heap[w.heap.size + 1]? = some (.cells #[.int .i64 0, .int .i64 0, .int .i64 0, .int .i64 0, .int .i64 0, .int .i64 0, .int .i64 0, .int .i64 0] 24 (0, 0)) := blk_call br hb
  replace bo : u0.heap[w.heap.size + 1 + 1]? = some (.cells #[.int .i64 x0, .int .i64 x1, .int .i64 x2, .int .i64 x3, .int .i64 x4, .int .i64 x5, .int .i64 x6, .int .i64 x7] 24 (0, 0)) := blk_call bo hb
  replace hB := belT hB hb
  clear hb c0 c1
  have o0 := blk_cell bo 0 _ rfl
  have o1 := blk_cell bo 1 _ rfl
  have f0 := blk_fz bo 0
  have f1 := blk_fz bo 1
  go_wp2_with fail
  replace bx : ((u0.setCell ⟨w.heap.size + 1 + 1, 0, none⟩ (.int .i64 (x0.tmod 439400001))).setCell ⟨w.heap.size + 1 + 1, 1, none⟩ (.int .i64 (x1.tmod 439400001))).heap[w.heap.size]? = some (.cells #[.int .i64 x0, .int .i64 x1, .int .i64 x2, .int .i64 x3, .int .i64 x4, .int .i64 x5, .int .i64 x6, .int .i64 x7] 24 (0, 0)) := blk_other (blk_other bx (by omega) _) (by omega) _
  replace br : ((u0.setCell ⟨w.heap.size + 1 + 1, 0, none⟩ (.int .i64 (x0.tmod 439400001))).setCell ⟨w.heap.size + 1 + 1, 1, none⟩ (.int .i64 (x1.tmod 439400001))).heap[w.heap.size + 1]? = some (.cells #[.int .i64 0, .int .i64 0, .int .i64 0, .int .i64 0, .int .i64 0, .int .i64 0, .int .i64 0, .int .i64 0] 24 (0, 0)) := blk_other (blk_other br (by omega) _) (by omega) _
  replace bo : ((u0.setCell ⟨w.heap.size + 1 + 1, 0, none⟩ (.int .i64 (x0.tmod 439400001))).setCell ⟨w.heap.size + 1 + 1, 1, none⟩ (.int .i64 (x1.tmod 439400001))).heap[w.heap.size + 1 + 1]? = some (.cells #[.int .i64 (x0.tmod 439400001), .int .i64 (x1.tmod 439400001), .int .i64 x2, .int .i64 x3, .int .i64 x4, .int .i64 x5, .int .i64 x6, .int .i64 x7] 24 (0, 0)) := blk_set (blk_set bo _) _
  replace hB : Below w.heap.size w ((u0.setCell ⟨w.heap.size + 1 + 1, 0, none⟩ (.int .i64 (x0.tmod 439400001))).setCell ⟨w.heap.size + 1 + 1, 1, none⟩ (.int .i64 (x1.tmod 439400001))) := belS (belS hB (by simp; omega) _) (by simp; omega) _
  clear o0 o1 f0 f1
  generalize ((u0.setCell ⟨w.heap.size + 1 + 1, 0, none⟩ (.int .i64 (x0.tmod 439400001))).setCell ⟨w.heap.size + 1 + 1, 1, none⟩ (.int .i64 (x1.tmod 439400001))) = v1 at *
  rw [rounds_succ]
  have c0 := blk_cell bx 2 _ rfl
  have c1 := blk_cell bx 3 _ rfl
  go_wp2_with fail
  refine (fit_any _ _ _).mono ?_; rintro e u1 ⟨rfl, hb⟩
  replace bx : u1.heap[w.heap.size]? = some (.cells #[.int .i64 x0, .int .i64 x1, .int .i64 x2, .int .i64 x3, .int .i64 x4, .int .i64 x5, .int .i64 x6, .int .i64 x7] 24 (0, 0)) := blk_call bx hb
  replace br : u1.heap[w.heap.size + 1]? = some (.cells #[.int .i64 0, .int .i64 0, .int .i64 0, .int .i64 0, .int .i64 0, .int .i64 0, .int .i64 0, .int .i64 0] 24 (0, 0)) := blk_call br hb
  replace bo : u1.heap[w.heap.size + 1 + 1]? = some (.cells #[.int .i64 (x0.tmod 439400001), .int .i64 (x1.tmod 439400001), .int .i64 x2, .int .i64 x3, .int .i64 x4, .int .i64 x5, .int .i64 x6, .int .i64 x7] 24 (0, 0)) := blk_call bo hb
  replace hB := belT hB hb
  clear hb c0 c1
  have o0 := blk_cell bo 2 _ rfl
  have o1 := blk_cell bo 3 _ rfl
  have f0 := blk_fz bo 2
  have f1 := blk_fz bo 3
  go_wp2_with fail
  replace bx : ((u1.setCell ⟨w.heap.size + 1 + 1, 2, none⟩ (.int .i64 (x2.tmod 439400001))).setCell ⟨w.heap.size + 1 + 1, 3, none⟩ (.int .i64 (x3.tmod 439400001))).heap[w.heap.size]? = some (.cells #[.int .i64 x0, .int .i64 x1, .int .i64 x2, .int .i64 x3, .int .i64 x4, .int .i64 x5, .int .i64 x6, .int .i64 x7] 24 (0, 0)) := blk_other (blk_other bx (by omega) _) (by omega) _
  replace br : ((u1.setCell ⟨w.heap.size + 1 + 1, 2, none⟩ (.int .i64 (x2.tmod 439400001))).setCell ⟨w.heap.size + 1 + 1, 3, none⟩ (.int .i64 (x3.tmod 439400001))).heap[w.heap.size + 1]? = some (.cells #[.int .i64 0, .int .i64 0, .int .i64 0, .int .i64 0, .int .i64 0, .int .i64 0, .int .i64 0, .int .i64 0] 24 (0, 0)) := blk_other (blk_other br (by omega) _) (by omega) _
  replace bo : ((u1.setCell ⟨w.heap.size + 1 + 1, 2, none⟩ (.int .i64 (x2.tmod 439400001))).setCell ⟨w.heap.size + 1 + 1, 3, none⟩ (.int .i64 (x3.tmod 439400001))).heap[w.heap.size + 1 + 1]? = some (.cells #[.int .i64 (x0.tmod 439400001), .int .i64 (x1.tmod 439400001), .int .i64 (x2.tmod 439400001), .int .i64 (x3.tmod 439400001), .int .i64 x4, .int .i64 x5, .int .i64 x6, .int .i64 x7] 24 (0, 0)) := blk_set (blk_set bo _) _
  replace hB : Below w.heap.size w ((u1.setCell ⟨w.heap.size + 1 + 1, 2, none⟩ (.int .i64 (x2.tmod 439400001))).setCell ⟨w.heap.size + 1 + 1, 3, none⟩ (.int .i64 (x3.tmod 439400001))) := belS (belS hB (by simp; omega) _) (by simp; omega) _
  clear o0 o1 f0 f1
  generalize ((u1.setCell ⟨w.heap.size + 1 + 1, 2, none⟩ (.int .i64 (x2.tmod 439400001))).setCell ⟨w.heap.size + 1 + 1, 3, none⟩ (.int .i64 (x3.tmod 439400001))) = v2 at *
  rw [rounds_succ]
  have c0 := blk_cell bx 4 _ rfl
  have c1 := blk_cell bx 5 _ rfl
  go_wp2_with fail
  refine (fit_any _ _ _).mono ?_; rintro e u2 ⟨rfl, hb⟩
  replace bx : u2.heap[w.heap.size]? = some (.cells #[.int .i64 x0, .int .i64 x1, .int .i64 x2, .int .i64 x3, .int .i64 x4, .int .i64 x5, .int .i64 x6, .int .i64 x7] 24 (0, 0)) := blk_call bx hb
  replace br : u2.heap[w.heap.size + 1]? = some (.cells #[.int .i64 0, .int .i64 0, .int .i64 0, .int .i64 0, .int .i64 0, .int .i64 0, .int .i64 0, .int .i64 0] 24 (0, 0)) := blk_call br hb
  replace bo : u2.heap[w.heap.size + 1 + 1]? = some (.cells #[.int .i64 (x0.tmod 439400001), .int .i64 (x1.tmod 439400001), .int .i64 (x2.tmod 439400001), .int .i64 (x3.tmod 439400001), .int .i64 x4, .int .i64 x5, .int .i64 x6, .int .i64 x7] 24 (0, 0)) := blk_call bo hb
  replace hB := belT hB hb
  clear hb c0 c1
  have o0 := blk_cell bo 4 _ rfl
  have o1 := blk_cell bo 5 _ rfl
  have f0 := blk_fz bo 4
  have f1 := blk_fz bo 5
  go_wp2_with fail
  replace bx : ((u2.setCell ⟨w.heap.size + 1 + 1, 4, none⟩ (.int .i64 (x4.tmod 439400001))).setCell ⟨w.heap.size + 1 + 1, 5, none⟩ (.int .i64 (x5.tmod 439400001))).heap[w.heap.size]? = some (.cells #[.int .i64 x0, .int .i64 x1, .int .i64 x2, .int .i64 x3, .int .i64 x4, .int .i64 x5, .int .i64 x6, .int .i64 x7] 24 (0, 0)) := blk_other (blk_other bx (by omega) _) (by omega) _
  replace br : ((u2.setCell ⟨w.heap.size + 1 + 1, 4, none⟩ (.int .i64 (x4.tmod 439400001))).setCell ⟨w.heap.size + 1 + 1, 5, none⟩ (.int .i64 (x5.tmod 439400001))).heap[w.heap.size + 1]? = some (.cells #[.int .i64 0, .int .i64 0, .int .i64 0, .int .i64 0, .int .i64 0, .int .i64 0, .int .i64 0, .int .i64 0] 24 (0, 0)) := blk_other (blk_other br (by omega) _) (by omega) _
  replace bo : ((u2.setCell ⟨w.heap.size + 1 + 1, 4, none⟩ (.int .i64 (x4.tmod 439400001))).setCell ⟨w.heap.size + 1 + 1, 5, none⟩ (.int .i64 (x5.tmod 439400001))).heap[w.heap.size + 1 + 1]? = some (.cells #[.int .i64 (x0.tmod 439400001), .int .i64 (x1.tmod 439400001), .int .i64 (x2.tmod 439400001), .int .i64 (x3.tmod 439400001), .int .i64 (x4.tmod 439400001), .int .i64 (x5.tmod 439400001), .int .i64 x6, .int .i64 x7] 24 (0, 0)) := blk_set (blk_set bo _) _
  replace hB : Below w.heap.size w ((u2.setCell ⟨w.heap.size + 1 + 1, 4, none⟩ (.int .i64 (x4.tmod 439400001))).setCell ⟨w.heap.size + 1 + 1, 5, none⟩ (.int .i64 (x5.tmod 439400001))) := belS (belS hB (by simp; omega) _) (by simp; omega) _
  clear o0 o1 f0 f1
  generalize ((u2.setCell ⟨w.heap.size + 1 + 1, 4, none⟩ (.int .i64 (x4.tmod 439400001))).setCell ⟨w.heap.size + 1 + 1, 5, none⟩ (.int .i64 (x5.tmod 439400001))) = v3 at *
  rw [rounds_succ]
  have c0 := blk_cell bx 6 _ rfl
  have c1 := blk_cell bx 7 _ rfl
  go_wp2_with fail
  refine (fit_any _ _ _).mono ?_; rintro e u3 ⟨rfl, hb⟩
  replace bx : u3.heap[w.heap.size]? = some (.cells #[.int .i64 x0, .int .i64 x1, .int .i64 x2, .int .i64 x3, .int .i64 x4, .int .i64 x5, .int .i64 x6, .int .i64 x7] 24 (0, 0)) := blk_call bx hb
  replace br : u3.heap[w.heap.size + 1]? = some (.cells #[.int .i64 0, .int .i64 0, .int .i64 0, .int .i64 0, .int .i64 0, .int .i64 0, .int .i64 0, .int .i64 0] 24 (0, 0)) := blk_call br hb
  replace bo : u3.heap[w.heap.size + 1 + 1]? = some (.cells #[.int .i64 (x0.tmod 439400001), .int .i64 (x1.tmod 439400001), .int .i64 (x2.tmod 439400001), .int .i64 (x3.tmod 439400001), .int .i64 (x4.tmod 439400001), .int .i64 (x5.tmod 439400001), .int .i64 x6, .int .i64 x7] 24 (0, 0)) := blk_call bo hb
  replace hB := belT hB hb
  clear hb c0 c1
  have o0 := blk_cell bo 6 _ rfl
  have o1 := blk_cell bo 7 _ rfl
  have f0 := blk_fz bo 6
  have f1 := blk_fz bo 7
  go_wp2_with fail
  replace bx : ((u3.setCell ⟨w.heap.size + 1 + 1, 6, none⟩ (.int .i64 (x6.tmod 439400001))).setCell ⟨w.heap.size + 1 + 1, 7, none⟩ (.int .i64 (x7.tmod 439400001))).heap[w.heap.size]? = some (.cells #[.int .i64 x0, .int .i64 x1, .int .i64 x2, .int .i64 x3, .int .i64 x4, .int .i64 x5, .int .i64 x6, .int .i64 x7] 24 (0, 0)) := blk_other (blk_other bx (by omega) _) (by omega) _
  replace br : ((u3.setCell ⟨w.heap.size + 1 + 1, 6, none⟩ (.int .i64 (x6.tmod 439400001))).setCell ⟨w.heap.size + 1 + 1, 7, none⟩ (.int .i64 (x7.tmod 439400001))).heap[w.heap.size + 1]? = some (.cells #[.int .i64 0, .int .i64 0, .int .i64 0, .int .i64 0, .int .i64 0, .int .i64 0, .int .i64 0, .int .i64 0] 24 (0, 0)) := blk_other (blk_other br (by omega) _) (by omega) _
  replace bo : ((u3.setCell ⟨w.heap.size + 1 + 1, 6, none⟩ (.int .i64 (x6.tmod 439400001))).setCell ⟨w.heap.size + 1 + 1, 7, none⟩ (.int .i64 (x7.tmod 439400001))).heap[w.heap.size + 1 + 1]? = some (.cells #[.int .i64 (x0.tmod 439400001), .int .i64 (x1.tmod 439400001), .int .i64 (x2.tmod 439400001), .int .i64 (x3.tmod 439400001), .int .i64 (x4.tmod 439400001), .int .i64 (x5.tmod 439400001), .int .i64 (x6.tmod 439400001), .int .i64 (x7.tmod 439400001)] 24 (0, 0)) := blk_set (blk_set bo _) _
  replace hB : Below w.heap.size w ((u3.setCell ⟨w.heap.size + 1 + 1, 6, none⟩ (.int .i64 (x6.tmod 439400001))).setCell ⟨w.heap.size + 1 + 1, 7, none⟩ (.int .i64 (x7.tmod 439400001))) := belS (belS hB (by simp; omega) _) (by simp; omega) _
  clear o0 o1 f0 f1
  generalize ((u3.setCell ⟨w.heap.size + 1 + 1, 6, none⟩ (.int .i64 (x6.tmod 439400001))).setCell ⟨w.heap.size + 1 + 1, 7, none⟩ (.int .i64 (x7.tmod 439400001))) = v4 at *
  rw [rounds_succ]
  have o0 := blk_cell bo 0 _ rfl
  have r0 := blk_cell br 0 _ rfl
  have g0 := blk_fz br 0
  have o1 := blk_cell bo 1 _ rfl
  have r1 := blk_cell br 1 _ rfl
  have g1 := blk_fz br 1
  have o2 := blk_cell bo 2 _ rfl
  have r2 := blk_cell br 2 _ rfl
  have g2 := blk_fz br 2
  have o3 := blk_cell bo 3 _ rfl
  have r3 := blk_cell br 3 _ rfl
  have g3 := blk_fz br 3
  have o4 := blk_cell bo 4 _ rfl
  have r4 := blk_cell br 4 _ rfl
  have g4 := blk_fz br 4
  have o5 := blk_cell bo 5 _ rfl
  have r5 := blk_cell br 5 _ rfl
  have g5 := blk_fz br 5
  have o6 := blk_cell bo 6 _ rfl
  have r6 := blk_cell br 6 _ rfl
  have g6 := blk_fz br 6
  have o7 := blk_cell bo 7 _ rfl
  have r7 := blk_cell br 7 _ rfl
  have g7 := blk_fz br 7
  go_wp2_with fail
  have bf : ((((((((v4.setCell ⟨w.heap.size + 1, 0, none⟩ (.int .i64 (x0.tmod 439400001))).setCell ⟨w.heap.size + 1, 1, none⟩ (.int .i64 (x1.tmod 439400001))).setCell ⟨w.heap.size + 1, 2, none⟩ (.int .i64 (x2.tmod 439400001))).setCell ⟨w.heap.size + 1, 3, none⟩ (.int .i64 (x3.tmod 439400001))).setCell ⟨w.heap.size + 1, 4, none⟩ (.int .i64 (x4.tmod 439400001))).setCell ⟨w.heap.size + 1, 5, none⟩ (.int .i64 (x5.tmod 439400001))).setCell ⟨w.heap.size + 1, 6, none⟩ (.int .i64 (x6.tmod 439400001))).setCell ⟨w.heap.size + 1, 7, none⟩ (.int .i64 (x7.tmod 439400001))).heap[w.heap.size + 1]? = some (.cells #[.int .i64 (x0.tmod 439400001), .int .i64 (x1.tmod 439400001), .int .i64 (x2.tmod 439400001), .int .i64 (x3.tmod 439400001), .int .i64 (x4.tmod 439400001), .int .i64 (x5.tmod 439400001), .int .i64 (x6.tmod 439400001), .int .i64 (x7.tmod 439400001)] 24 (0, 0)) := (blk_set (blk_set (blk_set (blk_set (blk_set (blk_set (blk_set (blk_set br _) _) _) _) _) _) _) _)
  have hBf : Below w.heap.size w ((((((((v4.setCell ⟨w.heap.size + 1, 0, none⟩ (.int .i64 (x0.tmod 439400001))).setCell ⟨w.heap.size + 1, 1, none⟩ (.int .i64 (x1.tmod 439400001))).setCell ⟨w.heap.size + 1, 2, none⟩ (.int .i64 (x2.tmod 439400001))).setCell ⟨w.heap.size + 1, 3, none⟩ (.int .i64 (x3.tmod 439400001))).setCell ⟨w.heap.size + 1, 4, none⟩ (.int .i64 (x4.tmod 439400001))).setCell ⟨w.heap.size + 1, 5, none⟩ (.int .i64 (x5.tmod 439400001))).setCell ⟨w.heap.size + 1, 6, none⟩ (.int .i64 (x6.tmod 439400001))).setCell ⟨w.heap.size + 1, 7, none⟩ (.int .i64 (x7.tmod 439400001))) := (belS (belS (belS (belS (belS (belS (belS (belS hB (by simp) _) (by simp) _) (by simp) _) (by simp) _) (by simp) _) (by simp) _) (by simp) _) (by simp) _)
  clear bx br bo hB o0 r0 g0 o1 r1 g1 o2 r2 g2 o3 r3 g3 o4 r4 g4 o5 r5 g5 o6 r6 g6 o7 r7 g7
  generalize ((((((((v4.setCell ⟨w.heap.size + 1, 0, none⟩ (.int .i64 (x0.tmod 439400001))).setCell ⟨w.heap.size + 1, 1, none⟩ (.int .i64 (x1.tmod 439400001))).setCell ⟨w.heap.size + 1, 2, none⟩ (.int .i64 (x2.tmod 439400001))).setCell ⟨w.heap.size + 1, 3, none⟩ (.int .i64 (x3.tmod 439400001))).setCell ⟨w.heap.size + 1, 4, none⟩ (.int .i64 (x4.tmod 439400001))).setCell ⟨w.heap.size + 1, 5, none⟩ (.int .i64 (x5.tmod 439400001))).setCell ⟨w.heap.size + 1, 6, none⟩ (.int .i64 (x6.tmod 439400001))).setCell ⟨w.heap.size + 1, 7, none⟩ (.int .i64 (x7.tmod 439400001))) = vf at *
  have q0 := blk_cell bf 0 _ rfl
  have q1 := blk_cell bf 1 _ rfl
  have q2 := blk_cell bf 2 _ rfl
  have q3 := blk_cell bf 3 _ rfl
  have q4 := blk_cell bf 4 _ rfl
  have q5 := blk_cell bf 5 _ rfl
  have q6 := blk_cell bf 6 _ rfl
  have q7 := blk_cell bf 7 _ rfl
  refine bodyPost_ret (v := .agg #[.int .i64 (x0.tmod 439400001), .int .i64 (x1.tmod 439400001), .int .i64 (x2.tmod 439400001), .int .i64 (x3.tmod 439400001), .int .i64 (x4.tmod 439400001), .int .i64 (x5.tmod 439400001), .int .i64 (x6.tmod 439400001), .int .i64 (x7.tmod 439400001)]) (by simp [results, Try.results11, go_sem, q0, q1, q2, q3, q4, q5, q6, q7]) rfl ?_
  exact ⟨rfl, hBf⟩
end Go.Proofs.Ytbkbdejmnhpdeaa
