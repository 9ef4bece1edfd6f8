/- Contracts of the leaves of package sweep and of the reference's Outer: stretch, beyond, ArcBound, Outer. The coordinates are bounded. -/
import Derived.Test.YtnpadblfpaiofaaHlA
import Derived.StillTailTactics
namespace Go.Proofs.Ytnpadblfpaiofaa
open Go.ChangeShapes Go.WideShapes Go.ChangeAt Go.RowKit
set_option linter.unusedVariables false
set_option linter.unusedSimpArgs false

/-- A coordinate of an outer point. -/
def strI (c a b : Int) : Int := c + (9 * (a + b - 2 * c)).tdiv 16
def outP (o a b : Int × Int) : Int × Int := (strI o.1 a.1 b.1, strI o.2 a.2 b.2)
theorem str_bd {c a b : Int} (hc : InV c) (ha : InV a) (hb : InV b) : -2000000000 ≤ (9 * (a + b - 2 * c)).tdiv 16 ∧ (9 * (a + b - 2 * c)).tdiv 16 ≤ 2000000000 := by
  unfold InV at *
  obtain ⟨x, hx⟩ : ∃ x, 9 * (a + b - 2 * c) = x := ⟨_, rfl⟩
  rw [hx]
  by_cases h : 0 ≤ x
  · rw [Int.tdiv_eq_ediv_of_nonneg h]; omega
  · have e : x.tdiv 16 = -((-x).tdiv 16) := by rw [Int.neg_tdiv, Int.neg_neg]
    rw [e, Int.tdiv_eq_ediv_of_nonneg (by omega)]; omega

set_option maxHeartbeats 1000000 in
theorem stretch_is (c a b s : Int) (w : World) (hc : InV c) (ha : InV a) (hb : InV b) (hs : Hid (strI c a b = s)) :
    Calls Try.prog 70 #[.int .i64 c, .int .i64 a, .int .i64 b] w fun e w' => e = .returned (.int .i64 s) ∧ w' = w := by
  have h0 := str_bd hc ha hb
  unfold strI at hs
  unfold InV at hc ha hb
  obtain ⟨d, hd⟩ : ∃ d, (9 * (a + b - 2 * c)).tdiv 16 = d := ⟨_, rfl⟩
  rw [hd] at hs h0
  have w1 : IntKind.i64.wrap (a + b) = a + b := by rw [IntKind.wrap_i64]; omega
  have w2 : IntKind.i64.wrap (2 * c) = 2 * c := by rw [IntKind.wrap_i64]; omega
  have w3 : IntKind.i64.wrap (a + b - 2 * c) = a + b - 2 * c := by rw [IntKind.wrap_i64]; omega
  have w4 : IntKind.i64.wrap (9 * (a + b - 2 * c)) = 9 * (a + b - 2 * c) := by rw [IntKind.wrap_i64]; omega
  have w5 : IntKind.i64.wrap d = d := by rw [IntKind.wrap_i64]; omega
  have w6 : IntKind.i64.wrap (c + d) = c + d := by rw [IntKind.wrap_i64]; omega
  go_enter Try.func70, Try.ntmps70
  go_wp2
  go_ret
  exact ⟨ret_int hs.out, rfl⟩

set_option maxRecDepth 100000 in
set_option maxHeartbeats 2000000 in
theorem beyond_is (c1 c2 a1 a2 b1 b2 : Int) (q : Int × Int) (w : World) (k1 : InV c1) (k2 : InV c2) (k3 : InV a1) (k4 : InV a2) (k5 : InV b1) (k6 : InV b2) (hq : Hid (outP (c1, c2) (a1, a2) (b1, b2) = q)) :
    Calls Try.prog 53 #[.agg #[.int .i64 c1, .int .i64 c2], .agg #[.int .i64 a1, .int .i64 a2], .agg #[.int .i64 b1, .int .i64 b2]] w fun e w' => e = .returned (.agg #[.int .i64 q.1, .int .i64 q.2]) ∧ Below w.heap.size w w' := by
  obtain ⟨q1, q2⟩ := q
  have e1 : Hid (strI c1 a1 b1 = q1) := Lib.hid (congrArg Prod.fst hq.out)
  have e2 : Hid (strI c2 a2 b2 = q2) := Lib.hid (congrArg Prod.snd hq.out)
  have C1 := Lib.hid (fun W => stretch_is c1 a1 b1 q1 W k1 k3 k5 e1)
  have C2 := Lib.hid (fun W => stretch_is c2 a2 b2 q2 W k2 k4 k6 e2)
  clear k1 k2 k3 k4 k5 k6
  go_enter Try.func53, Try.ntmps53
  go_wp2
  have hb4 : Below w.heap.size w ((((w.alloc (.cells #[.int .i64 c1, .int .i64 c2] 70)).alloc (.cells #[.int .i64 a1, .int .i64 a2] 35)).alloc (.cells #[.int .i64 b1, .int .i64 b2] 35)).alloc (.cells #[.int .i64 0, .int .i64 0] 35)) := belA (belA (belA (belA (Below.refl _ w) _) _) _) _
  have y1 := blk_alloc (blk_alloc (blk_alloc (blk_new w (.cells #[.int .i64 c1, .int .i64 c2] 70) w.heap.size rfl) (.cells #[.int .i64 a1, .int .i64 a2] 35)) (.cells #[.int .i64 b1, .int .i64 b2] 35)) (.cells #[.int .i64 0, .int .i64 0] 35)
  have y2 := blk_alloc (blk_alloc (blk_new (w.alloc (.cells #[.int .i64 c1, .int .i64 c2] 70)) (.cells #[.int .i64 a1, .int .i64 a2] 35) (w.heap.size + 1) (by simp)) (.cells #[.int .i64 b1, .int .i64 b2] 35)) (.cells #[.int .i64 0, .int .i64 0] 35)
  have y3 := blk_alloc (blk_new ((w.alloc (.cells #[.int .i64 c1, .int .i64 c2] 70)).alloc (.cells #[.int .i64 a1, .int .i64 a2] 35)) (.cells #[.int .i64 b1, .int .i64 b2] 35) (w.heap.size + 1 + 1) (by simp)) (.cells #[.int .i64 0, .int .i64 0] 35)
  have y4 := blk_new (((w.alloc (.cells #[.int .i64 c1, .int .i64 c2] 70)).alloc (.cells #[.int .i64 a1, .int .i64 a2] 35)).alloc (.cells #[.int .i64 b1, .int .i64 b2] 35)) (.cells #[.int .i64 0, .int .i64 0] 35) (w.heap.size + 1 + 1 + 1) (by simp)
  generalize (((w.alloc (.cells #[.int .i64 c1, .int .i64 c2] 70)).alloc (.cells #[.int .i64 a1, .int .i64 a2] 35)).alloc (.cells #[.int .i64 b1, .int .i64 b2] 35)).alloc (.cells #[.int .i64 0, .int .i64 0] 35) = w4 at *
  have HB := Lib.hid hb4
  have x1 := blk_cell y1 0 _ rfl
  have x2 := blk_cell y1 1 _ rfl
  have x3 := blk_cell y2 0 _ rfl
  have x4 := blk_cell y2 1 _ rfl
  have x5 := blk_cell y3 0 _ rfl
  have x6 := blk_cell y3 1 _ rfl
  have x7 := blk_cell y4 0 _ rfl
  have x8 := blk_cell y4 1 _ rfl
  have hz := HB.out.size
  have f7 := blk_fz y4 0
  have f8 := blk_fz y4 1
  have Y4 := Lib.hid y4
  clear y1 y2 y3 y4 hb4
  refine wp_region_still_tail 15 mixedP (by kernel_rfl) ?_
  simp only [List.take_succ_cons, List.take_zero, List.drop_succ_cons, List.drop_zero]
  iterate 6 still_step
  still_call (C1.out _)
  iterate 6 still_step
  still_call (C2.out _)
  iterate 1 still_step
  refine wpStill_nil ?_
  go_wp2
  have z' := blk_set (j := 0) Y4.out (.int .i64 q1)
  have z0 := blk_cell z' 0 _ rfl
  have z := blk_set (j := 1) z' (.int .i64 q2)
  have z1 := blk_cell z 1 _ rfl
  have z2 := blk_cell z 0 _ rfl
  refine bodyPost_ret (v := .agg #[.int .i64 q1, .int .i64 q2]) (by simp [results, Try.results53, go_sem, z0, z1, z2]) rfl ⟨rfl, ?_⟩
  exact (belS (belS HB.out (by simp; omega) _) (by simp; omega) _).drew
end Go.Proofs.Ytnpadblfpaiofaa
