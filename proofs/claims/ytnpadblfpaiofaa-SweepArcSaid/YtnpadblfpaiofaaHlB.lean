/- Contract of hull.compare: in whatever world; blocks are laid, draws are made, nothing else. -/
import Derived.Test.YtnpadblfpaiofaaHlA
import Derived.StillTailTactics
import Derived.Shelf.SlSortCmp.NoneTotal
namespace Go.Proofs.Ytnpadblfpaiofaa
open Go.ChangeShapes Go.WideShapes Go.ChangeAt Go.RowKit
set_option linter.unusedVariables false
set_option linter.unusedSimpArgs false

def cmpP (x y : Int × Int) : Int := if cmpI x.1 y.1 = 0 then cmpI x.2 y.2 else cmpI x.1 y.1

set_option maxRecDepth 100000 in
set_option maxHeartbeats 4000000 in
theorem compare_is (a b c d v : Int) (w : World) (h : Hid ((if cmpI a c = 0 then cmpI b d else cmpI a c) = v)) :
    Calls Try.prog 41 #[.agg #[.int .i64 a, .int .i64 b], .agg #[.int .i64 c, .int .i64 d]] w fun e w' => e = .returned (.int .i64 v) ∧ ∃ q os, w' = Sort.grow (w.drewN q) os := by
  obtain ⟨r, hr⟩ : ∃ r, cmpI a c = r := ⟨_, rfl⟩
  obtain ⟨s, hs⟩ : ∃ s, cmpI b d = s := ⟨_, rfl⟩
  rw [hr, hs] at h
  have Hr := Lib.hid hr
  have Hs := Lib.hid hs
  clear hr hs
  go_enter Try.func41, Try.ntmps41
  go_wp2
  have hb1 := belA (belA (Below.refl _ w) (.cells #[.int .i64 a, .int .i64 b] 35)) (.cells #[.int .i64 c, .int .i64 d] 35)
  have y1 := blk_alloc (blk_new w (.cells #[.int .i64 a, .int .i64 b] 35) w.heap.size rfl) (.cells #[.int .i64 c, .int .i64 d] 35)
  have y2 := blk_new (w.alloc (.cells #[.int .i64 a, .int .i64 b] 35)) (.cells #[.int .i64 c, .int .i64 d] 35) (w.heap.size + 1) (by simp)
  have E : Hid ((w.alloc (.cells #[.int .i64 a, .int .i64 b] 35)).alloc (.cells #[.int .i64 c, .int .i64 d] 35) = Sort.grow w #[.cells #[.int .i64 a, .int .i64 b] 35, .cells #[.int .i64 c, .int .i64 d] 35]) := Lib.hid (by rw [Sort.alloc_eq_grow, Sort.alloc_eq_grow, Sort.grow_grow]; rfl)
  generalize (w.alloc (.cells #[.int .i64 a, .int .i64 b] 35)).alloc (.cells #[.int .i64 c, .int .i64 d] 35) = w1 at *
  have x1 := blk_cell y1 0 _ rfl
  have x2 := blk_cell y1 1 _ rfl
  have x3 := blk_cell y2 0 _ rfl
  have x4 := blk_cell y2 1 _ rfl
  clear y1 y2 hb1
  refine wp_region_still_tail 10 mixedP (by kernel_rfl) ?_
  simp only [List.take_succ_cons, List.take_zero, List.drop_succ_cons, List.drop_zero]
  iterate 4 still_step
  still_call ((cmp_is _ _ _ _ Hr).mono fun _ _ h => ⟨h.1, h.2.symm⟩)
  iterate 4 still_step
  still_call ((cmp_is _ _ _ _ Hs).mono fun _ _ h => ⟨h.1, h.2.symm⟩)
  refine wpStill_nil ?_
  go_wp2_with fail
  refine (or_is w1.heap.size 2 r s v (w1.alloc (.cells #[.int .i64 r, .int .i64 s] 3)).drew h (cbe w1 #[.int .i64 r, .int .i64 s] 3 w1.heap.size 0 (.int .i64 r) rfl rfl) (cbe w1 #[.int .i64 r, .int .i64 s] 3 w1.heap.size 1 (.int .i64 s) rfl rfl)).mono ?_
  rintro e w2 ⟨rfl, rfl⟩
  go_wp2
  go_ret
  refine ⟨rfl, 1, #[.cells #[.int .i64 a, .int .i64 b] 35, .cells #[.int .i64 c, .int .i64 d] 35, .cells #[.int .i64 r, .int .i64 s] 3], ?_⟩
  rw [E.out, Sort.alloc_eq_grow, Sort.grow_grow]
  rfl

/-- The two cells of a point. -/
def encP (x : Int × Int) : List Value := [.int .i64 x.1, .int .i64 x.2]
theorem cmpI_neg' (x y : Int) : cmpI x y < 0 ↔ x < y := by unfold cmpI; split <;> (try split) <;> omega
theorem cmpI_zero' (x y : Int) : cmpI x y = 0 ↔ x = y := by unfold cmpI; split <;> (try split) <;> omega
theorem ltP (x y : Int × Int) : ltOf cmpP x y = decide (x.1 < y.1 ∨ (x.1 = y.1 ∧ x.2 < y.2)) := by
  unfold ltOf cmpP
  rw [decide_eq_decide]
  split
  · rename_i h
    rw [cmpI_zero'] at h
    rw [cmpI_neg']; omega
  · rename_i h
    rw [cmpI_zero'] at h
    rw [cmpI_neg']; omega
theorem swoP : Sort.SWO (ltOf cmpP) where
  irrefl x := by rw [ltP]; simp
  trans x y z h1 h2 := by rw [ltP] at h1 h2 ⊢; simp only [decide_eq_true_eq] at *; omega
  ntrans x y z h1 h2 := by rw [ltP] at h1 h2 ⊢; simp only [decide_eq_false_iff_not] at *; omega
theorem totP (x y : Int × Int) (h1 : ltOf cmpP x y = false) (h2 : ltOf cmpP y x = false) : x = y := by
  rw [ltP] at h1 h2; simp only [decide_eq_false_iff_not] at *
  exact Prod.ext (by omega) (by omega)
theorem compareLays (blk off size : Nat) (w : World) : CmpLays Try.prog 41 #[] encP 2 cmpP blk off size w :=
  fun _ _ _ _ x y => compare_is x.1 x.2 y.1 y.2 _ _ (Lib.hid rfl)
end Go.Proofs.Ytnpadblfpaiofaa
