/- Helpers: what the law reaches. -/
import Derived.StillTailTactics
import Derived.Shelf.SlSortCmp.NoneTotal
import Derived.Test.YtalhkcmlacppjaaGreatDoorZlHw
import Derived.Test.YtalhkcmlacppjaaGreatDoorZlHs
namespace Go.Proofs.YtalhkcmlacppjaaGreatDoor
open Go.ChangeShapes Go.WideShapes Go.ChangeAt Go.RowKit
set_option linter.unusedVariables false
set_option linter.unusedSimpArgs false

set_option maxHeartbeats 1000000 in
theorem cross_gr (a b c d p q n : Int) (w : World) (ka : InV a) (kb : InV b) (kc : InV c) (kd : InV d) (kp : InV p) (kq : InV q) (h : Hid (det a b c d p q = n)) :
    Calls Tryz.prog 75 #[.agg #[.int .i64 a, .int .i64 b], .agg #[.int .i64 c, .int .i64 d], .agg #[.int .i64 p, .int .i64 q]] w fun e w' => e = .returned (.int .i64 n) ∧ ∃ q os, w' = Sort.grow (w.drewN q) os := by
  have d1 := vdif kc ka
  have d2 := vdif kd kb
  have d3 := vdif kp ka
  have d4 := vdif kq kb
  obtain ⟨m1, m2⟩ := vprod d1 d4
  obtain ⟨m3, m4⟩ := vprod d2 d3
  obtain ⟨d11, d12⟩ := d1
  obtain ⟨d21, d22⟩ := d2
  obtain ⟨d31, d32⟩ := d3
  obtain ⟨d41, d42⟩ := d4
  clear ka kb kc kd kp kq
  go_enter Tryz.func75, Tryz.ntmps75
  go_wp2
  go_ret
  exact ⟨ret_int (by rw [← h.out]; rfl), 0, _, by rw [Sort.alloc_eq_grow, Sort.alloc_eq_grow, Sort.alloc_eq_grow, Sort.grow_grow, Sort.grow_grow]; rfl⟩
set_option maxHeartbeats 1000000 in
theorem hnext_is (ao : Option Addr) (n cap k j : Nat) (w : World) (hn : 0 < n) (hn' : n ≤ 1000000) (hk : k ≤ 1000000) (hj : Hid ((k + 1) % n = j)) :
    Calls Tryz.prog 74 #[.slice ao n cap, .int .i64 (k : Int)] w fun e w' => e = .returned (.int .i64 (j : Int)) ∧ w = w' := by
  have h0 : (n : Int) ≠ 0 := by omega
  have ht : ((k : Int) + 1).tmod (n : Int) = (j : Int) := by
    rw [← hj.out, Int.tmod_eq_emod_of_nonneg (by omega)]; simp
  go_enter Tryz.func74, Tryz.ntmps74
  go_wp2
  go_ret
  exact ⟨rfl, rfl⟩

theorem nan_is (x : Int) (w : World) :
    Calls Tryz.prog 105 #[.int .i64 x] w fun e w' => e = .returned (.bool false) ∧ w = w' := by
  go_enter Tryz.func105, Tryz.ntmps105
  go_wp2
  go_ret
  exact ⟨ret_bool (by simp), rfl⟩

set_option maxHeartbeats 1000000 in
theorem cmp_is (x y v : Int) (w : World) (h : Hid (cmpI x y = v)) :
    Calls Tryz.prog 86 #[.int .i64 x, .int .i64 y] w fun e w' => e = .returned (.int .i64 v) ∧ w = w' := by
  rcases Int.lt_trichotomy x y with g | g | g
  · have e : Hid (v = -1) := Lib.hid (by rw [← h.out]; exact cmpI_lt g)
    go_enter Tryz.func86, Tryz.ntmps86
    go_wp2_with (first | (go_at_call 105; refine (nan_is _ _).mono ?_; rintro e w1 ⟨rfl, rfl⟩))
    go_ret
    exact ⟨ret_int e.out.symm, rfl⟩
  · have e : Hid (v = 0) := Lib.hid (by rw [← h.out]; exact cmpI_eq g)
    subst g
    go_enter Tryz.func86, Tryz.ntmps86
    go_wp2_with (first | (go_at_call 105; refine (nan_is _ _).mono ?_; rintro e w1 ⟨rfl, rfl⟩))
    go_ret
    exact ⟨ret_int e.out.symm, rfl⟩
  · have e : Hid (v = 1) := Lib.hid (by rw [← h.out]; exact cmpI_gt g)
    have g2 : decide (x < y) = false := decide_eq_false (by omega)
    go_enter Tryz.func86, Tryz.ntmps86
    go_wp2_with (first | (go_at_call 105; refine (nan_is _ _).mono ?_; rintro e w1 ⟨rfl, rfl⟩))
    go_ret
    exact ⟨ret_int e.out.symm, rfl⟩

set_option maxHeartbeats 1000000 in
theorem or_is (b c : Nat) (x y v : Int) (w : World) (h : Hid ((if x = 0 then y else x) = v)) (c1 : w.cell? ⟨b, 0, none⟩ = some (.int .i64 x)) (c2 : w.cell? ⟨b, 1, none⟩ = some (.int .i64 y)) :
    Calls Tryz.prog 85 #[.slice (some ⟨b, 0, none⟩) 2 c] w fun e w' => e = .returned (.int .i64 v) ∧ w = w' := by
  go_enter Tryz.func85, Tryz.ntmps85
  go_wp2
  go_loopw [8] (fun i wr => wr = w ∧ ((i = .int .i64 0) ∨ (x = 0 ∧ i = .int .i64 1) ∨ (x = 0 ∧ y = 0 ∧ i = .int .i64 2))) (fun i _ => 2 - (intOf i).toNat)
  case atStart => exact ⟨rfl, .inl rfl⟩
  case round =>
    obtain ⟨rfl, rfl | ⟨hx, rfl⟩ | ⟨hx, hy, rfl⟩⟩ := hrel
    · by_cases hx : x = 0
      · go_wp2
        go_roundw
        case rel => exact ⟨trivial, .inr (.inl ⟨hx, by go_num⟩)⟩
        case measure => simp [intOf]
      · go_wp2
        go_ret
        exact ⟨ret_int (by rw [← h.out, if_neg hx]), rfl⟩
    · by_cases hy : y = 0
      · go_wp2
        go_roundw
        case rel => exact ⟨trivial, .inr (.inr ⟨hx, hy, by go_num⟩)⟩
        case measure => simp [intOf]
      · go_wp2
        go_ret
        exact ⟨ret_int (by rw [← h.out, if_pos hx]), rfl⟩
    · go_wp2
      go_ret
      exact ⟨ret_int (by rw [← h.out, if_pos hx, hy]), rfl⟩
end Go.Proofs.YtalhkcmlacppjaaGreatDoor

namespace Go.Proofs.YtalhkcmlacppjaaGreatDoor
open Go.ChangeShapes Go.WideShapes Go.ChangeAt Go.RowKit
set_option linter.unusedVariables false
set_option linter.unusedSimpArgs false

def cmpP (x y : Int × Int) : Int := if cmpI x.1 y.1 = 0 then cmpI x.2 y.2 else cmpI x.1 y.1

set_option maxRecDepth 100000 in
set_option maxHeartbeats 4000000 in
theorem compare_is (a b c d v : Int) (w : World) (h : Hid ((if cmpI a c = 0 then cmpI b d else cmpI a c) = v)) :
    Calls Tryz.prog 47 #[.agg #[.int .i64 a, .int .i64 b], .agg #[.int .i64 c, .int .i64 d]] w fun e w' => e = .returned (.int .i64 v) ∧ ∃ q os, w' = Sort.grow (w.drewN q) os := by
  obtain ⟨r, hr⟩ : ∃ r, cmpI a c = r := ⟨_, rfl⟩
  obtain ⟨s, hs⟩ : ∃ s, cmpI b d = s := ⟨_, rfl⟩
  rw [hr, hs] at h
  have Hr := Lib.hid hr
  have Hs := Lib.hid hs
  clear hr hs
  go_enter Tryz.func47, Tryz.ntmps47
  go_wp2
  have hb1 := belA (belA (Below.refl _ w) (.cells #[.int .i64 a, .int .i64 b] 23)) (.cells #[.int .i64 c, .int .i64 d] 23)
  have y1 := blk_alloc (blk_new w (.cells #[.int .i64 a, .int .i64 b] 23) w.heap.size rfl) (.cells #[.int .i64 c, .int .i64 d] 23)
  have y2 := blk_new (w.alloc (.cells #[.int .i64 a, .int .i64 b] 23)) (.cells #[.int .i64 c, .int .i64 d] 23) (w.heap.size + 1) (by simp)
  have E : Hid ((w.alloc (.cells #[.int .i64 a, .int .i64 b] 23)).alloc (.cells #[.int .i64 c, .int .i64 d] 23) = Sort.grow w #[.cells #[.int .i64 a, .int .i64 b] 23, .cells #[.int .i64 c, .int .i64 d] 23]) := Lib.hid (by rw [Sort.alloc_eq_grow, Sort.alloc_eq_grow, Sort.grow_grow]; rfl)
  generalize (w.alloc (.cells #[.int .i64 a, .int .i64 b] 23)).alloc (.cells #[.int .i64 c, .int .i64 d] 23) = w1 at *
  have x1 := blk_cell y1 0 _ rfl
  have x2 := blk_cell y1 1 _ rfl
  have x3 := blk_cell y2 0 _ rfl
  have x4 := blk_cell y2 1 _ rfl
  clear y1 y2 hb1
  refine wp_region_still_tail 10 mixedP (by kernel_rfl) ?_
  simp only [List.take_succ_cons, List.take_zero, List.drop_succ_cons, List.drop_zero]
  iterate 4 still_step
  still_call ((cmp_is _ _ _ _ Hr).mono fun _ _ h => ⟨h.1, h.2.symm⟩)
  iterate 4 still_step
  still_call ((cmp_is _ _ _ _ Hs).mono fun _ _ h => ⟨h.1, h.2.symm⟩)
  refine wpStill_nil ?_
  go_wp2_with fail
  refine (or_is w1.heap.size 2 r s v (w1.alloc (.cells #[.int .i64 r, .int .i64 s] 3)).drew h (cbe w1 #[.int .i64 r, .int .i64 s] 3 w1.heap.size 0 (.int .i64 r) rfl rfl) (cbe w1 #[.int .i64 r, .int .i64 s] 3 w1.heap.size 1 (.int .i64 s) rfl rfl)).mono ?_
  rintro e w2 ⟨rfl, rfl⟩
  go_wp2
  go_ret
  refine ⟨rfl, 1, #[.cells #[.int .i64 a, .int .i64 b] 23, .cells #[.int .i64 c, .int .i64 d] 23, .cells #[.int .i64 r, .int .i64 s] 3], ?_⟩
  rw [E.out, Sort.alloc_eq_grow, Sort.grow_grow]
  rfl

/-- The two cells of a point. -/
def encP (x : Int × Int) : List Value := [.int .i64 x.1, .int .i64 x.2]
theorem cmpI_neg' (x y : Int) : cmpI x y < 0 ↔ x < y := by unfold cmpI; split <;> (try split) <;> omega
theorem cmpI_zero' (x y : Int) : cmpI x y = 0 ↔ x = y := by unfold cmpI; split <;> (try split) <;> omega
theorem ltP (x y : Int × Int) : ltOf cmpP x y = decide (x.1 < y.1 ∨ (x.1 = y.1 ∧ x.2 < y.2)) := by
  unfold ltOf cmpP
  rw [decide_eq_decide]
  split
  · rename_i h
    rw [cmpI_zero'] at h
    rw [cmpI_neg']; omega
  · rename_i h
    rw [cmpI_zero'] at h
    rw [cmpI_neg']; omega
theorem swoP : Sort.SWO (ltOf cmpP) where
  irrefl x := by rw [ltP]; simp
  trans x y z h1 h2 := by rw [ltP] at h1 h2 ⊢; simp only [decide_eq_true_eq] at *; omega
  ntrans x y z h1 h2 := by rw [ltP] at h1 h2 ⊢; simp only [decide_eq_false_iff_not] at *; omega
theorem totP (x y : Int × Int) (h1 : ltOf cmpP x y = false) (h2 : ltOf cmpP y x = false) : x = y := by
  rw [ltP] at h1 h2; simp only [decide_eq_false_iff_not] at *
  exact Prod.ext (by omega) (by omega)
theorem compareLays (blk off size : Nat) (w : World) : CmpLays Tryz.prog 47 #[] encP 2 cmpP blk off size w :=
  fun _ _ _ _ x y => compare_is x.1 x.2 y.1 y.2 _ _ (Lib.hid rfl)
end Go.Proofs.YtalhkcmlacppjaaGreatDoor

