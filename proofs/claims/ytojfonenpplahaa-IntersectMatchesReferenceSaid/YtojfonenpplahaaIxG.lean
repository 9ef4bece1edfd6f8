/- Contract of package intersect: IsContact. Conditions: the slices read as the lists say; the coordinates are in range. -/
import Derived.Test.YtojfonenpplahaaIxF
import Derived.Test.YtojfonenpplahaaHw
import Derived.WalkMore
namespace Go.Proofs.Ytojfonenpplahaa
open Go.ChangeShapes Go.WideShapes Go.ChangeAt Go.RowKit
set_option linter.unusedVariables false
set_option linter.unusedSimpArgs false

theorem hasindex_bl (ao : Option Addr) (n cap : Nat) (i : Int) (t : Bool) (w : World) (hn : (n : Int) ≤ 9223372036854775807) (h : Hid (decide (0 ≤ i ∧ i < (n : Int)) = t)) :
    Calls Try.prog 63 #[.slice ao n cap, .int .i64 i] w fun e w' => e = .returned (.bool t) ∧ Below w.heap.size w w' :=
  (hasindex_is ao n cap i t w hn h).mono fun e w' ⟨h1, h2⟩ => ⟨h1, h2 ▸ Below.refl _ _⟩

set_option maxHeartbeats 8000000 in
theorem iscon_is (ao bo : Option Addr) (n m ca cb : Nat) (a b : List (Int × Int)) (k i j : Int) (t : Bool) (w : World) (hn : a.length = n) (hm : b.length = m) (ht : Hid (isConB a b k i j = t)) (h0 : 0 < n) (h0' : 0 < m) (hle : n ≤ 12) (hle' : m ≤ 12) (hA : PRow w ao a) (hB : PRow w bo b) (va : AllR2 a) (vb : AllR2 b) :
    Calls Try.prog 31 #[.slice ao n ca, .slice bo m cb, .agg #[.int .i64 k, .int .i64 i, .int .i64 j]] w fun e w' => e = .returned (.bool t) ∧ Below w.heap.size w w' := by
  subst hn hm
  have ht' := ht.out
  clear ht
  unfold isConB at ht'
  by_cases g1 : k = 1
  · subst g1
    rw [if_pos rfl] at ht'
    by_cases gi : 0 ≤ i ∧ i < (a.length : Int)
    · rw [decide_eq_true gi, Bool.true_and] at ht'
      have HI : Hid (decide (0 ≤ i ∧ i < (a.length : Int)) = true) := Lib.hid (decide_eq_true gi)
      by_cases gj : 0 ≤ j ∧ j < (b.length : Int)
      · rw [decide_eq_true gj, Bool.true_and] at ht'
        obtain ⟨i, rfl⟩ := Int.eq_ofNat_of_zero_le gi.1
        obtain ⟨j, rfl⟩ := Int.eq_ofNat_of_zero_le gj.1
        have hi : i < a.length := by omega
        have hj : j < b.length := by omega
        have HJ : Hid (decide (0 ≤ (j : Int) ∧ (j : Int) < (b.length : Int)) = true) := Lib.hid (decide_eq_true gj)
        rw [show ((i : Nat) : Int).toNat = i by omega, show ((j : Nat) : Int).toNat = j by omega] at ht'
        unfold eeB at ht'
        have E1 := fun w1 hb => edgeAt_is ao a.length ca i (i : Int) a w1 rfl rfl hi (by omega) hb
        have E2 := fun w1 hb => edgeAt_is bo b.length cb j (j : Int) b w1 rfl rfl hj (by omega) hb
        obtain ⟨i1, i2⟩ := va i hi
        obtain ⟨i3, i4⟩ := va _ (nx_lt' hi)
        obtain ⟨i5, i6⟩ := vb j hj
        obtain ⟨i7, i8⟩ := vb _ (nx_lt' hj)
        generalize cx a i = x1 at *
        generalize cy a i = x2 at *
        generalize cx a (nx a.length i) = y1 at *
        generalize cy a (nx a.length i) = y2 at *
        generalize cx b j = u1 at *
        generalize cy b j = u2 at *
        generalize cx b (nx b.length j) = v1 at *
        generalize cy b (nx b.length j) = v2 at *
        have HT := Lib.hid ht'
        clear ht' gi gj
        go_enter Try.func31, Try.ntmps31
        go_upto_region 3 with fail
        obtain ⟨wr, hwr⟩ : ∃ wr, w.alloc (.cells #[.int .i64 1, .int .i64 (i : Int), .int .i64 (j : Int)] 37) = wr := ⟨_, rfl⟩
        have hbx : wr.heap[w.heap.size]? = some (.cells #[.int .i64 1, .int .i64 (i : Int), .int .i64 (j : Int)] 37 (0, 0)) := by rw [← hwr]; exact blk_new _ _ _ rfl
        have hbw : Below w.heap.size w wr := by rw [← hwr]; exact belA (Below.refl _ _) _
        have hsz : w.heap.size < wr.heap.size := by rw [← hwr]; simp
        rw [hwr]
        clear hwr
        have zb : (⟨w.heap.size, 0, none⟩ : Addr).block < wr.heap.size := hsz
        have G0 := fun p => cell_blw (w := wr) (a := ⟨w.heap.size, 0, none⟩) hsz (blk_cell hbx 0 _ rfl) p
        have G1 := fun p => cell_blw (w := wr) (a := ⟨w.heap.size, 1, none⟩) hsz (blk_cell hbx 1 _ rfl) p
        have G2 := fun p => cell_blw (w := wr) (a := ⟨w.heap.size, 2, none⟩) hsz (blk_cell hbx 2 _ rfl) p
        have CI := Lib.hid (fun p : BlwBy wr => hasindex_bl ao a.length ca (i : Int) true p.x (by omega) HI)
        have CJ := Lib.hid (fun p : BlwBy wr => hasindex_bl bo b.length cb (j : Int) true p.x (by omega) HJ)
        have E1' := Lib.hid (fun p : BlwBy wr => E1 p.x (prow_below (prow_below hA hbw) p.hb))
        have E2' := Lib.hid (fun p : BlwBy wr => E2 p.x (prow_below (prow_below hB hbw) p.hb))
        have CM := Lib.hid (fun p : BlwBy wr => meets_is x1 x2 y1 y2 u1 u2 v1 v2 t p.x HT i1 i2 i3 i4 i5 i6 i7 i8)
        clear E1 E2 HI HJ HT
        refine wb_region mixedP (by kernel_rfl) ?_
        repeat (refine wq_step (fun K hK => ?_); go_simp; first | (refine hK _ ?_; clear hK K) | (apply Exists.intro; refine ⟨fun _ => ?_, hK _ ?_⟩; (first | (go_at_call 63; first | with_reducible refine Calls.blw_of (CI.out _) | with_reducible refine Calls.blw_of (CJ.out _)) | (go_at_call 64; first | with_reducible refine Calls.blw_of (E1'.out _) | with_reducible refine Calls.blw_of (E2'.out _)) | (go_at_call 61; refine Calls.blw_of (CM.out _))); clear hK K))
        refine wq_nil ?_
        intro _ hw'
        obtain ⟨pb, hw''⟩ := hw'
        subst hw''
        go_wp2
        go_ret
        exact ⟨rfl, hbw.trans (pb.hb.mono hbw.size)⟩
      · rw [decide_eq_false gj, Bool.false_and] at ht'
        subst ht'
        have HJ : Hid (decide (0 ≤ j ∧ j < (b.length : Int)) = false) := Lib.hid (decide_eq_false gj)
        clear gi gj
        go_enter Try.func31, Try.ntmps31
        go_upto_region 3 with fail
        obtain ⟨wr, hwr⟩ : ∃ wr, w.alloc (.cells #[.int .i64 1, .int .i64 i, .int .i64 j] 37) = wr := ⟨_, rfl⟩
        have hbx : wr.heap[w.heap.size]? = some (.cells #[.int .i64 1, .int .i64 i, .int .i64 j] 37 (0, 0)) := by rw [← hwr]; exact blk_new _ _ _ rfl
        have hbw : Below w.heap.size w wr := by rw [← hwr]; exact belA (Below.refl _ _) _
        have hsz : w.heap.size < wr.heap.size := by rw [← hwr]; simp
        rw [hwr]
        clear hwr
        have zb : (⟨w.heap.size, 0, none⟩ : Addr).block < wr.heap.size := hsz
        have G0 := fun p => cell_blw (w := wr) (a := ⟨w.heap.size, 0, none⟩) hsz (blk_cell hbx 0 _ rfl) p
        have G1 := fun p => cell_blw (w := wr) (a := ⟨w.heap.size, 1, none⟩) hsz (blk_cell hbx 1 _ rfl) p
        have G2 := fun p => cell_blw (w := wr) (a := ⟨w.heap.size, 2, none⟩) hsz (blk_cell hbx 2 _ rfl) p
        have CI := Lib.hid (fun p : BlwBy wr => hasindex_bl ao a.length ca i true p.x (by omega) HI)
        have CJ := Lib.hid (fun p : BlwBy wr => hasindex_bl bo b.length cb j false p.x (by omega) HJ)
        clear HI HJ
        refine wb_region mixedP (by kernel_rfl) ?_
        repeat (refine wq_step (fun K hK => ?_); go_simp; first | (refine hK _ ?_; clear hK K) | (apply Exists.intro; refine ⟨fun _ => ?_, hK _ ?_⟩; (first | (go_at_call 63; first | with_reducible refine Calls.blw_of (CI.out _) | with_reducible refine Calls.blw_of (CJ.out _))); clear hK K))
        refine wq_nil ?_
        intro _ hw'
        obtain ⟨pb, hw''⟩ := hw'
        subst hw''
        go_wp2
        go_ret
        exact ⟨rfl, hbw.trans (pb.hb.mono hbw.size)⟩
    · rw [decide_eq_false gi, Bool.false_and] at ht'
      subst ht'
      have HI : Hid (decide (0 ≤ i ∧ i < (a.length : Int)) = false) := Lib.hid (decide_eq_false gi)
      clear gi
      go_enter Try.func31, Try.ntmps31
      go_upto_region 3 with fail
      obtain ⟨wr, hwr⟩ : ∃ wr, w.alloc (.cells #[.int .i64 1, .int .i64 i, .int .i64 j] 37) = wr := ⟨_, rfl⟩
      have hbx : wr.heap[w.heap.size]? = some (.cells #[.int .i64 1, .int .i64 i, .int .i64 j] 37 (0, 0)) := by rw [← hwr]; exact blk_new _ _ _ rfl
      have hbw : Below w.heap.size w wr := by rw [← hwr]; exact belA (Below.refl _ _) _
      have hsz : w.heap.size < wr.heap.size := by rw [← hwr]; simp
      rw [hwr]
      clear hwr
      have zb : (⟨w.heap.size, 0, none⟩ : Addr).block < wr.heap.size := hsz
      have G0 := fun p => cell_blw (w := wr) (a := ⟨w.heap.size, 0, none⟩) hsz (blk_cell hbx 0 _ rfl) p
      have G1 := fun p => cell_blw (w := wr) (a := ⟨w.heap.size, 1, none⟩) hsz (blk_cell hbx 1 _ rfl) p
      have G2 := fun p => cell_blw (w := wr) (a := ⟨w.heap.size, 2, none⟩) hsz (blk_cell hbx 2 _ rfl) p
      have CI := Lib.hid (fun p : BlwBy wr => hasindex_bl ao a.length ca i false p.x (by omega) HI)
      clear HI
      refine wb_region mixedP (by kernel_rfl) ?_
      repeat (refine wq_step (fun K hK => ?_); go_simp; first | (refine hK _ ?_; clear hK K) | (apply Exists.intro; refine ⟨fun _ => ?_, hK _ ?_⟩; (go_at_call 63; refine Calls.blw_of (CI.out _)); clear hK K))
      refine wq_nil ?_
      intro _ hw'
      obtain ⟨pb, hw''⟩ := hw'
      subst hw''
      go_wp2
      go_ret
      exact ⟨rfl, hbw.trans (pb.hb.mono hbw.size)⟩
  · rw [if_neg g1] at ht'
    by_cases g2 : k = 2
    · subst g2
      rw [if_pos rfl] at ht'
      by_cases gz : j = 0
      · subst gz
        rw [decide_eq_true rfl, Bool.true_and] at ht'
        by_cases gi : 0 ≤ i ∧ i < (a.length : Int)
        · rw [decide_eq_true gi, Bool.true_and] at ht'
          obtain ⟨i', rfl⟩ := Int.eq_ofNat_of_zero_le gi.1
          have hi : i' < a.length := by omega
          have HI : Hid (decide (0 ≤ (i' : Int) ∧ (i' : Int) < (a.length : Int)) = true) := Lib.hid (decide_eq_true gi)
          rw [show ((i' : Nat) : Int).toNat = i' by omega] at ht'
          unfold inC at ht'
          obtain ⟨bb, oo, rfl, c1, c2⟩ := prow_at hA hi
          obtain ⟨i1, i2⟩ := va i' hi
          generalize cx a i' = p at *
          generalize cy a i' = q at *
          have d1 := cell_alloc c1 (.cells #[.int .i64 2, .int .i64 (i' : Int), .int .i64 0] 37)
          have d2 := cell_alloc c2 (.cells #[.int .i64 2, .int .i64 (i' : Int), .int .i64 0] 37)
          have hii : (i' : Int) < a.length := by omega
          have HT := Lib.hid ht'
          clear ht' gi c1 c2 g1
          go_enter Try.func31, Try.ntmps31
          go_wp2_with (first | (go_at_call 63; refine (hasindex_is _ a.length ca (i' : Int) true _ (by omega) HI).mono ?_; rintro e w1 ⟨rfl, rfl⟩) | (go_at_call 67; refine (contains_is bo b.length cb b p q t _ rfl HT (by omega) (by omega) (prow_alloc hB _) vb i1 i2).mono ?_; rintro e w1 ⟨rfl, hb1⟩))
          go_ret
          exact ⟨rfl, belT (belA (Below.refl _ _) _) hb1⟩
        · rw [decide_eq_false gi, Bool.false_and] at ht'
          subst ht'
          have HI : Hid (decide (0 ≤ i ∧ i < (a.length : Int)) = false) := Lib.hid (decide_eq_false gi)
          clear gi g1
          go_enter Try.func31, Try.ntmps31
          go_wp2_with (go_at_call 63; refine (hasindex_is ao a.length ca i false _ (by omega) HI).mono ?_; rintro e w1 ⟨rfl, rfl⟩)
          go_ret
          exact ⟨rfl, belA (Below.refl _ _) _⟩
      · rw [decide_eq_false gz, Bool.false_and] at ht'
        subst ht'
        clear g1
        go_enter Try.func31, Try.ntmps31
        go_wp2
        go_ret
        exact ⟨rfl, belA (Below.refl _ _) _⟩
    · rw [if_neg g2] at ht'
      by_cases g3 : k = 3
      · subst g3
        rw [if_pos rfl] at ht'
        by_cases gz : i = 0
        · subst gz
          rw [decide_eq_true rfl, Bool.true_and] at ht'
          by_cases gi : 0 ≤ j ∧ j < (b.length : Int)
          · rw [decide_eq_true gi, Bool.true_and] at ht'
            obtain ⟨i', rfl⟩ := Int.eq_ofNat_of_zero_le gi.1
            have hi : i' < b.length := by omega
            have HI : Hid (decide (0 ≤ (i' : Int) ∧ (i' : Int) < (b.length : Int)) = true) := Lib.hid (decide_eq_true gi)
            rw [show ((i' : Nat) : Int).toNat = i' by omega] at ht'
            unfold inC at ht'
            obtain ⟨bb, oo, rfl, c1, c2⟩ := prow_at hB hi
            obtain ⟨i1, i2⟩ := vb i' hi
            generalize cx b i' = p at *
            generalize cy b i' = q at *
            have d1 := cell_alloc c1 (.cells #[.int .i64 3, .int .i64 0, .int .i64 (i' : Int)] 37)
            have d2 := cell_alloc c2 (.cells #[.int .i64 3, .int .i64 0, .int .i64 (i' : Int)] 37)
            have hii : (i' : Int) < b.length := by omega
            have HT := Lib.hid ht'
            clear ht' gi c1 c2 g1 g2
            go_enter Try.func31, Try.ntmps31
            go_wp2_with (first | (go_at_call 63; refine (hasindex_is _ b.length cb (i' : Int) true _ (by omega) HI).mono ?_; rintro e w1 ⟨rfl, rfl⟩) | (go_at_call 67; refine (contains_is ao a.length ca a p q t _ rfl HT (by omega) (by omega) (prow_alloc hA _) va i1 i2).mono ?_; rintro e w1 ⟨rfl, hb1⟩))
            go_ret
            exact ⟨rfl, belT (belA (Below.refl _ _) _) hb1⟩
          · rw [decide_eq_false gi, Bool.false_and] at ht'
            subst ht'
            have HI : Hid (decide (0 ≤ j ∧ j < (b.length : Int)) = false) := Lib.hid (decide_eq_false gi)
            clear gi g1 g2
            go_enter Try.func31, Try.ntmps31
            go_wp2_with (go_at_call 63; refine (hasindex_is bo b.length cb j false _ (by omega) HI).mono ?_; rintro e w1 ⟨rfl, rfl⟩)
            go_ret
            exact ⟨rfl, belA (Below.refl _ _) _⟩
        · rw [decide_eq_false gz, Bool.false_and] at ht'
          subst ht'
          clear g1 g2
          go_enter Try.func31, Try.ntmps31
          go_wp2
          go_ret
          exact ⟨rfl, belA (Below.refl _ _) _⟩
      · rw [if_neg g3] at ht'
        subst ht'
        go_enter Try.func31, Try.ntmps31
        go_wp2
        go_ret
        exact ⟨rfl, belA (Below.refl _ _) _⟩
end Go.Proofs.Ytojfonenpplahaa
