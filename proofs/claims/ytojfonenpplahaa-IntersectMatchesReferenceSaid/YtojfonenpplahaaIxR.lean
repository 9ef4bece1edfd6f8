/- Contract of the reference of layer 5: Shows. Conditions: the slices read as the lists say; the coordinates are bounded as a valid polygon's. -/
import Derived.Test.YtojfonenpplahaaIxQ
import Derived.Test.YtojfonenpplahaaIxG
namespace Go.Proofs.Ytojfonenpplahaa
open Go.ChangeShapes Go.WideShapes Go.ChangeAt Go.RowKit
set_option linter.unusedVariables false
set_option linter.unusedSimpArgs false

theorem rcut_is (a b c d p q r s : Int) (t : Bool) (w : World) (ka : InV a) (kb : InV b) (kc : InV c) (kd : InV d) (kp : InV p) (kq : InV q) (kr : InV r) (ks : InV s) (h : Hid (segB a b c d p q r s = t)) :
    Calls Try.prog 68 #[.agg #[.int .i64 a, .int .i64 b], .agg #[.int .i64 c, .int .i64 d], .agg #[.int .i64 p, .int .i64 q], .agg #[.int .i64 r, .int .i64 s]] w fun e w' => e = .returned (.bool t) ∧ Below w.heap.size w w' := by
  have := rcut_any a b c d p q r s w ka.iny kb.iny kc.iny kd.iny kp.iny kq.iny kr.iny ks.iny
  rwa [h.out] at this

set_option maxRecDepth 100000 in
set_option maxHeartbeats 16000000 in
theorem shows_is (ao bo : Option Addr) (n m ca cb : Nat) (a b : List (Int × Int)) (k i j : Int) (t : Bool) (w : World) (hn : a.length = n) (hm : b.length = m) (ht : Hid (isConB a b k i j = t)) (hle : n ≤ 12) (hle' : m ≤ 12) (hA : PRow w ao a) (hB : PRow w bo b) (va : AllV a) (vb : AllV b) :
    Calls Try.prog 32 #[.slice ao n ca, .slice bo m cb, .agg #[.int .i64 k, .int .i64 i, .int .i64 j]] w fun e w' => e = .returned (.bool t) ∧ Below w.heap.size w w' := by
  subst hn hm
  have PA := Lib.hid hA
  have PB := Lib.hid hB
  have VA := Lib.hid va
  have VB := Lib.hid vb
  clear hA hB va vb
  have ht' := ht.out
  clear ht
  unfold isConB at ht'
  by_cases g1 : k = 1
  · subst g1
    rw [if_pos rfl] at ht'
    by_cases r1 : 0 ≤ i
    · by_cases r2 : i < (a.length : Int)
      · by_cases r3 : 0 ≤ j
        · by_cases r4 : j < (b.length : Int)
          · rw [decide_eq_true ⟨r1, r2⟩, decide_eq_true ⟨r3, r4⟩, Bool.true_and, Bool.true_and] at ht'
            obtain ⟨i, rfl⟩ := Int.eq_ofNat_of_zero_le r1
            obtain ⟨j, rfl⟩ := Int.eq_ofNat_of_zero_le r3
            have hi : i < a.length := by omega
            have hj : j < b.length := by omega
            rw [show ((i : Nat) : Int).toNat = i by omega, show ((j : Nat) : Int).toNat = j by omega] at ht'
            unfold eeB at ht'
            obtain ⟨i', hi'⟩ : ∃ j, nx a.length i = j := ⟨_, rfl⟩
            obtain ⟨j', hj'⟩ : ∃ x, nx b.length j = x := ⟨_, rfl⟩
            have hil : i' < a.length := by rw [← hi']; exact nx_lt' hi
            have hjl : j' < b.length := by rw [← hj']; exact nx_lt' hj
            have hiil : (i' : Int) < a.length := by omega
            have hjjl : (j' : Int) < b.length := by omega
            rw [hi', hj'] at ht'
            have J1 : Hid ((i + 1) % a.length = i') := Lib.hid hi'
            have J2 : Hid ((j + 1) % b.length = j') := Lib.hid hj'
            obtain ⟨g, g0, rfl, c1, c2⟩ := prow_at PA.out hi
            obtain ⟨b', b0', ho', c3, c4⟩ := prow_at PA.out hil
            obtain ⟨rfl, rfl⟩ : g = b' ∧ g0 = b0' := by simpa using ho'
            clear ho'
            obtain ⟨h, h0, rfl, c5, c6⟩ := prow_at PB.out hj
            obtain ⟨b', b0', ho', c7, c8⟩ := prow_at PB.out hjl
            obtain ⟨rfl, rfl⟩ : h = b' ∧ h0 = b0' := by simpa using ho'
            clear ho'
            obtain ⟨i1, i2⟩ := VA.out i hi
            obtain ⟨i3, i4⟩ := VA.out i' hil
            obtain ⟨i5, i6⟩ := VB.out j hj
            obtain ⟨i7, i8⟩ := VB.out j' hjl
            generalize cx a i = x1 at *
            generalize cy a i = x2 at *
            generalize cx a i' = y1 at *
            generalize cy a i' = y2 at *
            generalize cx b j = u1 at *
            generalize cy b j = u2 at *
            generalize cx b j' = v1 at *
            generalize cy b j' = v2 at *
            have HT := Lib.hid ht'
            have CC := Lib.hid (And.intro c1 (And.intro c2 (And.intro c3 (And.intro c4 (And.intro c5 (And.intro c6 (And.intro c7 c8)))))))
            clear ht' hi' hj' c1 c2 c3 c4 c5 c6 c7 c8 PA PB VA VB
            go_enter Try.func32, Try.ntmps32
            go_upto_region 3 with fail
            obtain ⟨wr, hwr⟩ : ∃ wr, w.alloc (.cells #[.int .i64 1, .int .i64 (i : Int), .int .i64 (j : Int)] 37) = wr := ⟨_, rfl⟩
            have hbx : wr.heap[w.heap.size]? = some (.cells #[.int .i64 1, .int .i64 (i : Int), .int .i64 (j : Int)] 37 (0, 0)) := by rw [← hwr]; exact blk_new _ _ _ rfl
            have hbw : Below w.heap.size w wr := by rw [← hwr]; exact belA (Below.refl _ _) _
            have hsz : w.heap.size < wr.heap.size := by rw [← hwr]; simp
            rw [hwr]
            clear hwr
            have zb : (⟨w.heap.size, 0, none⟩ : Addr).block < wr.heap.size := hsz
            have G0 := fun p => cell_blw (w := wr) (a := ⟨w.heap.size, 0, none⟩) hsz (blk_cell hbx 0 _ rfl) p
            have G1 := fun p => cell_blw (w := wr) (a := ⟨w.heap.size, 1, none⟩) hsz (blk_cell hbx 1 _ rfl) p
            have G2 := fun p => cell_blw (w := wr) (a := ⟨w.heap.size, 2, none⟩) hsz (blk_cell hbx 2 _ rfl) p
            obtain ⟨c1, c2, c3, c4, c5, c6, c7, c8⟩ := CC.out
            have d1 := (hbw.cell (World.block_lt_of_cell? w _ c1)).trans c1
            have z1 : g < wr.heap.size := World.block_lt_of_cell? wr ⟨g, g0 + i * 2, none⟩ d1
            have d5 := (hbw.cell (World.block_lt_of_cell? w _ c5)).trans c5
            have z2 : h < wr.heap.size := World.block_lt_of_cell? wr ⟨h, h0 + j * 2, none⟩ d5
            have K1 := fun p => cell_blw (w := wr) (a := ⟨g, g0 + i * 2, none⟩) z1 ((hbw.cell (World.block_lt_of_cell? w _ c1)).trans c1) p
            have K2 := fun p => cell_blw (w := wr) (a := ⟨g, g0 + i * 2 + 1, none⟩) z1 ((hbw.cell (World.block_lt_of_cell? w _ c2)).trans c2) p
            have K3 := fun p => cell_blw (w := wr) (a := ⟨g, g0 + i' * 2, none⟩) z1 ((hbw.cell (World.block_lt_of_cell? w _ c3)).trans c3) p
            have K4 := fun p => cell_blw (w := wr) (a := ⟨g, g0 + i' * 2 + 1, none⟩) z1 ((hbw.cell (World.block_lt_of_cell? w _ c4)).trans c4) p
            have K5 := fun p => cell_blw (w := wr) (a := ⟨h, h0 + j * 2, none⟩) z2 ((hbw.cell (World.block_lt_of_cell? w _ c5)).trans c5) p
            have K6 := fun p => cell_blw (w := wr) (a := ⟨h, h0 + j * 2 + 1, none⟩) z2 ((hbw.cell (World.block_lt_of_cell? w _ c6)).trans c6) p
            have K7 := fun p => cell_blw (w := wr) (a := ⟨h, h0 + j' * 2, none⟩) z2 ((hbw.cell (World.block_lt_of_cell? w _ c7)).trans c7) p
            have K8 := fun p => cell_blw (w := wr) (a := ⟨h, h0 + j' * 2 + 1, none⟩) z2 ((hbw.cell (World.block_lt_of_cell? w _ c8)).trans c8) p
            clear c1 c2 c3 c4 c5 c6 c7 c8 d1 d5 CC
            have CN1 := Lib.hid (fun p : BlwBy wr => rnext_is (some ⟨g, g0, none⟩) a.length ca i i' p.x (by omega) (by omega) (by omega) J1)
            have CN2 := Lib.hid (fun p : BlwBy wr => rnext_is (some ⟨h, h0, none⟩) b.length cb j j' p.x (by omega) (by omega) (by omega) J2)
            have CM := Lib.hid (fun p : BlwBy wr => rcut_is x1 x2 y1 y2 u1 u2 v1 v2 t p.x i1 i2 i3 i4 i5 i6 i7 i8 HT)
            clear i1 i2 i3 i4 i5 i6 i7 i8 J1 J2 HT
            have e1 : decide (0 ≤ (i : Int)) = true := decide_eq_true (by omega)
            have e2 : decide ((i : Int) < (a.length : Int)) = true := decide_eq_true (by omega)
            have e3 : decide (0 ≤ (j : Int)) = true := decide_eq_true (by omega)
            have e4 : decide ((j : Int) < (b.length : Int)) = true := decide_eq_true (by omega)
            refine wb_region mixedP (by kernel_rfl) ?_
            repeat (refine wq_step (fun K hK => ?_); go_simp; first | (refine hK _ ?_; clear hK K) | (apply Exists.intro; refine ⟨fun _ => ?_, hK _ ?_⟩; (first | (go_at_call 69; first | with_reducible refine Calls.blw_of (CN1.out _) | with_reducible refine Calls.blw_of (CN2.out _)) | (go_at_call 68; refine Calls.blw_of (CM.out _))); clear hK K))
            refine wq_nil ?_
            intro _ hw'
            obtain ⟨pb, hw''⟩ := hw'
            subst hw''
            go_wp2
            go_ret
            exact ⟨rfl, hbw.trans (pb.hb.mono hbw.size)⟩
          · have ht2 : t = false := by rw [← ht']; rw [decide_eq_false (p := 0 ≤ j ∧ j < (b.length : Int)) (fun h => r4 h.2)]; simp
            subst ht2
            clear ht'
            have e1 : decide (0 ≤ i) = true := decide_eq_true (by omega)
            have e2 : decide (i < (a.length : Int)) = true := decide_eq_true (by omega)
            have e3 : decide (0 ≤ j) = true := decide_eq_true (by omega)
            have e4 : decide (j < (b.length : Int)) = false := decide_eq_false (by omega)
            go_enter Try.func32, Try.ntmps32
            go_upto_region 3 with fail
            obtain ⟨wr, hwr⟩ : ∃ wr, w.alloc (.cells #[.int .i64 1, .int .i64 i, .int .i64 j] 37) = wr := ⟨_, rfl⟩
            have hbx : wr.heap[w.heap.size]? = some (.cells #[.int .i64 1, .int .i64 i, .int .i64 j] 37 (0, 0)) := by rw [← hwr]; exact blk_new _ _ _ rfl
            have hbw : Below w.heap.size w wr := by rw [← hwr]; exact belA (Below.refl _ _) _
            have hsz : w.heap.size < wr.heap.size := by rw [← hwr]; simp
            rw [hwr]
            clear hwr
            have zb : (⟨w.heap.size, 0, none⟩ : Addr).block < wr.heap.size := hsz
            have G0 := fun p => cell_blw (w := wr) (a := ⟨w.heap.size, 0, none⟩) hsz (blk_cell hbx 0 _ rfl) p
            have G1 := fun p => cell_blw (w := wr) (a := ⟨w.heap.size, 1, none⟩) hsz (blk_cell hbx 1 _ rfl) p
            have G2 := fun p => cell_blw (w := wr) (a := ⟨w.heap.size, 2, none⟩) hsz (blk_cell hbx 2 _ rfl) p
            refine wb_region mixedP (by kernel_rfl) ?_
            repeat (refine wq_step (fun K hK => ?_); go_simp; first | (refine hK _ ?_; clear hK K) | (apply Exists.intro; refine ⟨fun _ => ?_, hK _ ?_⟩; (fail); clear hK K))
            refine wq_nil ?_
            intro _ hw'
            obtain ⟨pb, hw''⟩ := hw'
            subst hw''
            go_wp2
            go_ret
            exact ⟨rfl, hbw.trans (pb.hb.mono hbw.size)⟩
        · have ht2 : t = false := by rw [← ht']; rw [decide_eq_false (p := 0 ≤ j ∧ j < (b.length : Int)) (fun h => r3 h.1)]; simp
          subst ht2
          clear ht'
          have e1 : decide (0 ≤ i) = true := decide_eq_true (by omega)
          have e2 : decide (i < (a.length : Int)) = true := decide_eq_true (by omega)
          have e3 : decide (0 ≤ j) = false := decide_eq_false (by omega)
          go_enter Try.func32, Try.ntmps32
          go_upto_region 3 with fail
          obtain ⟨wr, hwr⟩ : ∃ wr, w.alloc (.cells #[.int .i64 1, .int .i64 i, .int .i64 j] 37) = wr := ⟨_, rfl⟩
          have hbx : wr.heap[w.heap.size]? = some (.cells #[.int .i64 1, .int .i64 i, .int .i64 j] 37 (0, 0)) := by rw [← hwr]; exact blk_new _ _ _ rfl
          have hbw : Below w.heap.size w wr := by rw [← hwr]; exact belA (Below.refl _ _) _
          have hsz : w.heap.size < wr.heap.size := by rw [← hwr]; simp
          rw [hwr]
          clear hwr
          have zb : (⟨w.heap.size, 0, none⟩ : Addr).block < wr.heap.size := hsz
          have G0 := fun p => cell_blw (w := wr) (a := ⟨w.heap.size, 0, none⟩) hsz (blk_cell hbx 0 _ rfl) p
          have G1 := fun p => cell_blw (w := wr) (a := ⟨w.heap.size, 1, none⟩) hsz (blk_cell hbx 1 _ rfl) p
          have G2 := fun p => cell_blw (w := wr) (a := ⟨w.heap.size, 2, none⟩) hsz (blk_cell hbx 2 _ rfl) p
          refine wb_region mixedP (by kernel_rfl) ?_
          repeat (refine wq_step (fun K hK => ?_); go_simp; first | (refine hK _ ?_; clear hK K) | (apply Exists.intro; refine ⟨fun _ => ?_, hK _ ?_⟩; (fail); clear hK K))
          refine wq_nil ?_
          intro _ hw'
          obtain ⟨pb, hw''⟩ := hw'
          subst hw''
          go_wp2
          go_ret
          exact ⟨rfl, hbw.trans (pb.hb.mono hbw.size)⟩
      · have ht2 : t = false := by rw [← ht']; rw [decide_eq_false (p := 0 ≤ i ∧ i < (a.length : Int)) (fun h => r2 h.2)]; simp
        subst ht2
        clear ht'
        have e1 : decide (0 ≤ i) = true := decide_eq_true (by omega)
        have e2 : decide (i < (a.length : Int)) = false := decide_eq_false (by omega)
        go_enter Try.func32, Try.ntmps32
        go_upto_region 3 with fail
        obtain ⟨wr, hwr⟩ : ∃ wr, w.alloc (.cells #[.int .i64 1, .int .i64 i, .int .i64 j] 37) = wr := ⟨_, rfl⟩
        have hbx : wr.heap[w.heap.size]? = some (.cells #[.int .i64 1, .int .i64 i, .int .i64 j] 37 (0, 0)) := by rw [← hwr]; exact blk_new _ _ _ rfl
        have hbw : Below w.heap.size w wr := by rw [← hwr]; exact belA (Below.refl _ _) _
        have hsz : w.heap.size < wr.heap.size := by rw [← hwr]; simp
        rw [hwr]
        clear hwr
        have zb : (⟨w.heap.size, 0, none⟩ : Addr).block < wr.heap.size := hsz
        have G0 := fun p => cell_blw (w := wr) (a := ⟨w.heap.size, 0, none⟩) hsz (blk_cell hbx 0 _ rfl) p
        have G1 := fun p => cell_blw (w := wr) (a := ⟨w.heap.size, 1, none⟩) hsz (blk_cell hbx 1 _ rfl) p
        have G2 := fun p => cell_blw (w := wr) (a := ⟨w.heap.size, 2, none⟩) hsz (blk_cell hbx 2 _ rfl) p
        refine wb_region mixedP (by kernel_rfl) ?_
        repeat (refine wq_step (fun K hK => ?_); go_simp; first | (refine hK _ ?_; clear hK K) | (apply Exists.intro; refine ⟨fun _ => ?_, hK _ ?_⟩; (fail); clear hK K))
        refine wq_nil ?_
        intro _ hw'
        obtain ⟨pb, hw''⟩ := hw'
        subst hw''
        go_wp2
        go_ret
        exact ⟨rfl, hbw.trans (pb.hb.mono hbw.size)⟩
    · have ht2 : t = false := by rw [← ht']; rw [decide_eq_false (p := 0 ≤ i ∧ i < (a.length : Int)) (fun h => r1 h.1)]; simp
      subst ht2
      clear ht'
      have e1 : decide (0 ≤ i) = false := decide_eq_false (by omega)
      go_enter Try.func32, Try.ntmps32
      go_upto_region 3 with fail
      obtain ⟨wr, hwr⟩ : ∃ wr, w.alloc (.cells #[.int .i64 1, .int .i64 i, .int .i64 j] 37) = wr := ⟨_, rfl⟩
      have hbx : wr.heap[w.heap.size]? = some (.cells #[.int .i64 1, .int .i64 i, .int .i64 j] 37 (0, 0)) := by rw [← hwr]; exact blk_new _ _ _ rfl
      have hbw : Below w.heap.size w wr := by rw [← hwr]; exact belA (Below.refl _ _) _
      have hsz : w.heap.size < wr.heap.size := by rw [← hwr]; simp
      rw [hwr]
      clear hwr
      have zb : (⟨w.heap.size, 0, none⟩ : Addr).block < wr.heap.size := hsz
      have G0 := fun p => cell_blw (w := wr) (a := ⟨w.heap.size, 0, none⟩) hsz (blk_cell hbx 0 _ rfl) p
      have G1 := fun p => cell_blw (w := wr) (a := ⟨w.heap.size, 1, none⟩) hsz (blk_cell hbx 1 _ rfl) p
      have G2 := fun p => cell_blw (w := wr) (a := ⟨w.heap.size, 2, none⟩) hsz (blk_cell hbx 2 _ rfl) p
      refine wb_region mixedP (by kernel_rfl) ?_
      repeat (refine wq_step (fun K hK => ?_); go_simp; first | (refine hK _ ?_; clear hK K) | (apply Exists.intro; refine ⟨fun _ => ?_, hK _ ?_⟩; (fail); clear hK K))
      refine wq_nil ?_
      intro _ hw'
      obtain ⟨pb, hw''⟩ := hw'
      subst hw''
      go_wp2
      go_ret
      exact ⟨rfl, hbw.trans (pb.hb.mono hbw.size)⟩
  · rw [if_neg g1] at ht'
    have gb1 : (k == 1) = false := by rw [beq_eq_false_iff_ne]; exact g1
    by_cases g2 : k = 2
    · subst g2
      rw [if_pos rfl] at ht'
      clear g1 gb1
      by_cases r1 : 0 ≤ i
      · by_cases r2 : i < (a.length : Int)
        · by_cases gz : j = 0
          · subst gz
            rw [decide_eq_true rfl, Bool.true_and, decide_eq_true ⟨r1, r2⟩, Bool.true_and] at ht'
            obtain ⟨i', rfl⟩ := Int.eq_ofNat_of_zero_le r1
            have hi : i' < a.length := by omega
            rw [show ((i' : Nat) : Int).toNat = i' by omega] at ht'
            unfold inC at ht'
            obtain ⟨g, g0, rfl, c1, c2⟩ := prow_at PA.out hi
            obtain ⟨i1, i2⟩ := VA.out i' hi
            generalize cx a i' = p at *
            generalize cy a i' = q at *
            obtain ⟨v, hv⟩ : ∃ v, locE b p q = v := ⟨_, rfl⟩
            rw [hv] at ht'
            have HV := Lib.hid hv
            have d1 := cell_alloc c1 (.cells #[.int .i64 2, .int .i64 (i' : Int), .int .i64 0] 37)
            have d2 := cell_alloc c2 (.cells #[.int .i64 2, .int .i64 (i' : Int), .int .i64 0] 37)
            have z1 : g < (w.alloc (.cells #[.int .i64 2, .int .i64 (i' : Int), .int .i64 0] 37)).heap.size := World.block_lt_of_cell? _ ⟨g, g0 + i' * 2, none⟩ d1
            have hii : (i' : Int) < a.length := by omega
            have HT := Lib.hid ht'
            clear ht' c1 c2 hv
            go_enter Try.func32, Try.ntmps32
            go_wp2_with (go_at_call 70; refine (vhas_is bo b.length cb p q b v _ rfl HV hle' (prow_alloc PB.out _) VB.out i1 i2).mono ?_; rintro e w1 ⟨rfl, hb1⟩)
            go_ret
            exact ⟨by first | exact ret_bool HT.out | rw [← HT.out], belT (belA (Below.refl _ _) _) hb1⟩
          · have ht2 : t = false := by rw [← ht']; rw [decide_eq_false gz]; rfl
            subst ht2
            clear ht'
            have gz0 : (j == 0) = false := by rw [beq_eq_false_iff_ne]; exact gz
            go_enter Try.func32, Try.ntmps32
            go_wp2_with fail
            go_ret
            exact ⟨rfl, belA (Below.refl _ _) _⟩
        · have ht2 : t = false := by rw [← ht']; rw [decide_eq_false (p := 0 ≤ i ∧ i < (a.length : Int)) (fun h => r2 h.2)]; simp
          subst ht2
          clear ht'
          go_enter Try.func32, Try.ntmps32
          go_wp2_with fail
          go_ret
          exact ⟨rfl, belA (Below.refl _ _) _⟩
      · have ht2 : t = false := by rw [← ht']; rw [decide_eq_false (p := 0 ≤ i ∧ i < (a.length : Int)) (fun h => r1 h.1)]; simp
        subst ht2
        clear ht'
        go_enter Try.func32, Try.ntmps32
        go_wp2_with fail
        go_ret
        exact ⟨rfl, belA (Below.refl _ _) _⟩
    · rw [if_neg g2] at ht'
      have gb2 : (k == 2) = false := by rw [beq_eq_false_iff_ne]; exact g2
      by_cases g3 : k = 3
      · subst g3
        rw [if_pos rfl] at ht'
        clear g1 gb1 g2 gb2
        by_cases r1 : 0 ≤ j
        · by_cases r2 : j < (b.length : Int)
          · by_cases gz : i = 0
            · subst gz
              rw [decide_eq_true rfl, Bool.true_and, decide_eq_true ⟨r1, r2⟩, Bool.true_and] at ht'
              obtain ⟨i', rfl⟩ := Int.eq_ofNat_of_zero_le r1
              have hi : i' < b.length := by omega
              rw [show ((i' : Nat) : Int).toNat = i' by omega] at ht'
              unfold inC at ht'
              obtain ⟨g, g0, rfl, c1, c2⟩ := prow_at PB.out hi
              obtain ⟨i1, i2⟩ := VB.out i' hi
              generalize cx b i' = p at *
              generalize cy b i' = q at *
              obtain ⟨v, hv⟩ : ∃ v, locE a p q = v := ⟨_, rfl⟩
              rw [hv] at ht'
              have HV := Lib.hid hv
              have d1 := cell_alloc c1 (.cells #[.int .i64 3, .int .i64 0, .int .i64 (i' : Int)] 37)
              have d2 := cell_alloc c2 (.cells #[.int .i64 3, .int .i64 0, .int .i64 (i' : Int)] 37)
              have z1 : g < (w.alloc (.cells #[.int .i64 3, .int .i64 0, .int .i64 (i' : Int)] 37)).heap.size := World.block_lt_of_cell? _ ⟨g, g0 + i' * 2, none⟩ d1
              have hii : (i' : Int) < b.length := by omega
              have HT := Lib.hid ht'
              clear ht' c1 c2 hv
              go_enter Try.func32, Try.ntmps32
              go_wp2_with (go_at_call 70; refine (vhas_is ao a.length ca p q a v _ rfl HV hle (prow_alloc PA.out _) VA.out i1 i2).mono ?_; rintro e w1 ⟨rfl, hb1⟩)
              go_ret
              exact ⟨by first | exact ret_bool HT.out | rw [← HT.out], belT (belA (Below.refl _ _) _) hb1⟩
            · have ht2 : t = false := by rw [← ht']; rw [decide_eq_false gz]; rfl
              subst ht2
              clear ht'
              have gz0 : (i == 0) = false := by rw [beq_eq_false_iff_ne]; exact gz
              go_enter Try.func32, Try.ntmps32
              go_wp2_with fail
              go_ret
              exact ⟨rfl, belA (Below.refl _ _) _⟩
          · have ht2 : t = false := by rw [← ht']; rw [decide_eq_false (p := 0 ≤ j ∧ j < (b.length : Int)) (fun h => r2 h.2)]; simp
            subst ht2
            clear ht'
            go_enter Try.func32, Try.ntmps32
            go_wp2_with fail
            go_ret
            exact ⟨rfl, belA (Below.refl _ _) _⟩
        · have ht2 : t = false := by rw [← ht']; rw [decide_eq_false (p := 0 ≤ j ∧ j < (b.length : Int)) (fun h => r1 h.1)]; simp
          subst ht2
          clear ht'
          go_enter Try.func32, Try.ntmps32
          go_wp2_with fail
          go_ret
          exact ⟨rfl, belA (Below.refl _ _) _⟩
      · rw [if_neg g3] at ht'
        have gb3 : (k == 3) = false := by rw [beq_eq_false_iff_ne]; exact g3
        subst ht'
        go_enter Try.func32, Try.ntmps32
        go_wp2_with fail
        go_ret
        exact ⟨rfl, belA (Below.refl _ _) _⟩
end Go.Proofs.Ytojfonenpplahaa
