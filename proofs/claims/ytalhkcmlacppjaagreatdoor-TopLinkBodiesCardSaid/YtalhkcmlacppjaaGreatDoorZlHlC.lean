/- Helpers: what the law reaches. -/
import Derived.Test.YtalhkcmlacppjaaGreatDoorZlHlB
import Derived.Test.YtalhkcmlacppjaaGreatDoorZlHuC
namespace Go.Proofs.YtalhkcmlacppjaaGreatDoor
open Go.ChangeShapes Go.WideShapes Go.ChangeAt Go.RowKit
set_option linter.unusedVariables false
set_option linter.unusedSimpArgs false

def leftB (ps : List (Int × Int)) (i k : Nat) : Bool := k == i || (k == nx ps.length i || decide (0 < dt (gp ps i) (gp ps (nx ps.length i)) (gp ps k)))
def othersB (ps : List (Int × Int)) (i : Nat) : Bool := (List.range ps.length).all (leftB ps i)
def convB (ps : List (Int × Int)) : Bool := decide (3 ≤ ps.length) && (List.range ps.length).all (othersB ps)
theorem leftB_iff (ps : List (Int × Int)) (i k : Nat) : leftB ps i k = true ↔ (k ≠ i → k ≠ nx ps.length i → 0 < dt (gp ps i) (gp ps (nx ps.length i)) (gp ps k)) := by
  unfold leftB
  rw [Bool.or_eq_true, Bool.or_eq_true, beq_iff_eq, beq_iff_eq, decide_eq_true_eq]
  constructor
  · rintro (h | h | h) a b
    · exact absurd h a
    · exact absurd h b
    · exact h
  · intro h
    by_cases a : k = i
    · exact .inl a
    · by_cases b : k = nx ps.length i
      · exact .inr (.inl b)
      · exact .inr (.inr (h a b))
theorem convB_iff (ps : List (Int × Int)) : convB ps = true ↔ Conv ps := by
  unfold convB Conv othersB
  rw [Bool.and_eq_true, decide_eq_true_eq, List.all_eq_true]
  constructor
  · rintro ⟨h, g⟩
    refine ⟨h, fun i j hi hj h1 h2 => ?_⟩
    have := List.all_eq_true.1 (g i (List.mem_range.2 hi)) j (List.mem_range.2 hj)
    exact (leftB_iff ps i j).1 this h1 h2
  · rintro ⟨h, g⟩
    exact ⟨h, fun i hi => List.all_eq_true.2 fun j hj => (leftB_iff ps i j).2 (g i j (List.mem_range.1 hi) (List.mem_range.1 hj))⟩
set_option maxHeartbeats 4000000 in
theorem others_is (ao : Option Addr) (n cap i : Nat) (ps : List (Int × Int)) (t : Bool) (w : World) (hn : ps.length = n) (ht : Hid (othersB ps i = t)) (hi : i < n) (hle : n ≤ 1000000) (hP : PRow w ao ps) (hV : AllV ps) :
    Calls Tryz.prog 40 #[.slice ao n cap, .int .i64 (i : Int)] w fun e w' => e = .returned (.bool t) ∧ Below w.heap.size w w' := by
  subst hn
  obtain ⟨j, hj⟩ : ∃ j, nx ps.length i = j := ⟨_, rfl⟩
  have hjl : j < ps.length := by rw [← hj]; exact nx_lt (by omega)
  have Hj : Hid ((i + 1) % ps.length = j) := Lib.hid hj
  obtain ⟨b, o, rfl, c1, c2⟩ := prow_at hP hi
  obtain ⟨b', o', ho', c3, c4⟩ := prow_at hP hjl
  obtain ⟨rfl, rfl⟩ : b = b' ∧ o = o' := by simpa using ho'
  have V1 := hV i hi
  have V2 := hV j hjl
  have hT : ∀ k, k < ps.length → leftB ps i k = false → t = false := fun k hk hf => by
    rw [← ht.out]
    unfold othersB
    rw [List.all_eq_false]
    exact ⟨k, List.mem_range.2 hk, by rw [hf]; decide⟩
  have hY : (∀ k, k < ps.length → leftB ps i k = true) → t = true := fun h => by
    rw [← ht.out]
    exact List.all_eq_true.2 fun k hk => h k (List.mem_range.1 hk)
  have hL : ∀ k, leftB ps i k = (k == i || (k == j || decide (0 < det (cx ps i) (cy ps i) (cx ps j) (cy ps j) (cx ps k) (cy ps k)))) := fun k => by unfold leftB; rw [hj]; rfl
  have HT := Lib.hid hT
  have HY := Lib.hid hY
  have HL := Lib.hid hL
  clear ht hT hY hL hj ho'
  generalize hX1 : cx ps i = a1 at c1 V1
  generalize hX2 : cy ps i = a2 at c2 V1
  generalize hX3 : cx ps j = b1 at c3 V2
  generalize hX4 : cy ps j = b2 at c4 V2
  have HX := Lib.hid (And.intro hX1 (And.intro hX2 (And.intro hX3 hX4)))
  clear hX1 hX2 hX3 hX4
  have HV1 := Lib.hid V1
  have HV2 := Lib.hid V2
  have HP := Lib.hid hP
  have HVV := Lib.hid hV
  clear V1 V2 hV hP
  have hzb : b < w.heap.size := World.block_lt_of_cell? w _ c1
  have hmx := mixedP
  go_enter Tryz.func40, Tryz.ntmps40
  go_wp2_with (go_at_call 74; refine (hnext_is _ _ _ _ _ _ (by omega) hle (by omega) Hj).mono ?_; rintro e w1 ⟨rfl, rfl⟩)
  go_loopw [13] (fun v wr => ∃ k : Nat, k ≤ ps.length ∧ v = .int .i64 k ∧ (∀ m, m < k → leftB ps i m = true) ∧ Below w.heap.size w wr) (fun v _ => ps.length - (intOf v).toNat)
  case atStart => exact ⟨0, Nat.zero_le _, rfl, fun m hm => absurd hm (by omega), Below.refl _ _⟩
  case round =>
    obtain ⟨k, hk, rfl, hall, hB⟩ := hrel
    by_cases hlt : k < ps.length
    · obtain ⟨b', o', ho', c5, c6⟩ := prow_at HP.out hlt
      obtain ⟨rfl, rfl⟩ : b = b' ∧ o = o' := by simpa using ho'
      clear ho'
      have V3 := HVV.out k hlt
      have L3 := HL.out k
      generalize hX5 : cx ps k = p1 at c5 V3 L3
      generalize hX6 : cy ps k = p2 at c6 V3 L3
      have d1 := (hB.cell (p := ⟨b, o + i * 2, none⟩) hzb).trans c1
      have d2 := (hB.cell (p := ⟨b, o + i * 2 + 1, none⟩) hzb).trans c2
      have d3 := (hB.cell (p := ⟨b, o + j * 2, none⟩) hzb).trans c3
      have d4 := (hB.cell (p := ⟨b, o + j * 2 + 1, none⟩) hzb).trans c4
      have d5 := (hB.cell (p := ⟨b, o + k * 2, none⟩) hzb).trans c5
      have d6 := (hB.cell (p := ⟨b, o + k * 2 + 1, none⟩) hzb).trans c6
      go_wp2_with fail
      have hb1 := belA hB (.cells #[.int .i64 p1, .int .i64 p2] 23)
      have hbl := blk_new wr (.cells #[.int .i64 p1, .int .i64 p2] 23) wr.heap.size rfl
      have x1 := cell_alloc d1 (.cells #[.int .i64 p1, .int .i64 p2] 23)
      have x2 := cell_alloc d2 (.cells #[.int .i64 p1, .int .i64 p2] 23)
      have x3 := cell_alloc d3 (.cells #[.int .i64 p1, .int .i64 p2] 23)
      have x4 := cell_alloc d4 (.cells #[.int .i64 p1, .int .i64 p2] 23)
      have x7 : wr.heap.size < (wr.alloc (.cells #[.int .i64 p1, .int .i64 p2] 23)).heap.size := blk_lt hbl
      have x8 : b < (wr.alloc (.cells #[.int .i64 p1, .int .i64 p2] 23)).heap.size := Nat.lt_of_lt_of_le hzb hb1.size
      clear d1 d2 d3 d4 d5 d6 c5 c6
      generalize wr.alloc (.cells #[.int .i64 p1, .int .i64 p2] 23) = w1 at *
      have x5 := blk_cell hbl 0 _ rfl
      have x6 := blk_cell hbl 1 _ rfl
      generalize wr.heap.size = zr at *
      have G1 := fun n os => cell_grown (n := n) (os := os) x8 x1
      have G2 := fun n os => cell_grown (n := n) (os := os) x8 x2
      have G3 := fun n os => cell_grown (n := n) (os := os) x8 x3
      have G4 := fun n os => cell_grown (n := n) (os := os) x8 x4
      have G5 := fun n os => cell_grown (n := n) (os := os) x7 x5
      have G6 := fun n os => cell_grown (n := n) (os := os) x7 x6
      clear x1 x2 x3 x4 x5 x6 hbl
      have HB1 := Lib.hid hb1
      clear hB hb1
      by_cases hki : k = i
      · subst hki
        have HL3 := Lib.hid (show leftB ps k k = true by rw [L3]; simp)
        clear L3 hX5 hX6 V3
        refine wq_region mixedP (by kernel_rfl) ?_
        repeat (refine wq_step (fun K hK => ?_); go_simp; first | (refine hK _ ?_; clear hK K) | (apply Exists.intro; refine ⟨fun _ => ?_, hK _ ?_⟩; (fail); clear hK K))
        refine wq_nil ?_
        intro _ hw'
        obtain ⟨⟨nq, osq⟩, hw''⟩ := hw'
        subst hw''
        go_wp2
        go_roundw
        case rel => exact ⟨k + 1, by omega, by go_num, fun m hm => by
          rcases Nat.lt_or_ge m k with g | g
          · exact hall m g
          · rw [show m = k by omega]; exact HL3.out, HB1.out.trans (below_gr _ _ _ |>.mono HB1.out.size)⟩
        case measure => simp [intOf]; omega
      by_cases hkj : k = j
      · have hne : ¬ (k : Int) = i := by omega
        have HL3 := Lib.hid (show leftB ps i k = true by rw [L3, hkj]; simp)
        subst hkj
        clear L3 hX5 hX6 V3
        refine wq_region mixedP (by kernel_rfl) ?_
        repeat (refine wq_step (fun K hK => ?_); go_simp; first | (refine hK _ ?_; clear hK K) | (apply Exists.intro; refine ⟨fun _ => ?_, hK _ ?_⟩; (fail); clear hK K))
        refine wq_nil ?_
        intro _ hw'
        obtain ⟨⟨nq, osq⟩, hw''⟩ := hw'
        subst hw''
        go_wp2
        go_roundw
        case rel => exact ⟨k + 1, by omega, by go_num, fun m hm => by
          rcases Nat.lt_or_ge m k with g | g
          · exact hall m g
          · rw [show m = k by omega]; exact HL3.out, HB1.out.trans (below_gr _ _ _ |>.mono HB1.out.size)⟩
        case measure => simp [intOf]; omega
      · have hne : ¬ (k : Int) = i := by omega
        have hne2 : ¬ (k : Int) = j := by omega
        have hz1 : ((k : Int) != (i : Int)) = true := by rw [bne_iff_ne]; omega
        have hz2 : ((k : Int) != (j : Int)) = true := by rw [bne_iff_ne]; omega
        have hki' : (k : Int) < ps.length := by omega
        have hii' : (i : Int) < ps.length := by omega
        have hji' : (j : Int) < ps.length := by omega
        obtain ⟨v, hv⟩ : ∃ v, det a1 a2 b1 b2 p1 p2 = v := ⟨_, rfl⟩
        obtain ⟨e1, e2, e3, e4⟩ := HX.out
        have HL3 := Lib.hid (show leftB ps i k = decide (0 < v) by
          rw [L3, e1, e2, e3, e4, hv, show (k == i) = false by simpa using hki, show (k == j) = false by simpa using hkj]; rfl)
        have C := Lib.hid (fun W => cross_gr a1 a2 b1 b2 p1 p2 v W HV1.out.1 HV1.out.2 HV2.out.1 HV2.out.2 V3.1 V3.2 (Lib.hid hv))
        clear L3 hX5 hX6 V3 e1 e2 e3 e4 hv
        by_cases hs : v ≤ 0
        · refine wq_region mixedP (by kernel_rfl) ?_
          repeat (refine wq_step (fun K hK => ?_); go_simp; first | (refine hK _ ?_; clear hK K) | (apply Exists.intro; refine ⟨fun _ => ?_, hK _ ?_⟩; (first | (go_at_call 75; refine Calls.grown_of (C.out _))); clear hK K))
          refine wq_nil ?_
          intro _ hw'
          obtain ⟨⟨nq, osq⟩, hw''⟩ := hw'
          subst hw''
          go_wp2
          go_ret
          exact ⟨ret_bool (HT.out k hlt (by rw [HL3.out]; exact decide_eq_false (by omega))).symm, HB1.out.trans (below_gr _ _ _ |>.mono HB1.out.size)⟩
        · refine wq_region mixedP (by kernel_rfl) ?_
          repeat (refine wq_step (fun K hK => ?_); go_simp; first | (refine hK _ ?_; clear hK K) | (apply Exists.intro; refine ⟨fun _ => ?_, hK _ ?_⟩; (first | (go_at_call 75; refine Calls.grown_of (C.out _))); clear hK K))
          refine wq_nil ?_
          intro _ hw'
          obtain ⟨⟨nq, osq⟩, hw''⟩ := hw'
          subst hw''
          go_wp2
          go_roundw
          case rel => exact ⟨k + 1, by omega, by go_num, fun m hm => by
            rcases Nat.lt_or_ge m k with g | g
            · exact hall m g
            · rw [show m = k by omega, HL3.out]; exact decide_eq_true (by omega), HB1.out.trans (below_gr _ _ _ |>.mono HB1.out.size)⟩
          case measure => simp [intOf]; omega
    · have hE := Lib.hid (HY.out fun m hm => hall m (by omega))
      go_wp2
      go_ret
      exact ⟨ret_bool hE.out.symm, hB⟩

set_option maxHeartbeats 4000000 in
theorem conv_is (ao : Option Addr) (n cap : Nat) (ps : List (Int × Int)) (t : Bool) (w : World) (hn : ps.length = n) (ht : Hid (convB ps = t)) (hle : n ≤ 1000000) (hP : PRow w ao ps) (hV : AllV ps) :
    Calls Tryz.prog 13 #[.slice ao n cap] w fun e w' => e = .returned (.bool t) ∧ Below w.heap.size w w' := by
  subst hn
  by_cases h3 : ps.length < 3
  · have E : Hid (t = false) := Lib.hid (by rw [← ht.out]; unfold convB; rw [decide_eq_false (by omega)]; rfl)
    have h3' : (ps.length : Int) < 3 := by omega
    clear ht hP
    go_enter Tryz.func13, Tryz.ntmps13
    go_wp2
    go_ret
    exact ⟨ret_bool E.out.symm, Below.refl _ _⟩
  · have hT := Lib.hid (fun k (hk : k < ps.length) (hf : othersB ps k = false) => (by
      rw [← ht.out]; unfold convB; rw [Bool.and_eq_false_iff]; right; rw [List.all_eq_false]
      exact ⟨k, List.mem_range.2 hk, by rw [hf]; decide⟩ : t = false))
    have hY := Lib.hid (fun (h : ∀ k, k < ps.length → othersB ps k = true) => (by
      rw [← ht.out]; unfold convB; rw [decide_eq_true (by omega), Bool.true_and]
      exact List.all_eq_true.2 fun k hk => h k (List.mem_range.1 hk) : t = true))
    have h3' : ¬ (ps.length : Int) < 3 := by omega
    have HP := Lib.hid hP
    have HV := Lib.hid hV
    clear ht hP hV
    go_enter Tryz.func13, Tryz.ntmps13
    go_wp2
    go_loopw [9] (fun v wr => ∃ k : Nat, k ≤ ps.length ∧ v = .int .i64 k ∧ (∀ m, m < k → othersB ps m = true) ∧ Below w.heap.size w wr) (fun v _ => ps.length - (intOf v).toNat)
    case atStart => exact ⟨0, Nat.zero_le _, rfl, fun m hm => absurd hm (by omega), Below.refl _ _⟩
    case round =>
      obtain ⟨k, hk, rfl, hall, hB⟩ := hrel
      by_cases hlt : k < ps.length
      · have hP := Lib.hid (prow_below HP.out hB)
        obtain ⟨s, hs⟩ : ∃ s, othersB ps k = s := ⟨_, rfl⟩
        have C := Lib.hid (others_is ao ps.length cap k ps s wr rfl (Lib.hid hs) hlt hle hP.out HV.out)
        have hki' : (k : Int) < ps.length := by omega
        have Hs := Lib.hid hs
        clear hs
        cases s with
        | false =>
          have E := Lib.hid (hT.out k hlt Hs.out)
          go_wp2_with (go_at_call 40; refine C.out.mono ?_; rintro e w1 ⟨rfl, hb⟩)
          go_ret
          exact ⟨ret_bool E.out.symm, hB.trans (hb.mono hB.size)⟩
        | true =>
          go_wp2_with (go_at_call 40; refine C.out.mono ?_; rintro e w1 ⟨rfl, hb⟩)
          go_roundw
          case rel => exact ⟨k + 1, by omega, by go_num, fun m hm => by
            rcases Nat.lt_or_ge m k with g | g
            · exact hall m g
            · rw [show m = k by omega]; exact Hs.out, hB.trans (hb.mono hB.size)⟩
          case measure => simp [intOf]; omega
      · have hE := Lib.hid (hY.out fun m hm => hall m (by omega))
        go_wp2
        go_ret
        exact ⟨ret_bool hE.out.symm, hB⟩
end Go.Proofs.YtalhkcmlacppjaaGreatDoor

