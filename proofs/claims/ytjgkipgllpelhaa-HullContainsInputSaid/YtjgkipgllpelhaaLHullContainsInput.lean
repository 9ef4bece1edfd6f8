/- Proved: if Of succeeds, the hull is strictly convex, starts with its smallest corner, has only input points as corners and contains every input point; otherwise all input points are collinear (the law HullContainsInput returns true).
Conditions: none on the arguments. -/
import Derived.Test.YtjgkipgllpelhaaHlQ
import Derived.Test.YtjgkipgllpelhaaHlFr
import Derived.Test.YtjgkipgllpelhaaHuD
namespace Go.Proofs.Ytjgkipgllpelhaa.hullContainsInput
open Go.ChangeShapes Go.WideShapes Go.ChangeAt Go.RowKit
set_option linter.unusedVariables false
set_option linter.unusedSimpArgs false

theorem sub_len : ∀ (h l : List (Int × Int)), h.Nodup → (∀ q, q ∈ h → q ∈ l) → h.length ≤ l.length
  | [], l, _, _ => by simp
  | x :: h, l, hn, hs => by
    have hx := hs x (List.mem_cons_self ..)
    obtain ⟨hx', hn'⟩ := List.nodup_cons.1 hn
    have ih := sub_len h (l.erase x) hn' fun q hq => (List.mem_erase_of_ne (fun e => by rw [e] at hq; exact hx' hq)).2 (hs q (List.mem_cons_of_mem _ hq))
    have e := List.length_erase_of_mem hx
    have : 0 < l.length := List.length_pos_of_mem hx
    rw [List.length_cons]; omega
theorem nodup_of {h : List (Int × Int)} (hi : ∀ i j, i < h.length → j < h.length → gp h i = gp h j → i = j) : h.Nodup := by
  rw [List.nodup_iff_pairwise_ne, List.pairwise_iff_getElem]
  intro i j hi' hj' hij e
  rw [← gp_lt hi', ← gp_lt hj'] at e
  have := hi i j hi' hj' e
  omega
theorem hull_small {l h : List (Int × Int)} (hH : IsHull l h) : h.length ≤ l.length :=
  sub_len h l (nodup_of fun i j hi hj e => conv_inj hH.1 hi hj e) fun q hq => by
    obtain ⟨i, hi, e⟩ := mem_gp hq
    exact e ▸ hH.2.1 i hi
theorem hull_allV {l : List (Int × Int)} (h : AllV l) : AllV (hullL l) := by
  rcases hull_cases l with ⟨e, _⟩ | ⟨_, hH⟩
  · rw [e]; intro i hi; simp at hi
  · exact (allV_iff _).2 fun q hq => by
      obtain ⟨j, hj, e⟩ := mem_gp hq
      rw [← e]
      exact (allV_iff l).1 h _ (hH.2.1 j hj)
theorem wf_u8 {a : Int} (h : (Lit.int .u8 a).wf = true) : 0 ≤ a ∧ a ≤ 255 := bounds_u8 h

set_option maxRecDepth 100000 in
set_option maxHeartbeats 8000000 in
theorem walk_w {w : World} (ao : Option Addr) (cap : Nat) (l : List (Int × Int)) (nl : l.length ≤ 9223372036854775807) (hP : PRow w ao l) (za zb : Int) (wa : (Lit.int .u8 za).wf = true) (wb : (Lit.int .u8 zb).wf = true) :
    Calls Try.prog 4 #[.slice ao l.length cap, .int .u8 za, .int .u8 zb] w fun e w' => e = .returned (.bool true) ∧ Below w.heap.size w w' := by
  obtain ⟨t, ht⟩ : ∃ t, fitsL l = t := ⟨_, rfl⟩
  obtain ⟨za1, za2⟩ := wf_u8 wa
  obtain ⟨zb1, zb2⟩ := wf_u8 wb
  obtain ⟨ya, rfl⟩ : ∃ y : Nat, za = (y : Int) := ⟨za.toNat, by omega⟩
  obtain ⟨yb, rfl⟩ : ∃ y : Nat, zb = (y : Int) := ⟨zb.toNat, by omega⟩
  have HP := Lib.hid hP
  have HT := Lib.hid ht
  clear hP ht wa wb
  go_enter Try.func4, Try.ntmps4
  go_wp2_with fail
  refine (head_is _).mono ?_
  rintro e w1 ⟨rfl, b1⟩
  have B1 := Lib.hid b1
  have P1 := Lib.hid (prow_below HP.out b1)
  clear b1
  go_wp2_with fail
  refine (fits_is ao l.length cap l t w1 rfl HT nl P1.out).mono ?_
  rintro e wx ⟨rfl, rfl⟩
  cases t with
  | false =>
    go_wp2
    go_ret
    exact ⟨rfl, B1.out⟩
  | true =>
  obtain ⟨h40, hV⟩ := (fitsL_iff l).1 HT.out
  have HV := Lib.hid hV
  obtain ⟨H, hH⟩ : ∃ H, hullL l = H := ⟨_, rfl⟩
  obtain ⟨t, ht⟩ : ∃ t, decide (H ≠ []) = t := ⟨_, rfl⟩
  have HC : Hid ((H = [] ∧ ∀ a ∈ l, ∀ b ∈ l, ∀ c ∈ l, dt a b c = 0) ∨ (H ≠ [] ∧ IsHull l H)) := Lib.hid (by rw [← hH]; exact hull_cases l)
  have HVH : Hid (AllV H) := Lib.hid (by rw [← hH]; exact hull_allV hV)
  have HHL := Lib.hid hH
  have HTT := Lib.hid ht
  clear hH ht hV
  go_wp2_with fail
  refine (of_is ao l.length cap l H t w1 rfl HHL HTT (by omega) P1.out HV.out).mono ?_
  rintro e w2 ⟨⟨ho, hc, rfl, hp⟩, hb⟩
  have B2 := Lib.hid (B1.out.trans (hb.mono B1.out.size))
  have P2 := Lib.hid (prow_below P1.out hb)
  have Q2 := Lib.hid hp
  clear hb hp
  cases t with
  | false =>
    obtain rfl : H = [] := by simpa using HTT.out
    have HZ : Hid (∀ a ∈ l, ∀ b ∈ l, ∀ c ∈ l, dt a b c = 0) := Lib.hid (HC.out.elim (fun h => h.2) (fun h => absurd rfl h.1))
    by_cases h3 : l.length < 3
    · have h3' : (l.length : Int) < 3 := by omega
      go_wp2
      go_ret
      exact ⟨rfl, B2.out⟩
    · have h3' : ¬ (l.length : Int) < 3 := by omega
      have hn0 : (l.length : Int) ≠ 0 := by omega
      have hpos : 0 < l.length := by omega
      obtain ⟨ja, hja⟩ : ∃ j, ya % l.length = j := ⟨_, rfl⟩
      obtain ⟨jb, hjb⟩ : ∃ j, yb % l.length = j := ⟨_, rfl⟩
      have jal : ja < l.length := by rw [← hja]; exact Nat.mod_lt _ hpos
      have jbl : jb < l.length := by rw [← hjb]; exact Nat.mod_lt _ hpos
      have wa : IntKind.i64.wrap (ya : Int) = (ya : Int) := wrap_k _ (by omega)
      have wb : IntKind.i64.wrap (yb : Int) = (yb : Int) := wrap_k _ (by omega)
      have ta : (ya : Int).tmod (l.length : Int) = (ja : Int) := by rw [← hja, Int.tmod_eq_emod_of_nonneg (by omega)]; simp
      have tb : (yb : Int).tmod (l.length : Int) = (jb : Int) := by rw [← hjb, Int.tmod_eq_emod_of_nonneg (by omega)]; simp
      have wja : IntKind.i64.wrap (ja : Int) = (ja : Int) := wrap_k _ (by omega)
      have wjb : IntKind.i64.wrap (jb : Int) = (jb : Int) := wrap_k _ (by omega)
      have jal' : (ja : Int) < l.length := by omega
      have jbl' : (jb : Int) < l.length := by omega
      obtain ⟨b, o, rfl, c1, c2⟩ := prow_at P2.out jal
      obtain ⟨b', o', ho', c3, c4⟩ := prow_at P2.out jbl
      obtain ⟨rfl, rfl⟩ : b = b' ∧ o = o' := by simpa using ho'
      clear ho'
      obtain ⟨xa, hxa⟩ : ∃ x, cx l ja = x := ⟨_, rfl⟩
      obtain ⟨ua, hua⟩ : ∃ x, cy l ja = x := ⟨_, rfl⟩
      obtain ⟨xb, hxb⟩ : ∃ x, cx l jb = x := ⟨_, rfl⟩
      obtain ⟨ub, hub⟩ : ∃ x, cy l jb = x := ⟨_, rfl⟩
      obtain ⟨va1, va2⟩ := HV.out ja jal
      obtain ⟨vb1, vb2⟩ := HV.out jb jbl
      have HD : Hid (∀ k, k < l.length → det xa ua xb ub (cx l k) (cy l k) = 0) := Lib.hid (fun k hk => by
        rw [← hxa, ← hua, ← hxb, ← hub]
        exact HZ.out _ (gp_mem jal) _ (gp_mem jbl) _ (gp_mem hk))
      rw [hxa] at c1 va1
      rw [hua] at c2 va2
      rw [hxb] at c3 vb1
      rw [hub] at c4 vb2
      have zb : b < w2.heap.size := World.block_lt_of_cell? w2 _ c1
      have VA := Lib.hid (And.intro va1 (And.intro va2 (And.intro vb1 vb2)))
      clear hja hjb hxa hua hxb hub va1 va2 vb1 vb2
      go_wp2
      have hA := blk_alloc (blk_new w2 (.cells #[.int .i64 xa, .int .i64 ua] 35) _ rfl) (.cells #[.int .i64 xb, .int .i64 ub] 35)
      have hC := blk_new (w2.alloc (.cells #[.int .i64 xa, .int .i64 ua] 35)) (.cells #[.int .i64 xb, .int .i64 ub] 35) (w2.heap.size + 1) (by simp)
      have hB := belA (belA (Below.refl _ w2) (.cells #[.int .i64 xa, .int .i64 ua] 35)) (.cells #[.int .i64 xb, .int .i64 ub] 35)
      go_loopw [13] (fun i wr => ∃ k : Nat, k ≤ l.length ∧ i = .int .i64 k ∧ Below w2.heap.size w2 wr ∧ wr.heap[w2.heap.size]? = some (.cells #[.int .i64 xa, .int .i64 ua] 35 (0, 0)) ∧ wr.heap[w2.heap.size + 1]? = some (.cells #[.int .i64 xb, .int .i64 ub] 35 (0, 0))) (fun i _ => l.length - (intOf i).toNat)
      case atStart => exact ⟨0, Nat.zero_le _, rfl, hB, hA, hC⟩
      case round =>
        clear hB hA hC
        obtain ⟨k, hk, rfl, hB, hA, hC⟩ := hrel
        by_cases hlt : k < l.length
        · obtain ⟨b', o', ho', d1, d2⟩ := prow_at P2.out hlt
          obtain ⟨rfl, rfl⟩ : b = b' ∧ o = o' := by simpa using ho'
          clear ho'
          have hki : (k : Int) < l.length := by omega
          have f1 := (hB.cell zb).trans d1
          have f2 := (hB.cell zb).trans d2
          have zb2 : b < wr.heap.size := World.block_lt_of_cell? wr _ f1
          have a0 := blk_cell hA 0 _ rfl
          have a1 := blk_cell hA 1 _ rfl
          have e0 := blk_cell hC 0 _ rfl
          have e1 := blk_cell hC 1 _ rfl
          have zA := blk_lt hA
          have zC := blk_lt hC
          obtain ⟨x, hx⟩ : ∃ x, cx l k = x := ⟨_, rfl⟩
          obtain ⟨y, hy⟩ : ∃ y, cy l k = y := ⟨_, rfl⟩
          rw [hx] at f1
          rw [hy] at f2
          have C := Lib.hid (fun W => side_gr xa ua xb ub x y 0 W VA.out.1 VA.out.2.1 VA.out.2.2.1 VA.out.2.2.2 (by rw [← hx]; exact (HV.out k hlt).1) (by rw [← hy]; exact (HV.out k hlt).2) (Lib.hid (by rw [← hx, ← hy]; exact HD.out k hlt)))
          have HB := Lib.hid hB
          have HA := Lib.hid hA
          have HCC := Lib.hid hC
          clear hx hy d1 d2 c1 c2 c3 c4 hB hA hC
          generalize hz2 : w2.heap.size = z2 at *
          have G1 := fun n os => cell_grown (n := n) (os := os) zb2 f1
          have G2 := fun n os => cell_grown (n := n) (os := os) zb2 f2
          have G3 := fun n os => cell_grown (n := n) (os := os) zA a0
          have G4 := fun n os => cell_grown (n := n) (os := os) zA a1
          have G5 := fun n os => cell_grown (n := n) (os := os) zC e0
          have G6 := fun n os => cell_grown (n := n) (os := os) zC e1
          clear f1 f2 a0 a1 e0 e1
          go_upto_region 14 with fail
          refine wq_region mixedP (by kernel_rfl) ?_
          repeat (refine wq_step (fun K hK => ?_); go_simp; first | (refine hK _ ?_; clear hK K) | (apply Exists.intro; refine ⟨fun _ => ?_, hK _ ?_⟩; (first | (go_at_call 21; refine Calls.grown_of (C.out _))); clear hK K))
          refine wq_nil ?_
          intro _ hw'
          obtain ⟨⟨nq, osq⟩, hw''⟩ := hw'
          subst hw''
          go_wp2
          go_roundw
          case rel => exact ⟨k + 1, by omega, by go_num, HB.out.trans ((below_gr _ _ _).mono (by have := HB.out.size; omega)), blk_call HA.out (below_gr _ _ _), blk_call HCC.out (below_gr _ _ _)⟩
          case measure => simp [intOf]; omega
        · have HB := Lib.hid (B2.out.trans (hB.mono B2.out.size))
          clear hB hA hC
          go_wp2
          go_ret
          exact ⟨rfl, HB.out⟩
  | true =>
    have hI : IsHull l H := HC.out.elim (fun h => absurd h.1 (by have := HTT.out; simpa using this)) (fun h => h.2)
    have HI := Lib.hid hI
    have h3 : 3 ≤ H.length := hI.1.1
    have hsm : H.length ≤ l.length := hull_small hI
    have HCV : Hid (convB H = true) := Lib.hid ((convB_iff H).2 hI.1)
    have m1 : ¬ (H.length : Int) < 3 := by omega
    have m2 : ¬ (l.length : Int) < (H.length : Int) := by omega
    have m3 : ¬ l.length < H.length := by omega
    have m5 : decide ((H.length : Int) < 3) = false := decide_eq_false (by omega)
    have m6 : decide (l.length < H.length) = false := decide_eq_false (by omega)
    have hHe : ¬ H = [] := fun e => by rw [e] at h3; simp at h3
    clear hI
    go_wp2_with fail
    refine (conv_is ho H.length hc H true w2 rfl HCV (by omega) Q2.out HVH.out).mono ?_
    rintro e w3 ⟨rfl, hb⟩
    have B3 := Lib.hid (B2.out.trans (hb.mono B2.out.size))
    have P3 := Lib.hid (prow_below P2.out hb)
    have Q3 := Lib.hid (prow_below Q2.out hb)
    clear hb
    obtain ⟨x0, hx0⟩ : ∃ x, cx H 0 = x := ⟨_, rfl⟩
    obtain ⟨y0, hy0⟩ : ∃ x, cy H 0 = x := ⟨_, rfl⟩
    have HLE : Hid (∀ k, k < H.length → x0 < cx H k ∨ (x0 = cx H k ∧ y0 ≤ cy H k)) := Lib.hid (fun k hk => by
      rw [← hx0, ← hy0]; exact HI.out.2.2.2 k hk)
    go_wp2
    go_loopw [15] (fun i wr => ∃ k : Nat, k ≤ H.length ∧ i = .int .i64 k ∧ Below w3.heap.size w3 wr) (fun i _ => H.length - (intOf i).toNat)
    case atStart => exact ⟨0, Nat.zero_le _, rfl, Below.refl _ _⟩
    case round =>
      obtain ⟨k, hk, rfl, hB⟩ := hrel
      by_cases hlt : k < H.length
      · obtain ⟨b, o, rfl, c1, c2⟩ := prow_at Q3.out hlt
        obtain ⟨b', o', ho', c3, c4⟩ := prow_at Q3.out (show 0 < H.length by omega)
        obtain ⟨rfl, rfl⟩ : b = b' ∧ o = o' := by simpa using ho'
        clear ho'
        have zb : b < w3.heap.size := World.block_lt_of_cell? w3 _ c1
        have hki : (k : Int) < H.length := by omega
        have h0i : (0 : Int) < H.length := by omega
        have h0n : 0 < H.length := by omega
        have hMEM : Hid (decide ((cx H k, cy H k) ∈ l) = true) := Lib.hid (decide_eq_true (HI.out.2.1 k hlt))
        have hLE := HLE.out k hlt
        rw [hx0, Nat.zero_mul, Nat.add_zero] at c3
        rw [hy0, Nat.zero_mul, Nat.add_zero] at c4
        have d1 := (hB.cell zb).trans c1
        have d2 := (hB.cell zb).trans c2
        have d3 := (hB.cell zb).trans c3
        have d4 := (hB.cell zb).trans c4
        have HB := Lib.hid hB
        have P4 := Lib.hid (prow_below P3.out hB)
        clear c1 c2 c3 c4 hB
        generalize cx H k = x at *
        generalize cy H k = y at *
        go_wp2_with fail
        refine (has_is ao l.length cap x y l true wr rfl hMEM (by omega) P4.out).mono ?_
        rintro e w4 ⟨rfl, hb⟩
        have HB4 := Lib.hid (HB.out.trans (hb.mono HB.out.size))
        have f1 := cell_call d1 hb
        have f2 := cell_call d2 hb
        have f3 := cell_call d3 hb
        have f4 := cell_call d4 hb
        have zb4 : b < w4.heap.size := World.block_lt_of_cell? w4 _ f1
        clear hb d1 d2 d3 d4
        have G1 := fun n os => cell_grown (n := n) (os := os) zb4 f1
        have G2 := fun n os => cell_grown (n := n) (os := os) zb4 f2
        have G3 := fun n os => cell_grown (n := n) (os := os) zb4 f3
        have G4 := fun n os => cell_grown (n := n) (os := os) zb4 f4
        clear f1 f2 f3 f4
        have l1 : ¬ x < x0 := by omega
        by_cases hxe : x = x0
        · subst hxe
          have l2 : ¬ y < y0 := by omega
          clear hLE
          go_upto_region 24 with fail
          refine wq_region mixedP (by kernel_rfl) ?_
          repeat (refine wq_step (fun K hK => ?_); go_simp; first | (refine hK _ ?_; clear hK K) | (apply Exists.intro; refine ⟨fun _ => ?_, hK _ ?_⟩; (fail); clear hK K))
          refine wq_nil ?_
          intro _ hw'
          obtain ⟨⟨nq, osq⟩, hw''⟩ := hw'
          subst hw''
          go_wp2
          go_roundw
          case rel => exact ⟨k + 1, by omega, by go_num, HB4.out.trans ((below_gr _ _ _).mono HB4.out.size)⟩
          case measure => simp [intOf]; omega
        · clear hLE
          go_upto_region 24 with fail
          refine wq_region mixedP (by kernel_rfl) ?_
          repeat (refine wq_step (fun K hK => ?_); go_simp; first | (refine hK _ ?_; clear hK K) | (apply Exists.intro; refine ⟨fun _ => ?_, hK _ ?_⟩; (fail); clear hK K))
          refine wq_nil ?_
          intro _ hw'
          obtain ⟨⟨nq, osq⟩, hw''⟩ := hw'
          subst hw''
          go_wp2
          go_roundw
          case rel => exact ⟨k + 1, by omega, by go_num, HB4.out.trans ((below_gr _ _ _).mono HB4.out.size)⟩
          case measure => simp [intOf]; omega
      · have B4 := Lib.hid (B3.out.trans (hB.mono B3.out.size))
        have P4 := Lib.hid (prow_below P3.out hB)
        have Q4 := Lib.hid (prow_below Q3.out hB)
        clear hB
        generalize wr = w4 at *
        go_wp2
        go_loopw [17] (fun i wr => ∃ k : Nat, k ≤ l.length ∧ i = .int .i64 k ∧ Below w4.heap.size w4 wr) (fun i _ => l.length - (intOf i).toNat)
        case atStart => exact ⟨0, Nat.zero_le _, rfl, Below.refl _ _⟩
        case round =>
          obtain ⟨k, hk, rfl, hB⟩ := hrel
          by_cases hlt : k < l.length
          · have P5 := Lib.hid (prow_below P4.out hB)
            have Q5 := Lib.hid (prow_below Q4.out hB)
            obtain ⟨b, o, rfl, c1, c2⟩ := prow_at P5.out hlt
            have hki : (k : Int) < l.length := by omega
            have HB := Lib.hid hB
            obtain ⟨v, hv⟩ : ∃ v, locE H (cx l k) (cy l k) = v := ⟨_, rfl⟩
            obtain ⟨t, ht⟩ : ∃ t, decide ((cx l k, cy l k) ∈ H) = t := ⟨_, rfl⟩
            have hv0 : 0 ≤ v := by
              rw [← hv]
              exact (conv_loc H.length H rfl HI.out.1 (cx l k, cy l k)).2 fun i hi => HI.out.2.2.1 i hi _ (gp_mem hlt)
            have hvc : t = true → v = 0 := fun h => by
              rw [← ht, decide_eq_true_eq] at h
              obtain ⟨i, hi, e⟩ := mem_gp h
              rw [← hv, show cx l k = cx H i from (congrArg Prod.fst e).symm, show cy l k = cy H i from (congrArg Prod.snd e).symm]
              exact loc_corner H hi
            obtain ⟨ix, iy⟩ := HV.out k hlt
            have HW := Lib.hid (And.intro ix iy)
            have HVV := Lib.hid hv
            have HTV := Lib.hid ht
            clear hB hv ht ix iy
            generalize cx l k = x at *
            generalize cy l k = y at *
            go_wp2_with fail
            refine (hasP_is ho H.length hc x y H v wr rfl HVV (by omega) Q5.out HVH.out HW.out.1 HW.out.2).mono ?_
            rintro e w5 ⟨rfl, hb⟩
            have HB5 := Lib.hid (HB.out.trans (hb.mono HB.out.size))
            have Q6 := Lib.hid (prow_below Q5.out hb)
            have f1 := cell_call c1 hb
            have f2 := cell_call c2 hb
            clear hb c1 c2
            go_wp2_with fail
            refine (has_is ho H.length hc x y H t w5 rfl HTV (by omega) Q6.out).mono ?_
            rintro e w6 ⟨rfl, hb⟩
            have HB6 := Lib.hid (HB5.out.trans (hb.mono HB5.out.size))
            clear hb f1 f2
            have v1 : ¬ v < 0 := by omega
            cases t with
            | true =>
              obtain rfl := hvc rfl
              go_wp2
              go_roundw
              case rel => exact ⟨k + 1, by omega, by go_num, HB6.out⟩
              case measure => simp [intOf]; omega
            | false =>
              clear hvc
              go_wp2
              go_roundw
              case rel => exact ⟨k + 1, by omega, by go_num, HB6.out⟩
              case measure => simp [intOf]; omega
          · have B5 := Lib.hid (B4.out.trans (hB.mono B4.out.size))
            clear hB
            go_wp2
            go_ret
            exact ⟨rfl, B5.out⟩

theorem walk {W : World} (ao : Option Addr) (cap : Nat) (l : List (Int × Int)) (nl : l.length ≤ 9223372036854775807) (hP : PRow W ao l) (za : Int) (wa : (Lit.int .u8 za).wf = true) (zb : Int) (wb : (Lit.int .u8 zb).wf = true) (W' : World) (hw : W = W') :
    Calls Try.prog 4 #[.slice ao l.length cap, .int .u8 za, .int .u8 zb] W fun e w' => e = .returned (.bool true) ∧ Below W.heap.size W w' := walk_w ao cap l nl hP za zb wa wb

set_option maxRecDepth 100000 in
theorem lifted (os : Os) (started : os.Started) (H : Type) (enc : TypeId × Value → H) :
    ReturnsInHanded {} Try.checked os 4 .any (Rows.hullContainsInputSpec.pre6 enc Try.prog Try.f4 Rows.hullContainsInputRow.domain false) (Rows.hullContainsInputSpec.post enc Try.prog Try.f4 false true false false) := by
  refine returnsInHanded_of_change (C := Try.checked) HFr.own started (by kernel_rfl) Try.func4
    (ChangeSpec.witness6 (enc := enc) (C := Try.checked) false ⟨#[], #[.slice none 0 0, .int .u8 0, .int .u8 0], []⟩ 8 (by kernel_rfl) (by kernel_rfl) (by kernel_rfl) (by kernel_rfl)) ?_
  intro W base args ds gs before hval0 hW hcnd _
  have hval : ∀ (j : Nat) t v, Try.f4.params[j]? = some t → args[j]? = some v → Value.okWide Try.prog W .any base t v := hval0
  have hW' := hW
  obtain ⟨p, q, hA0, hV, rfl, hfz, hnd⟩ := hW
  have hA : DataW.TrodAll enc Try.prog W 0 (fun _ => true) true Try.f4.params.toList args.toList ds p := hA0
  rw [Try.params4] at hA hval
  obtain ⟨v0, vs0, d0, ds0, p0, q0, hargs, rfl, rfl, h0, r0⟩ := trodAll_cons hA
  obtain ⟨v1, vs1, d1, ds1, p1, q1, rfl, rfl, rfl, h1, r1⟩ := trodAll_cons r0
  obtain ⟨v2, vs2, d2, ds2, p2, q2, rfl, rfl, rfl, h2, r2⟩ := trodAll_cons r1
  obtain ⟨rfl, rfl, rfl⟩ := trodAll_nil r2
  obtain rfl : args = #[v0, v1, v2] := by cases args; simp_all
  obtain ⟨rfl, rfl⟩ := trodVars_none hV
  have k0 := h0
  have lt0 : ∀ x ∈ p0, x.block < W.heap.size := by obtain ⟨m, hm⟩ := k0; exact DataW.trod_lt m _ _ _ hm
  obtain ⟨a0, cap0, l0, rfl, n0, w0⟩ := HFr.open_pts (hval 0 22 v0 rfl rfl) h0
  obtain ⟨a1, rfl, rfl, rfl, w1⟩ := open_int Try.underlying5 (hval 1 5 v1 rfl rfl) h1
  obtain ⟨a2, rfl, rfl, rfl, w2⟩ := open_int Try.underlying5 (hval 2 5 v2 rfl rfl) h2
  clear hA0 hval0
  refine (walk a0 cap0 l0 n0 w0 a1 w1 a2 w2 W rfl).mono fun e W' ⟨he, bel⟩ => ?_
  subst he
  exact ⟨_, rfl, _, _, _, [], _, [], hW', trodAll_mk1 (shut_bool Try.underlying4 _), (trodAll_cons_mk (Below.trod HFr.laidOut (by kernel_rfl) (of_decide_eq_true (by kernel_rfl)) k0 bel lt0) (trodAll_cons_mk (shut_int Try.underlying5 w1) (trodAll_cons_mk (shut_int Try.underlying5 w2) trodAll_mk0))), rfl, bel.frame _, fun h => by cases h⟩

/-- THE STATEMENT. -/
theorem holds : Rows.HullContainsInputSaid :=
  OpenClaim.holds_of_wide 4 Try.f4 rfl rfl rfl rfl rfl rfl rfl ⟨rfl, rfl, rfl, rfl, rfl⟩ rfl rfl rfl rfl rfl (by kernel_rfl) Try.func4 (by kernel_rfl)
    (of_decide_eq_true (by kernel_rfl)) (by unfold Func.isWrapper; first | (rw [if_pos (by decide +kernel)]; kernel_rfl) | (rw [if_neg (by decide +kernel)]; exact ⟨rfl, rfl⟩))
    (fun os started H enc _ => lifted os started H enc)
#print axioms holds
end Go.Proofs.Ytjgkipgllpelhaa.hullContainsInput
