/- Contracts of the reference ambidexterref03: Area2, Right; and of little. Condition: the slice reads as the list says. -/
import Derived.Test.YthmcejeeohlafaaDoorPolS
import Derived.Test.YthmcejeeohlafaaDoorPolT
namespace Go.Proofs.YthmcejeeohlafaaDoor
open Go.ChangeShapes Go.WideShapes Go.ChangeAt Go.RowKit
set_option linter.unusedVariables false
set_option linter.unusedSimpArgs false

theorem vat_at (ao : Option Addr) (n cap i j : Nat) (I : Int) (ps : List (Int × Int)) (x y : Int) (w : World) (hI : I = (i : Int)) (hn : ps.length = n) (h0 : 0 < n) (hle : n ≤ 1000000) (hi : i ≤ 1000000) (hj : Hid (i % n = j)) (hx : Hid (cx ps j = x)) (hy : Hid (cy ps j = y)) (hP : PRow w ao ps) :
    Calls Tryd.prog 46 #[.slice ao n cap, .int .i64 I] w fun e w' => e = .returned (.agg #[.int .i64 x, .int .i64 y]) ∧ Below w.heap.size w w' := by
  subst hI
  exact vat_is ao n cap i j ps x y w hn h0 hle hi hj hx hy hP
theorem sum_bd {ps : List (Int × Int)} (hv : AllV ps) : ∀ k, k ≤ ps.length → -(386144720000000000 * (k : Int)) ≤ sumE (crossE ps) (List.range k) ∧ sumE (crossE ps) (List.range k) ≤ 386144720000000000 * (k : Int)
  | 0, _ => by simp [sumE]
  | k + 1, h => by
    have a := sum_bd hv k (by omega)
    have b := crossE_bd hv (i := k) (by omega)
    rw [List.range_succ, sumE_snoc]
    omega
theorem sum_next (ps : List (Int × Int)) (k : Nat) : sumE (crossE ps) (List.range (k + 1)) = sumE (crossE ps) (List.range k) + crossE ps k := by rw [List.range_succ, sumE_snoc]
theorem vprd {x y : Int} (hx : InV x) (hy : InV y) : -193072360000000000 ≤ x * y ∧ x * y ≤ 193072360000000000 := by
  have := mul_bd hx hy
  omega

set_option maxRecDepth 100000 in
set_option maxHeartbeats 4000000 in
theorem varea_is (ao : Option Addr) (n cap : Nat) (ps : List (Int × Int)) (v : Int) (w : World) (hn : ps.length = n) (hv : Hid (area2 ps = v)) (h0 : 0 < ps.length) (h12 : ps.length ≤ 12) (hP : PRow w ao ps) (ha : AllV ps) :
    Calls Tryd.prog 48 #[.slice ao n cap] w fun e w' => e = .returned (.int .i64 v) ∧ Below w.heap.size w w' := by
  subst hn
  have HV := Lib.hid ha
  have HP := Lib.hid hP
  have hpe : ¬ ps = [] := fun e => by rw [e] at h0; simp at h0
  clear ha hP
  go_enter Tryd.func48, Tryd.ntmps48
  go_wp2
  go_loopw [3, 4] (fun s i wr => ∃ k : Nat, k ≤ ps.length ∧ i = .int .i64 k ∧ s = .int .i64 (sumE (crossE ps) (List.range k)) ∧ Below w.heap.size w wr) (fun _ i _ => ps.length - (intOf i).toNat)
  case atStart => exact ⟨0, Nat.zero_le _, rfl, rfl, Below.refl _ _⟩
  case round =>
    obtain ⟨k, hk, rfl, rfl, hB⟩ := hrel
    by_cases hlt : k < ps.length
    · obtain ⟨j, hj⟩ : ∃ j, nx ps.length k = j := ⟨_, rfl⟩
      have hjl : j < ps.length := by rw [← hj]; exact nx_lt' hlt
      obtain ⟨i1, i2⟩ := HV.out k hlt
      obtain ⟨i3, i4⟩ := HV.out j hjl
      have hki : (k : Int) < ps.length := by omega
      have HN : Hid (sumE (crossE ps) (List.range (k + 1)) = sumE (crossE ps) (List.range k) + (cx ps k * cy ps j - cy ps k * cx ps j)) := Lib.hid (by rw [sum_next]; unfold crossE; rw [hj])
      have SB := sum_bd HV.out k hk
      obtain ⟨p1, p2⟩ := vprd i1 i4
      obtain ⟨p3, p4⟩ := vprd i2 i3
      obtain ⟨x1, hx1⟩ : ∃ x, cx ps k = x := ⟨_, rfl⟩
      obtain ⟨y1, hy1⟩ : ∃ x, cy ps k = x := ⟨_, rfl⟩
      obtain ⟨x2, hx2⟩ : ∃ x, cx ps j = x := ⟨_, rfl⟩
      obtain ⟨y2, hy2⟩ : ∃ x, cy ps j = x := ⟨_, rfl⟩
      obtain ⟨S, hS⟩ : ∃ x, sumE (crossE ps) (List.range k) = x := ⟨_, rfl⟩
      rw [hx1, hy1, hx2, hy2, hS] at HN
      rw [hx1, hy2] at p1 p2
      rw [hy1, hx2] at p3 p4
      rw [hS] at SB
      rw [hS]
      have HX1 := Lib.hid hx1
      have HY1 := Lib.hid hy1
      have HX2 := Lib.hid hx2
      have HY2 := Lib.hid hy2
      obtain ⟨s1, s2⟩ : -4633736640000000000 ≤ S ∧ S ≤ 4633736640000000000 := by omega
      have HK : Hid (k % ps.length = k) := Lib.hid (Nat.mod_eq_of_lt hlt)
      have HJ : Hid ((k + 1) % ps.length = j) := Lib.hid hj
      clear hx1 hy1 hx2 hy2 hS hj i1 i2 i3 i4 SB
      go_wp2_with fail
      refine (vat_at ao _ cap k k (k : Int) ps x1 y1 _ rfl rfl h0 (by omega) (by omega) HK HX1 HY1 (prow_below HP.out hB)).mono ?_; rintro e w1 ⟨rfl, hb⟩
      replace hB := belT hB hb
      clear hb
      go_wp2_with fail
      have hX := blk_new w1 (.cells #[.int .i64 x1, .int .i64 y1] 25) _ rfl
      replace hB := belA hB (.cells #[.int .i64 x1, .int .i64 y1] 25)
      refine (vat_at ao _ cap (k + 1) j ((k : Int) + 1) ps x2 y2 _ (by omega) rfl h0 (by omega) (by omega) HJ HX2 HY2 (prow_below HP.out hB)).mono ?_; rintro e w2 ⟨rfl, hb⟩
      replace hX := blk_call hX hb
      replace hB := belT hB hb
      have f0 := blk_cell hX 0 _ rfl
      have f1 := blk_cell hX 1 _ rfl
      have zX := blk_lt hX
      clear hb hX
      go_wp2_with fail
      go_roundw
      case rel => exact ⟨k + 1, by omega, by go_num, by rw [HN.out]; congr 1; omega, belA hB _⟩
      case measure => simp [intOf]; omega
    · obtain rfl : k = ps.length := by omega
      have HE : Hid (sumE (crossE ps) (List.range ps.length) = v) := Lib.hid hv.out
      generalize sumE (crossE ps) (List.range ps.length) = S at *
      go_wp2_with fail
      go_ret
      exact ⟨ret_int HE.out, hB⟩

theorem meet_small {ps : List (Int × Int)} {i k : Nat} (h : k ≤ i + 1) : meetB ps i k = false := by unfold meetB skipE; rw [decide_eq_true h]; rfl
theorem meet_skip {ps : List (Int × Int)} {i k : Nat} (h : nx ps.length k = i) : meetB ps i k = false := by unfold meetB skipE; rw [h]; simp
theorem meet_seg {ps : List (Int × Int)} {i k : Nat} (h1 : ¬ k ≤ i + 1) (h2 : nx ps.length k ≠ i) : meetB ps i k = segE ps i k := by
  unfold meetB skipE
  rw [decide_eq_false h1, show (nx ps.length k == i) = false by rw [beq_eq_false_iff_ne]; exact h2]
  rfl
theorem valid_no0 {ps : List (Int × Int)} (h : validC ps = false) : validP ps = false := by unfold validP; rw [h]; rfl
theorem valid_no1 {ps : List (Int × Int)} {i : Nat} (hi : i < ps.length) (h : oriE ps i = 0) : validP ps = false := by
  have : bendsB ps = false := by
    unfold bendsB
    rw [List.all_eq_false]
    exact ⟨i, List.mem_range.2 hi, by rw [h]; decide⟩
  unfold validP
  rw [this]
  simp
theorem valid_no2 {ps : List (Int × Int)} {i k : Nat} (hi : i < ps.length) (hk : k < ps.length) (h : meetB ps i k = true) : validP ps = false := by
  have : simpleB ps = false := by
    unfold simpleB
    rw [List.all_eq_false]
    refine ⟨i, List.mem_range.2 hi, ?_⟩
    rw [Bool.not_eq_true, List.all_eq_false]
    exact ⟨k, List.mem_range.2 hk, by rw [h]; decide⟩
  unfold validP
  rw [this]
  simp
theorem valid_area {ps : List (Int × Int)} (h1 : 3 ≤ ps.length) (h2 : ps.length ≤ 12) (h3 : AllV ps) (h4 : ∀ i, i < ps.length → oriE ps i ≠ 0 ∧ ∀ k, k < ps.length → meetB ps i k = false) : validP ps = decide (0 < area2 ps) := by
  unfold validP
  rw [(validC_iff ps).2 ⟨h1, h2, h3⟩, show bendsB ps = true from List.all_eq_true.2 fun i hi => by simpa using (h4 i (List.mem_range.1 hi)).1, show simpleB ps = true from List.all_eq_true.2 fun i hi => List.all_eq_true.2 fun k hk => by rw [(h4 i (List.mem_range.1 hi)).2 k (List.mem_range.1 hk)]; rfl]
  rfl

set_option maxRecDepth 100000 in
set_option maxHeartbeats 16000000 in
theorem right_core {w : World} (ao : Option Addr) (cap : Nat) (ps : List (Int × Int)) (t : Bool) (ht : Hid (validP ps = t)) (h3 : 3 ≤ ps.length) (h12 : ps.length ≤ 12) (hP : PRow w ao ps) :
    Calls Tryd.prog 31 #[.slice ao ps.length cap] w fun e w' => e = .returned (.bool t) ∧ Below w.heap.size w w' := by
  have HP := Lib.hid hP
  have h0 : 0 < ps.length := by omega
  have h3i : ¬ (ps.length : Int) < 3 := by omega
  have h3f : decide ((ps.length : Int) < 3) = false := decide_eq_false h3i
  have h12f : decide (12 < (ps.length : Int)) = false := decide_eq_false (by omega)
  have h12i : (ps.length : Int) ≤ 12 := by omega
  clear hP
  go_enter Tryd.func31, Tryd.ntmps31
  go_wp2
  go_loopw [4] (fun i wr => ∃ k : Nat, k ≤ ps.length ∧ i = .int .i64 k ∧ Hid (∀ j, j < k → outE ps j = false) ∧ Below w.heap.size w wr) (fun i _ => ps.length - (intOf i).toNat)
  case atStart => exact ⟨0, Nat.zero_le _, rfl, Lib.hid (fun j hj => by omega), Below.refl _ _⟩
  case round =>
    obtain ⟨k, hk, rfl, hno, hB⟩ := hrel
    by_cases hlt : k < ps.length
    · obtain ⟨b, o, rfl, c1, c2⟩ := prow_at HP.out hlt
      obtain ⟨u, hu⟩ : ∃ u, outE ps k = u := ⟨_, rfl⟩
      have HT : Hid (mayB (cx ps k) (cy ps k) = !u) := Lib.hid (by rw [← hu]; rfl)
      have HX := Lib.hid hu
      have d1 := (hB.cell (World.block_lt_of_cell? w _ c1)).trans c1
      have d2 := (hB.cell (World.block_lt_of_cell? w _ c2)).trans c2
      have hki : (k : Int) < ps.length := by omega
      clear c1 c2 hu
      cases u
      · go_wp2_with (go_at_call 11; refine (may_any _ _ true _ HT).mono ?_; rintro e w1 ⟨rfl, hb⟩)
        go_roundw
        case rel => exact ⟨k + 1, by omega, by go_num, Lib.hid (fun j hj => by
          by_cases e : j = k
          · subst e; exact HX.out
          · exact hno.out j (by omega)), belT hB hb⟩
        case measure => simp [intOf]; omega
      · have HE : Hid (t = false) := Lib.hid (by
          rw [← ht.out]
          refine valid_no0 ?_
          unfold validC
          rw [show outs ps = true from List.any_eq_true.2 ⟨k, List.mem_range.2 hlt, HX.out⟩]
          simp)
        go_wp2_with (go_at_call 11; refine (may_any _ _ false _ HT).mono ?_; rintro e w1 ⟨rfl, hb⟩)
        go_ret
        exact ⟨ret_bool HE.out.symm, belT hB hb⟩
    · have hkn : k = ps.length := by omega
      have HV : Hid (AllV ps) := Lib.hid (fun j hj => (outB_iff _ _).1 (hno.out j (by omega)))
      clear hno
      go_wp2_with fail
      go_loopw [5] (fun i wr => ∃ k : Nat, k ≤ ps.length ∧ i = .int .i64 k ∧ Hid (∀ i, i < k → oriE ps i ≠ 0 ∧ ∀ m, m < ps.length → meetB ps i m = false) ∧ Below w.heap.size w wr) (fun i _ => ps.length - (intOf i).toNat)
      case atStart => exact ⟨0, Nat.zero_le _, rfl, Lib.hid (fun j hj => by omega), hB⟩
      case round =>
        clear hB
        obtain ⟨i, hi, rfl, HF, hB⟩ := hrel
        by_cases hlt : i < ps.length
        · obtain ⟨j, hj⟩ : ∃ j, nx ps.length i = j := ⟨_, rfl⟩
          have hjl : j < ps.length := by rw [← hj]; exact nx_lt' hlt
          obtain ⟨q, hq⟩ : ∃ q, nx ps.length j = q := ⟨_, rfl⟩
          have hql : q < ps.length := by rw [← hq]; exact nx_lt' hjl
          have hii : (i : Int) < ps.length := by omega
          obtain ⟨i1, i2⟩ := HV.out i hlt
          obtain ⟨i3, i4⟩ := HV.out j hjl
          obtain ⟨i5, i6⟩ := HV.out q hql
          obtain ⟨d, hd⟩ : ∃ d, det (cx ps i) (cy ps i) (cx ps j) (cy ps j) (cx ps q) (cy ps q) = d := ⟨_, rfl⟩
          have HO : Hid (oriE ps i = 0 ↔ d = 0) := Lib.hid (by
            have := ori_zero (cx ps i) (cy ps i) (cx ps j) (cy ps j) (cx ps q) (cy ps q)
            unfold oriE
            rw [hj, hq]
            rw [hd, Bool.eq_iff_iff, beq_iff_eq, decide_eq_true_eq] at this
            exact this)
          have HI : Hid (i % ps.length = i) := Lib.hid (Nat.mod_eq_of_lt hlt)
          have HJ : Hid ((i + 1) % ps.length = j) := Lib.hid hj
          have HQ : Hid ((i + 2) % ps.length = q) := Lib.hid (by rw [← hq, ← hj]; unfold nx; rw [Nat.mod_add_mod])
          have HS : Hid (∀ k, segE ps i k = segB (cx ps i) (cy ps i) (cx ps j) (cy ps j) (cx ps k) (cy ps k) (cx ps (nx ps.length k)) (cy ps (nx ps.length k))) := Lib.hid (fun k => by unfold segE; rw [hj])
          obtain ⟨x1, hx1⟩ : ∃ x, cx ps i = x := ⟨_, rfl⟩
          obtain ⟨y1, hy1⟩ : ∃ x, cy ps i = x := ⟨_, rfl⟩
          obtain ⟨x2, hx2⟩ : ∃ x, cx ps j = x := ⟨_, rfl⟩
          obtain ⟨y2, hy2⟩ : ∃ x, cy ps j = x := ⟨_, rfl⟩
          obtain ⟨x3, hx3⟩ : ∃ x, cx ps q = x := ⟨_, rfl⟩
          obtain ⟨y3, hy3⟩ : ∃ x, cy ps q = x := ⟨_, rfl⟩
          rw [hx1, hy1, hx2, hy2, hx3, hy3] at hd
          rw [hx1, hy1, hx2, hy2] at HS
          rw [hx1] at i1
          rw [hy1] at i2
          rw [hx2] at i3
          rw [hy2] at i4
          rw [hx3] at i5
          rw [hy3] at i6
          have HD := Lib.hid hd
          have HX1 := Lib.hid hx1
          have HY1 := Lib.hid hy1
          have HX2 := Lib.hid hx2
          have HY2 := Lib.hid hy2
          have HX3 := Lib.hid hx3
          have HY3 := Lib.hid hy3
          clear hx1 hy1 hx2 hy2 hx3 hy3 hd hj hq
          go_wp2_with fail
          refine (vat_at ao _ cap i i (i : Int) ps x1 y1 _ rfl rfl h0 (by omega) (by omega) HI HX1 HY1 (prow_below HP.out hB)).mono ?_; rintro e w1 ⟨rfl, hb⟩
          replace hB := belT hB hb
          clear hb
          go_wp2_with fail
          refine (vat_at ao _ cap (i + 1) j ((i : Int) + 1) ps x2 y2 _ (by omega) rfl h0 (by omega) (by omega) HJ HX2 HY2 (prow_below HP.out hB)).mono ?_; rintro e w2 ⟨rfl, hb⟩
          replace hB := belT hB hb
          clear hb
          go_wp2_with fail
          refine (vat_at ao _ cap (i + 2) q ((i : Int) + 2) ps x3 y3 _ (by omega) rfl h0 (by omega) (by omega) HQ HX3 HY3 (prow_below HP.out hB)).mono ?_; rintro e w3 ⟨rfl, hb⟩
          replace hB := belT hB hb
          clear hb
          go_wp2_with fail
          refine (vcross_is x1 y1 x2 y2 x3 y3 d _ i1 i2 i3 i4 i5 i6 HD).mono ?_; rintro e w4 ⟨rfl, hb⟩
          replace hB := belT hB hb
          clear hb i5 i6 HD HX3 HY3 HQ
          by_cases d0 : d = 0
          · have HE : Hid (t = false) := Lib.hid (by rw [← ht.out]; exact valid_no1 hlt (HO.out.2 d0))
            subst d0
            go_wp2_with fail
            go_ret
            exact ⟨ret_bool HE.out.symm, hB⟩
          · have hd0 : (d == 0) = false := by rw [beq_eq_false_iff_ne]; exact d0
            have HO2 : Hid (oriE ps i ≠ 0) := Lib.hid (fun h => d0 (HO.out.1 h))
            clear HO
            go_wp2_with fail
            go_loopw [6] (fun kv wr => ∃ k : Nat, i + 2 ≤ k ∧ (k ≤ ps.length ∨ k = i + 2) ∧ kv = .int .i64 k ∧ Hid (∀ m, m < k → meetB ps i m = false) ∧ Below w.heap.size w wr) (fun kv _ => ps.length - (intOf kv).toNat)
            case atStart => exact ⟨i + 2, Nat.le_refl _, .inr rfl, by go_num, Lib.hid (fun m hm => meet_small (by omega)), hB⟩
            case round =>
              clear hB
              obtain ⟨k, hk1, hk2, rfl, HM, hB⟩ := hrel
              have hk12 : k ≤ 14 := by omega
              by_cases hkl : k < ps.length
              · have hkli : (k : Int) < ps.length := by omega
                by_cases hz : i = 0 ∧ k + 1 = ps.length
                · have e1 : ((i : Int) != 0) = false := by rw [bne_eq_false_iff_eq]; omega
                  have e2 : ((k : Int) != (ps.length : Int) - 1) = false := by rw [bne_eq_false_iff_eq]; omega
                  have HMK : Hid (meetB ps i k = false) := Lib.hid (meet_skip (by unfold nx; rw [hz.2, Nat.mod_self, hz.1]))
                  clear hz
                  go_wp2_with fail
                  go_roundw
                  case rel => exact ⟨k + 1, by omega, by omega, by go_num, Lib.hid (fun m hm => by
                    by_cases e : m = k
                    · subst e; exact HMK.out
                    · exact HM.out m (by omega)), hB⟩
                  case measure => simp [intOf]; omega
                · obtain ⟨l, hl⟩ : ∃ l, nx ps.length k = l := ⟨_, rfl⟩
                  have hll : l < ps.length := by rw [← hl]; exact nx_lt' hkl
                  obtain ⟨j1, j2⟩ := HV.out k hkl
                  obtain ⟨j3, j4⟩ := HV.out l hll
                  obtain ⟨s, hs⟩ : ∃ s, meetB ps i k = s := ⟨_, rfl⟩
                  have hne : nx ps.length k ≠ i := by
                    intro e
                    by_cases g : k + 1 = ps.length
                    · unfold nx at e; rw [g, Nat.mod_self] at e; exact hz ⟨e.symm, g⟩
                    · unfold nx at e; rw [Nat.mod_eq_of_lt (by omega)] at e; omega
                  have HG : Hid (segB x1 y1 x2 y2 (cx ps k) (cy ps k) (cx ps l) (cy ps l) = s) := Lib.hid (by rw [← hs, meet_seg (by omega) hne, HS.out k, hl])
                  have HMS := Lib.hid hs
                  have HK : Hid (k % ps.length = k) := Lib.hid (Nat.mod_eq_of_lt hkl)
                  have HL : Hid ((k + 1) % ps.length = l) := Lib.hid hl
                  obtain ⟨x4, hx4⟩ : ∃ x, cx ps k = x := ⟨_, rfl⟩
                  obtain ⟨y4, hy4⟩ : ∃ x, cy ps k = x := ⟨_, rfl⟩
                  obtain ⟨x5, hx5⟩ : ∃ x, cx ps l = x := ⟨_, rfl⟩
                  obtain ⟨y5, hy5⟩ : ∃ x, cy ps l = x := ⟨_, rfl⟩
                  rw [hx4, hy4, hx5, hy5] at HG
                  rw [hx4] at j1
                  rw [hy4] at j2
                  rw [hx5] at j3
                  rw [hy5] at j4
                  have HX4 := Lib.hid hx4
                  have HY4 := Lib.hid hy4
                  have HX5 := Lib.hid hx5
                  have HY5 := Lib.hid hy5
                  have hg : ((i : Int) != 0) = true ∨ (((i : Int) != 0) = false ∧ ((k : Int) != (ps.length : Int) - 1) = true) := by
                    by_cases g : i = 0
                    · right
                      refine ⟨by rw [bne_eq_false_iff_eq]; omega, ?_⟩
                      rw [bne_iff_ne]; intro e; exact hz ⟨g, by omega⟩
                    · left; rw [bne_iff_ne]; omega
                  clear hx4 hy4 hx5 hy5 hs hl hne hz HS
                  rcases hg with e1 | ⟨e1, e2⟩
                  all_goals
                    go_wp2_with fail
                    refine (vat_at ao _ cap i i (i : Int) ps x1 y1 _ rfl rfl h0 (by omega) (by omega) HI HX1 HY1 (prow_below HP.out hB)).mono ?_; rintro e w1 ⟨rfl, hb⟩
                    replace hB := belT hB hb
                    clear hb
                    go_wp2_with fail
                    refine (vat_at ao _ cap (i + 1) j ((i : Int) + 1) ps x2 y2 _ (by omega) rfl h0 (by omega) (by omega) HJ HX2 HY2 (prow_below HP.out hB)).mono ?_; rintro e w2 ⟨rfl, hb⟩
                    replace hB := belT hB hb
                    clear hb
                    go_wp2_with fail
                    refine (vat_at ao _ cap k k (k : Int) ps x4 y4 _ rfl rfl h0 (by omega) (by omega) HK HX4 HY4 (prow_below HP.out hB)).mono ?_; rintro e w3 ⟨rfl, hb⟩
                    replace hB := belT hB hb
                    clear hb
                    go_wp2_with fail
                    refine (vat_at ao _ cap (k + 1) l ((k : Int) + 1) ps x5 y5 _ (by omega) rfl h0 (by omega) (by omega) HL HX5 HY5 (prow_below HP.out hB)).mono ?_; rintro e w4 ⟨rfl, hb⟩
                    replace hB := belT hB hb
                    clear hb
                    go_wp2_with fail
                    refine (vcut_is x1 y1 x2 y2 x4 y4 x5 y5 s _ i1 i2 i3 i4 j1 j2 j3 j4 HG).mono ?_; rintro e w5 ⟨rfl, hb⟩
                    replace hB := belT hB hb
                    clear hb
                    cases s
                    · go_wp2_with fail
                      go_roundw
                      case rel => exact ⟨k + 1, by omega, by omega, by go_num, Lib.hid (fun m hm => by
                        by_cases e : m = k
                        · subst e; exact HMS.out
                        · exact HM.out m (by omega)), hB⟩
                      case measure => simp [intOf]; omega
                    · have HE : Hid (t = false) := Lib.hid (by rw [← ht.out]; exact valid_no2 hlt hkl HMS.out)
                      go_wp2_with fail
                      go_ret
                      exact ⟨ret_bool HE.out.symm, hB⟩
              · have hkli : ¬ (k : Int) < ps.length := by omega
                go_wp2_with fail
                have HFN : Hid (∀ i', i' < i + 1 → oriE ps i' ≠ 0 ∧ ∀ m, m < ps.length → meetB ps i' m = false) := Lib.hid (fun i' hi' => by
                  by_cases e : i' = i
                  · subst e; exact ⟨HO2.out, fun m hm => HM.out m (by omega)⟩
                  · exact HF.out i' (by omega))
                clear HM HF
                go_roundw
                case rel => first | exact ⟨i + 1, by omega, by go_num, HFN, hB⟩ | exact ⟨i + 1, by omega, by omega, HFN⟩
                case measure => simp [intOf]; omega
        · have hin : i = ps.length := by omega
          subst hin
          obtain ⟨v, hv⟩ : ∃ v, area2 ps = v := ⟨_, rfl⟩
          have HA := Lib.hid hv
          have HE : Hid (t = decide (0 < v)) := Lib.hid (by rw [← ht.out, ← hv]; exact valid_area h3 h12 HV.out HF.out)
          clear hv HF
          go_wp2_with fail
          refine (varea_is ao _ cap ps v _ rfl HA h0 h12 (prow_below HP.out hB) HV.out).mono ?_; rintro e w1 ⟨rfl, hb⟩
          replace hB := belT hB hb
          clear hb
          go_wp2_with fail
          go_ret
          exact ⟨ret_bool HE.out.symm, hB⟩
theorem right_is (ao : Option Addr) (n cap : Nat) (ps : List (Int × Int)) (t : Bool) (w : World) (hn : ps.length = n) (ht : Hid (validP ps = t)) (hle : ps.length ≤ 9223372036854775807) (hP : PRow w ao ps) :
    Calls Tryd.prog 31 #[.slice ao n cap] w fun e w' => e = .returned (.bool t) ∧ Below w.heap.size w w' := by
  subst hn
  by_cases h3 : ps.length < 3
  · have HE : Hid (t = false) := Lib.hid (by
      rw [← ht.out]
      refine valid_no0 ?_
      unfold validC
      rw [decide_eq_false (by omega)]; rfl)
    have h3i : (ps.length : Int) < 3 := by omega
    go_enter Tryd.func31, Tryd.ntmps31
    go_wp2
    go_ret
    exact ⟨ret_bool HE.out.symm, Below.refl _ _⟩
  · by_cases h12 : ps.length ≤ 12
    · exact right_core ao cap ps t ht (by omega) h12 hP
    · have HE : Hid (t = false) := Lib.hid (by
        rw [← ht.out]
        refine valid_no0 ?_
        unfold validC
        rw [decide_eq_false (p := ps.length ≤ 12) (by omega)]; simp)
      have h3f : decide ((ps.length : Int) < 3) = false := decide_eq_false (by omega)
      have h12i : 12 < (ps.length : Int) := by omega
      go_enter Tryd.func31, Tryd.ntmps31
      go_wp2
      go_ret
      exact ⟨ret_bool HE.out.symm, Below.refl _ _⟩

/-- Are all coordinates within 30 units? -/
def smallE (ps : List (Int × Int)) (i : Nat) : Bool := decide (131820000 < mxI (cx ps i) (cy ps i)) || decide (mnI (cx ps i) (cy ps i) < -131820000)
def littleB (ps : List (Int × Int)) : Bool := validP ps && !(List.range ps.length).any (smallE ps)
theorem littleB_iff (ps : List (Int × Int)) : littleB ps = true ↔ validP ps = true ∧ AllS ps := by
  have e : ∀ i, smallE ps i = false ↔ InS (cx ps i) ∧ InS (cy ps i) := fun i => by
    have a := mxI_bd (cx ps i) (cy ps i)
    have b := mnI_bd (cx ps i) (cy ps i)
    unfold smallE InS
    rw [Bool.or_eq_false_iff, decide_eq_false_iff_not, decide_eq_false_iff_not]
    omega
  unfold littleB AllS
  rw [Bool.and_eq_true, Bool.not_eq_true', List.any_eq_false]
  constructor
  · rintro ⟨h2, h3⟩
    exact ⟨h2, fun i hi => (e i).1 (by simpa using h3 i (List.mem_range.2 hi))⟩
  · rintro ⟨h2, h3⟩
    exact ⟨h2, fun i hi => by simpa using (e i).2 (h3 i (List.mem_range.1 hi))⟩

set_option maxRecDepth 100000 in
set_option maxHeartbeats 8000000 in
theorem little_is (ao : Option Addr) (n cap : Nat) (ps : List (Int × Int)) (t : Bool) (w : World) (hn : ps.length = n) (ht : Hid (littleB ps = t)) (hle : ps.length ≤ 9223372036854775807) (hP : PRow w ao ps) :
    Calls Tryd.prog 18 #[.slice ao n cap] w fun e w' => e = .returned (.bool t) ∧ Below w.heap.size w w' := by
  subst hn
  obtain ⟨u, hu⟩ : ∃ u, validP ps = u := ⟨_, rfl⟩
  have HU := Lib.hid hu
  have HP := Lib.hid hP
  have hB : Below w.heap.size w w := Below.refl _ _
  cases u
  · have HE : Hid (t = false) := Lib.hid (by rw [← ht.out]; unfold littleB; rw [hu]; rfl)
    clear hu hP
    go_enter Tryd.func18, Tryd.ntmps18
    go_wp2_with fail
    refine (right_is ao _ cap ps false _ rfl HU hle HP.out).mono ?_; rintro e w1 ⟨rfl, hb⟩
    go_wp2_with fail
    go_ret
    exact ⟨ret_bool HE.out.symm, hb⟩
  · have HE : Hid (t = !(List.range ps.length).any (smallE ps)) := Lib.hid (by rw [← ht.out]; unfold littleB; rw [hu]; rfl)
    have h12 : ps.length ≤ 12 := by
      unfold validP at hu
      rw [Bool.and_eq_true] at hu
      exact ((validC_iff ps).1 hu.1).2.1
    clear hu hP
    go_enter Tryd.func18, Tryd.ntmps18
    go_wp2_with fail
    refine (right_is ao _ cap ps true _ rfl HU hle HP.out).mono ?_; rintro e w1 ⟨rfl, hb⟩
    replace hB := belT hB hb
    clear hb
    go_wp2_with fail
    go_loopw [3] (fun i wr => ∃ k : Nat, k ≤ ps.length ∧ i = .int .i64 k ∧ Hid (∀ j, j < k → smallE ps j = false) ∧ Below w.heap.size w wr) (fun i _ => ps.length - (intOf i).toNat)
    case atStart => exact ⟨0, Nat.zero_le _, rfl, Lib.hid (fun j hj => by omega), hB⟩
    case round =>
      clear hB
      obtain ⟨k, hk, rfl, hno, hB⟩ := hrel
      by_cases hlt : k < ps.length
      · obtain ⟨b, o, rfl, c1, c2⟩ := prow_at HP.out hlt
        have d1 := (hB.cell (World.block_lt_of_cell? w _ c1)).trans c1
        have d2 := (hB.cell (World.block_lt_of_cell? w _ c2)).trans c2
        have hki : (k : Int) < ps.length := by omega
        have zb := World.block_lt_of_cell? wr _ d1
        have HX : Hid (smallE ps k = (decide (131820000 < mxI (cx ps k) (cy ps k)) || decide (mnI (cx ps k) (cy ps k) < -131820000))) := Lib.hid rfl
        have q1 := run_max2 (cx ps k) (cy ps k)
        have q2 := run_min2 (cx ps k) (cy ps k)
        clear c1 c2
        generalize cx ps k = x at *
        generalize cy ps k = y at *
        generalize mxI x y = M at *
        generalize mnI x y = m at *
        go_upto_region 6 with fail
        by_cases g1 : 131820000 < M
        · have HN : Hid (t = false) := Lib.hid (by rw [HE.out, show (List.range ps.length).any (smallE ps) = true from List.any_eq_true.2 ⟨k, List.mem_range.2 hlt, by rw [HX.out, decide_eq_true g1]; rfl⟩]; rfl)
          have g1t : decide (131820000 < M) = true := decide_eq_true g1
          go_region
          all_goals
            go_wp2_with fail
            go_ret
            exact ⟨ret_bool HN.out.symm, hB.drew⟩
        · have g1f : decide (131820000 < M) = false := decide_eq_false g1
          by_cases g2 : m < -131820000
          · have HN : Hid (t = false) := Lib.hid (by rw [HE.out, show (List.range ps.length).any (smallE ps) = true from List.any_eq_true.2 ⟨k, List.mem_range.2 hlt, by rw [HX.out, decide_eq_true g2]; simp⟩]; rfl)
            go_region
            all_goals
              go_wp2_with fail
              go_ret
              exact ⟨ret_bool HN.out.symm, hB.drew⟩
          · have g2f : decide (m < -131820000) = false := decide_eq_false g2
            have HN : Hid (smallE ps k = false) := Lib.hid (by rw [HX.out, g1f, g2f]; rfl)
            go_region
            all_goals
              go_wp2_with fail
              go_roundw
              case rel => exact ⟨k + 1, by omega, by go_num, Lib.hid (fun j hj => by
                by_cases e : j = k
                · subst e; exact HN.out
                · exact hno.out j (by omega)), hB.drew⟩
              case measure => simp [intOf]; omega
      · have HN : Hid (t = true) := Lib.hid (by
          rw [HE.out, show (List.range ps.length).any (smallE ps) = false from List.any_eq_false.2 fun j hj => by rw [hno.out j (by have := List.mem_range.1 hj; omega)]; simp]
          rfl)
        clear hno
        go_wp2_with fail
        go_ret
        exact ⟨ret_bool HN.out.symm, hB⟩
end Go.Proofs.YthmcejeeohlafaaDoor
