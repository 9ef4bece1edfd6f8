/- Proved: if Region succeeds, its result is strictly convex and contains all corners and all outer points; if it fails, all of these points are collinear (the law SweepEnds returns true).
Conditions: none on the arguments. -/
import Derived.Test.YtnpadblfpaiofaaSwJ
import Derived.Test.YtnpadblfpaiofaaHlT
namespace Go.Proofs.Ytnpadblfpaiofaa.sweepEnds
open Go.ChangeShapes Go.WideShapes Go.ChangeAt Go.RowKit
set_option linter.unusedVariables false
set_option linter.unusedSimpArgs false

set_option maxRecDepth 100000 in
set_option maxHeartbeats 16000000 in
theorem walk {w : World} (X Y : Int) (ao : Option Addr) (ca : Nat) (l : List (Int × Int)) (nl : l.length ≤ 9223372036854775807) (hA : PRow w ao l) (bo : Option Addr) (cb : Nat) (m : List (Int × Int)) (nm : m.length ≤ 9223372036854775807) (hB : PRow w bo m) (W' : World) (hw : w = W') :
    Calls Try.prog 5 #[.agg #[.int .i64 X, .int .i64 Y], .slice ao l.length ca, .slice bo m.length cb] w fun e w' => e = .returned (.bool true) ∧ Below w.heap.size w w' := by
  have PA := Lib.hid hA
  have PB := Lib.hid hB
  clear hA hB hw
  obtain ⟨x, hx⟩ : ∃ x, fitI X = x := ⟨_, rfl⟩
  obtain ⟨y, hy⟩ : ∃ y, fitI Y = y := ⟨_, rfl⟩
  have HX := Lib.hid hx
  have HY := Lib.hid hy
  have BX := Lib.hid (show -10000000 ≤ x ∧ x ≤ 10000000 by rw [← hx]; exact fit_bd X)
  have BY := Lib.hid (show -10000000 ≤ y ∧ y ≤ 10000000 by rw [← hy]; exact fit_bd Y)
  have EX := Lib.hid (show In8 x by rw [← hx]; exact fit_in8 X)
  have EY := Lib.hid (show In8 y by rw [← hy]; exact fit_in8 Y)
  obtain ⟨a, ha⟩ : ∃ a, sameL l m = a := ⟨_, rfl⟩
  obtain ⟨b, hb⟩ : ∃ b, sameR l m = b := ⟨_, rfl⟩
  obtain ⟨n, hn⟩ : ∃ n, sameN l m = n := ⟨_, rfl⟩
  have HA := Lib.hid ha
  have HB := Lib.hid hb
  have HN := Lib.hid hn
  have TA := Lib.hid (show Small7 a by rw [← ha]; exact (same_small l m).1)
  have TB := Lib.hid (show Small7 b by rw [← hb]; exact (same_small l m).2)
  have SA := Lib.hid (small78 TA.out)
  have SB := Lib.hid (small78 TB.out)
  have LA := Lib.hid (show a.length = n by rw [← ha, ← hn]; exact (same_len l m).1)
  have LB := Lib.hid (show b.length = n by rw [← hb, ← hn]; exact (same_len l m).2.1)
  have n12 : n ≤ 12 := by rw [← hn]; exact (same_len l m).2.2
  clear hx hy ha hb hn
  go_enter Try.func5, Try.ntmps5
  go_wp2_with fail
  refine (head6_is _).mono ?_
  rintro e w1 ⟨rfl, hb1⟩
  replace PA := Lib.hid (prow_below (prow_alloc PA.out (.cells #[.int .i64 X, .int .i64 Y] 35)) hb1)
  replace PB := Lib.hid (prow_below (prow_alloc PB.out (.cells #[.int .i64 X, .int .i64 Y] 35)) hb1)
  have ZB := Lib.hid (blk_call (blk_new w (.cells #[.int .i64 X, .int .i64 Y] 35) (w.heap.size) rfl) hb1)
  have B := Lib.hid (belT (belA (Below.refl _ w) (.cells #[.int .i64 X, .int .i64 Y] 35)) hb1)
  clear hb1
  have z0 := blk_cell ZB.out 0 _ rfl
  have z1 := blk_cell ZB.out 1 _ rfl
  go_wp2_with fail
  refine (fit_is X Y x y _ HX HY).mono ?_
  rintro e w2 ⟨rfl, hb2⟩
  clear z0 z1
  replace PA := Lib.hid (prow_below PA.out hb2)
  replace PB := Lib.hid (prow_below PB.out hb2)
  replace ZB := Lib.hid (blk_call ZB.out hb2)
  replace B := Lib.hid (belT B.out hb2)
  clear hb2
  clear ZB
  go_wp2_with fail
  refine (same6_is ao bo _ _ ca cb l m a b n _ rfl rfl HA HB HN nl nm (prow_alloc PA.out (.cells #[.int .i64 x, .int .i64 y] 35)) (prow_alloc PB.out (.cells #[.int .i64 x, .int .i64 y] 35))).mono ?_
  rintro e w3 ⟨⟨ao1, bo1, ca1, cb1, rfl, hca, hcb, hp, hq⟩, hb3⟩
  replace PA := Lib.hid (prow_below (prow_alloc PA.out (.cells #[.int .i64 x, .int .i64 y] 35)) hb3)
  replace PB := Lib.hid (prow_below (prow_alloc PB.out (.cells #[.int .i64 x, .int .i64 y] 35)) hb3)
  have ZO := Lib.hid (blk_call (blk_new w2 (.cells #[.int .i64 x, .int .i64 y] 35) (w2.heap.size) rfl) hb3)
  replace B := Lib.hid (belT (belA B.out (.cells #[.int .i64 x, .int .i64 y] 35)) hb3)
  clear hb3
  have QA := Lib.hid hp
  have QB := Lib.hid hq
  clear hp hq PA PB HA HB
  generalize hzo : w2.heap.size = zo at *
  obtain ⟨u, hu⟩ : ∃ u, hullL (ptsL (x, y) a b) = u := ⟨_, rfl⟩
  have HU : Hid (regL (x, y) a b = u) := Lib.hid (by rw [← hu]; exact if_pos ⟨by rw [LA.out, LB.out], by rw [LA.out]; exact n12⟩)
  obtain ⟨t, ht⟩ : ∃ t, decide (u ≠ []) = t := ⟨_, rfl⟩
  have HT := Lib.hid ht
  have hul : u.length ≤ 36 := by rw [← HU.out]; exact reg_len
  have VU := Lib.hid (show AllV u by rw [← HU.out]; exact reg_allV (o := (x, y)) EX.out EY.out SA.out SB.out)
  have VO := Lib.hid (out_allV (o := (x, y)) EX.out EY.out SA.out SB.out)
  have VP := Lib.hid (pts_allV (o := (x, y)) EX.out EY.out SA.out SB.out)
  have HC : Hid ((u = [] ∧ ∀ p ∈ ptsL (x, y) a b, ∀ q ∈ ptsL (x, y) a b, ∀ r ∈ ptsL (x, y) a b, dt p q r = 0) ∨ (u ≠ [] ∧ IsHull (ptsL (x, y) a b) u)) := Lib.hid (by rw [← hu]; exact hull_cases _)
  clear hu ht
  have z0 := blk_cell ZO.out 0 _ rfl
  have z1 := blk_cell ZO.out 1 _ rfl
  go_wp2_with fail
  refine (region_is ao1 bo1 _ _ ca1 cb1 x y a b u t _ LA.out LB.out HU HT (by omega) (by omega) QA.out QB.out (small8_V SA.out) (small8_V SB.out) (in8_V EX.out) (in8_V EY.out) VO.out).mono ?_
  rintro e w4 ⟨⟨po, pc, rfl, hp⟩, hb4⟩
  clear z0 z1
  replace ZO := Lib.hid (blk_call ZO.out hb4)
  replace QA := Lib.hid (prow_below QA.out hb4)
  replace QB := Lib.hid (prow_below QB.out hb4)
  replace B := Lib.hid (belT B.out hb4)
  clear hb4
  have QP := Lib.hid hp
  clear hp
  have z0 := blk_cell ZO.out 0 _ rfl
  have z1 := blk_cell ZO.out 1 _ rfl
  obtain ⟨P, hP⟩ : ∃ P, ptsL (x, y) a b = P := ⟨_, rfl⟩
  have HP := Lib.hid hP
  have hPl : P.length ≤ 36 := by rw [← hP, pts_len (by rw [LA.out, LB.out]), LA.out]; omega
  rw [hP] at HC VP
  clear hP
  go_wp2_with fail
  refine (points_is ao1 bo1 _ ca1 cb1 x y a b P _ LA.out LB.out HP (by omega) QA.out QB.out (small8_V SA.out) (small8_V SB.out) (in8_V EX.out) (in8_V EY.out)).mono ?_
  rintro e w5 ⟨⟨lo, lc, rfl, hp⟩, hb5⟩
  clear z0 z1
  replace ZO := Lib.hid (blk_call ZO.out hb5)
  replace QA := Lib.hid (prow_below QA.out hb5)
  replace QB := Lib.hid (prow_below QB.out hb5)
  replace QP := Lib.hid (prow_below QP.out hb5)
  replace B := Lib.hid (belT B.out hb5)
  clear hb5
  have QL := Lib.hid hp
  clear hp
  cases t with
  | false =>
    obtain rfl : u = [] := by simpa using HT.out
    have HZ : Hid (∀ p ∈ P, ∀ q ∈ P, ∀ r ∈ P, dt p q r = 0) := Lib.hid (HC.out.elim (fun h => h.2) (fun h => absurd rfl h.1))
    clear HC QA QB ZO
    go_wp2
    go_loopw [14] (fun i wr => ∃ k : Nat, k ≤ P.length ∧ i = .int .i64 k ∧ Below w5.heap.size w5 wr) (fun i _ => P.length - (intOf i).toNat)
    case atStart => exact ⟨0, Nat.zero_le _, rfl, Below.refl _ _⟩
    case round =>
      obtain ⟨i, hi, rfl, hBx⟩ := hrel
      have HBX := Lib.hid hBx
      clear hBx
      by_cases hil : i < P.length
      · have hili : (i : Int) < P.length := by omega
        go_wp2
        go_loopw [15] (fun s wx => ∃ k : Nat, k ≤ i ∧ s = .int .i64 k ∧ Below w5.heap.size w5 wx) (fun s _ => i - (intOf s).toNat)
        case atStart => exact ⟨0, Nat.zero_le _, rfl, HBX.out⟩
        case round =>
          obtain ⟨k, hk, rfl, hBx⟩ := hrel
          replace HBX := Lib.hid hBx
          clear hBx
          by_cases hki : k < i
          · have hkii : (k : Int) < (i : Int) := by omega
            go_wp2
            go_loopw [16] (fun s wy => ∃ j : Nat, j ≤ k ∧ s = .int .i64 j ∧ Below w5.heap.size w5 wy) (fun s _ => k - (intOf s).toNat)
            case atStart => exact ⟨0, Nat.zero_le _, rfl, HBX.out⟩
            case round =>
              obtain ⟨j, hj, rfl, hBx⟩ := hrel
              replace HBX := Lib.hid hBx
              clear hBx
              by_cases hjk : j < k
              · have hjki : (j : Int) < (k : Int) := by omega
                have hkl : k < P.length := by omega
                have hjl : j < P.length := by omega
                have hkl' : (k : Int) < P.length := by omega
                have hjl' : (j : Int) < P.length := by omega
                obtain ⟨b1, o1, rfl, c1, c2⟩ := prow_at (prow_below QL.out HBX.out) hil
                obtain ⟨b', o', ho', c3, c4⟩ := prow_at (prow_below QL.out HBX.out) hkl
                obtain ⟨rfl, rfl⟩ : b1 = b' ∧ o1 = o' := by simpa using ho'
                clear ho'
                obtain ⟨b', o', ho', c5, c6⟩ := prow_at (prow_below QL.out HBX.out) hjl
                obtain ⟨rfl, rfl⟩ : b1 = b' ∧ o1 = o' := by simpa using ho'
                clear ho'
                have v1 := VP.out i hil
                have v2 := VP.out k hkl
                have v3 := VP.out j hjl
                have hd : det (cx P i) (cy P i) (cx P k) (cy P k) (cx P j) (cy P j) = 0 := HZ.out _ (gp_mem hil) _ (gp_mem hkl) _ (gp_mem hjl)
                have C := Lib.hid (fun W => side_gr (cx P i) (cy P i) (cx P k) (cy P k) (cx P j) (cy P j) 0 W v1.1 v1.2 v2.1 v2.2 v3.1 v3.2 (Lib.hid hd))
                have zb : b1 < _ := World.block_lt_of_cell? _ _ c1
                clear v1 v2 v3 hd
                generalize cx P i = p1 at *
                generalize cy P i = p2 at *
                generalize cx P k = q1 at *
                generalize cy P k = q2 at *
                generalize cx P j = r1 at *
                generalize cy P j = r2 at *
                have G1 := fun n os => cell_grown (n := n) (os := os) zb c1
                have G2 := fun n os => cell_grown (n := n) (os := os) zb c2
                have G3 := fun n os => cell_grown (n := n) (os := os) zb c3
                have G4 := fun n os => cell_grown (n := n) (os := os) zb c4
                have G5 := fun n os => cell_grown (n := n) (os := os) zb c5
                have G6 := fun n os => cell_grown (n := n) (os := os) zb c6
                clear c1 c2 c3 c4 c5 c6
                go_upto_region 16 with fail
                refine wq_region mixedP (by kernel_rfl) ?_
                repeat (refine wq_step (fun K hK => ?_); go_simp; first | (refine hK _ ?_; clear hK K) | (apply Exists.intro; refine ⟨fun _ => ?_, hK _ ?_⟩; (first | (go_at_call 30; refine Calls.grown_of (C.out _))); clear hK K))
                refine wq_nil ?_
                intro _ hw'
                obtain ⟨⟨nq, osq⟩, hw''⟩ := hw'
                subst hw''
                have HB8 := Lib.hid (belT HBX.out (below_gr _ nq osq))
                clear G1 G2 G3 G4 G5 G6
                go_wp2
                go_roundw
                case rel => exact ⟨j + 1, by omega, by go_num, HB8.out⟩
                case measure => simp [intOf]; omega
              · have hjki : ¬ (j : Int) < (k : Int) := by omega
                go_wp2
                go_roundw
                case rel => exact ⟨k + 1, by omega, by go_num, HBX.out⟩
                case measure => simp [intOf]; omega
          · have hkii : ¬ (k : Int) < (i : Int) := by omega
            go_wp2
            go_roundw
            case rel => exact ⟨i + 1, by omega, by go_num, HBX.out⟩
            case measure => simp [intOf]; omega
      · have hili : ¬ (i : Int) < P.length := by omega
        have HB9 := Lib.hid (belT B.out HBX.out)
        go_wp2
        go_ret
        exact ⟨rfl, HB9.out⟩
  | true =>
    have hI : IsHull P u := HC.out.elim (fun h => absurd h.1 (by have := HT.out; simpa using this)) (fun h => h.2)
    have HI := Lib.hid hI
    have hu0 : 0 < u.length := by have := hI.1.1; omega
    have HCV : Hid (convB u = true) := Lib.hid ((convB_iff u).2 hI.1)
    clear HC QA QB ZO hI
    go_wp2
    go_loopw [17] (fun i wr => ∃ k : Nat, k ≤ P.length ∧ i = .int .i64 k ∧ Below w5.heap.size w5 wr) (fun i _ => P.length - (intOf i).toNat)
    case atStart => exact ⟨0, Nat.zero_le _, rfl, Below.refl _ _⟩
    case round =>
      obtain ⟨i, hi, rfl, hBx⟩ := hrel
      have HBX := Lib.hid hBx
      clear hBx
      by_cases hil : i < P.length
      · have hili : (i : Int) < P.length := by omega
        obtain ⟨b1, o1, rfl, c1, c2⟩ := prow_at (prow_below QL.out HBX.out) hil
        have v1 := VP.out i hil
        have HIN : Hid (inAll u (cx P i, cy P i)) := Lib.hid (fun k hk => HI.out.2.2.1 k hk _ (gp_mem hil))
        have V1 := Lib.hid v1
        clear v1
        generalize cx P i = p1 at *
        generalize cy P i = p2 at *
        go_wp2_with fail
        refine (in6_is po _ pc u p1 p2 wr rfl hu0 (by omega) (prow_below QP.out HBX.out) VU.out V1.out.1 V1.out.2 HIN).mono ?_
        rintro e w9 ⟨rfl, hb⟩
        have HB8 := Lib.hid (belT HBX.out hb)
        clear hb c1 c2
        go_wp2
        go_roundw
        case rel => exact ⟨i + 1, by omega, by go_num, HB8.out⟩
        case measure => simp [intOf]; omega
      · have hili : ¬ (i : Int) < P.length := by omega
        have HB9 := Lib.hid (belT B.out HBX.out)
        go_wp2_with fail
        refine (conv4_is po _ pc u true wr rfl HCV (by omega) (prow_below QP.out HBX.out) VU.out).mono ?_
        rintro e w9 ⟨rfl, hb⟩
        have HB10 := Lib.hid (belT HB9.out hb)
        clear hb
        go_wp2
        go_ret
        exact ⟨rfl, HB10.out⟩

set_option maxRecDepth 100000 in
theorem lifted (os : Os) (started : os.Started) (H : Type) (enc : TypeId × Value → H) :
    ReturnsInHanded {} Try.checked os 5 .any (Rows.sweepEndsSpec.pre6 enc Try.prog Try.f5 Rows.sweepEndsRow.domain false) (Rows.sweepEndsSpec.post enc Try.prog Try.f5 false true false false) := by
  refine returnsInHanded_of_change (C := Try.checked) HFr.own started (by kernel_rfl) Try.func5
    (ChangeSpec.witness6 (enc := enc) (C := Try.checked) false ⟨#[], #[.agg #[.int .i64 0, .int .i64 0], .slice none 0 0, .slice none 0 0], []⟩ 8 (by kernel_rfl) (by kernel_rfl) (by kernel_rfl) (by kernel_rfl)) ?_
  intro W base args ds gs before hval0 hW hcnd _
  have hval : ∀ (j : Nat) t v, Try.f5.params[j]? = some t → args[j]? = some v → Value.okWide Try.prog W .any base t v := hval0
  have hW' := hW
  obtain ⟨p, q, hA0, hV, rfl, hfz, hnd⟩ := hW
  have hA : DataW.TrodAll enc Try.prog W 0 (fun _ => true) true Try.f5.params.toList args.toList ds p := hA0
  rw [Try.params5] at hA hval
  obtain ⟨v0, vs0, d0, ds0, p0, q0, hargs, rfl, rfl, h0, r0⟩ := trodAll_cons hA
  obtain ⟨v1, vs1, d1, ds1, p1, q1, rfl, rfl, rfl, h1, r1⟩ := trodAll_cons r0
  obtain ⟨v2, vs2, d2, ds2, p2, q2, rfl, rfl, rfl, h2, r2⟩ := trodAll_cons r1
  obtain ⟨rfl, rfl, rfl⟩ := trodAll_nil r2
  obtain rfl : args = #[v0, v1, v2] := by cases args; simp_all
  obtain ⟨rfl, rfl⟩ := trodVars_none hV
  have k0 := h0
  have lt0 : ∀ x ∈ p0, x.block < W.heap.size := by obtain ⟨m, hm⟩ := k0; exact DataW.trod_lt m _ _ _ hm
  obtain ⟨x0, y0, rfl⟩ := HFr.open_pt (hval 0 35 v0 rfl rfl) h0
  have k1 := h1
  have lt1 : ∀ x ∈ p1, x.block < W.heap.size := by obtain ⟨m, hm⟩ := k1; exact DataW.trod_lt m _ _ _ hm
  obtain ⟨a1, cap1, l1, rfl, n1, w1⟩ := HFr.open_pts (hval 1 22 v1 rfl rfl) h1
  have k2 := h2
  have lt2 : ∀ x ∈ p2, x.block < W.heap.size := by obtain ⟨m, hm⟩ := k2; exact DataW.trod_lt m _ _ _ hm
  obtain ⟨a2, cap2, l2, rfl, n2, w2⟩ := HFr.open_pts (hval 2 22 v2 rfl rfl) h2
  clear hA0 hval0
  refine (walk x0 y0 a1 cap1 l1 n1 w1 a2 cap2 l2 n2 w2 W rfl).mono fun e W' ⟨he, bel⟩ => ?_
  subst he
  exact ⟨_, rfl, _, _, _, [], _, [], hW', trodAll_mk1 (shut_bool Try.underlying4 _), (trodAll_cons_mk (Below.trod HFr.laidOut (by kernel_rfl) (of_decide_eq_true (by kernel_rfl)) k0 bel lt0) (trodAll_cons_mk (Below.trod HFr.laidOut (by kernel_rfl) (of_decide_eq_true (by kernel_rfl)) k1 bel lt1) (trodAll_cons_mk (Below.trod HFr.laidOut (by kernel_rfl) (of_decide_eq_true (by kernel_rfl)) k2 bel lt2) trodAll_mk0))), rfl, bel.frame _, fun h => by cases h⟩

/-- THE STATEMENT. -/
theorem holds : Rows.SweepEndsSaid :=
  OpenClaim.holds_of_wide 5 Try.f5 rfl rfl rfl rfl rfl rfl rfl ⟨rfl, rfl, rfl, rfl, rfl⟩ rfl rfl rfl rfl rfl (by kernel_rfl) Try.func5 (by kernel_rfl)
    (of_decide_eq_true (by kernel_rfl)) (by unfold Func.isWrapper; first | (rw [if_pos (by decide +kernel)]; kernel_rfl) | (rw [if_neg (by decide +kernel)]; exact ⟨rfl, rfl⟩))
    (fun os started H enc _ => lifted os started H enc)
#print axioms holds
end Go.Proofs.Ytnpadblfpaiofaa.sweepEnds
