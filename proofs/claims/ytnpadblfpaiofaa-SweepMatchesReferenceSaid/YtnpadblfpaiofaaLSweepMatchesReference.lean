/- Proved: ArcBound and Region answer as the reference does (the law SweepMatchesReference returns true).
Conditions: none on the arguments. -/
import Derived.Test.YtnpadblfpaiofaaSwJ
import Derived.Test.YtnpadblfpaiofaaHlT
namespace Go.Proofs.Ytnpadblfpaiofaa.sweepMatchesReference
open Go.ChangeShapes Go.WideShapes Go.ChangeAt Go.RowKit
set_option linter.unusedVariables false
set_option linter.unusedSimpArgs false

set_option maxRecDepth 100000 in
set_option maxHeartbeats 16000000 in
theorem walk {w : World} (X Y : Int) (ao : Option Addr) (ca : Nat) (l : List (Int × Int)) (nl : l.length ≤ 9223372036854775807) (hA : PRow w ao l) (bo : Option Addr) (cb : Nat) (m : List (Int × Int)) (nm : m.length ≤ 9223372036854775807) (hB : PRow w bo m) (W' : World) (hw : w = W') :
    Calls Try.prog 4 #[.agg #[.int .i64 X, .int .i64 Y], .slice ao l.length ca, .slice bo m.length cb] w fun e w' => e = .returned (.bool true) ∧ Below w.heap.size w w' := by
  have PA := Lib.hid hA
  have PB := Lib.hid hB
  clear hA hB hw
  obtain ⟨x, hx⟩ : ∃ x, fitI X = x := ⟨_, rfl⟩
  obtain ⟨y, hy⟩ : ∃ y, fitI Y = y := ⟨_, rfl⟩
  have HX := Lib.hid hx
  have HY := Lib.hid hy
  have BX := Lib.hid (show In8 x by rw [← hx]; exact fit_in8 X)
  have BY := Lib.hid (show In8 y by rw [← hy]; exact fit_in8 Y)
  obtain ⟨a, ha⟩ : ∃ a, fitsM l = a := ⟨_, rfl⟩
  obtain ⟨b, hb⟩ : ∃ b, fitsM m = b := ⟨_, rfl⟩
  have HA := Lib.hid ha
  have HB := Lib.hid hb
  have SA := Lib.hid (show Small8 a by rw [← ha]; exact small78 (fitsM_small l))
  have SB := Lib.hid (show Small8 b by rw [← hb]; exact small78 (fitsM_small m))
  have la : a.length ≤ 14 := by rw [← ha]; exact (fitsM_len l).1
  have lb : b.length ≤ 14 := by rw [← hb]; exact (fitsM_len m).1
  clear hx hy ha hb
  go_enter Try.func4, Try.ntmps4
  go_wp2_with fail
  refine (head6_is _).mono ?_
  rintro e w1 ⟨rfl, hb1⟩
  replace PA := Lib.hid (prow_below (prow_alloc PA.out (.cells #[.int .i64 X, .int .i64 Y] 35)) hb1)
  replace PB := Lib.hid (prow_below (prow_alloc PB.out (.cells #[.int .i64 X, .int .i64 Y] 35)) hb1)
  have ZB := Lib.hid (blk_call (blk_new w (.cells #[.int .i64 X, .int .i64 Y] 35) (w.heap.size) rfl) hb1)
  have B := Lib.hid (belT (belA (Below.refl _ w) (.cells #[.int .i64 X, .int .i64 Y] 35)) hb1)
  clear hb1
  have z0 := blk_cell ZB.out 0 _ rfl
  have z1 := blk_cell ZB.out 1 _ rfl
  go_wp2_with fail
  refine (fit_is X Y x y _ HX HY).mono ?_
  rintro e w2 ⟨rfl, hb2⟩
  clear z0 z1
  replace PA := Lib.hid (prow_below PA.out hb2)
  replace PB := Lib.hid (prow_below PB.out hb2)
  replace ZB := Lib.hid (blk_call ZB.out hb2)
  replace B := Lib.hid (belT B.out hb2)
  clear hb2
  clear ZB
  skip
  go_wp2_with fail
  refine (fits6_is ao _ ca l a _ rfl HA nl (prow_alloc PA.out (.cells #[.int .i64 x, .int .i64 y] 35))).mono ?_
  rintro e w3 ⟨⟨ao1, ca1, rfl, _, hp⟩, hb3⟩
  replace PA := Lib.hid (prow_below (prow_alloc PA.out (.cells #[.int .i64 x, .int .i64 y] 35)) hb3)
  replace PB := Lib.hid (prow_below (prow_alloc PB.out (.cells #[.int .i64 x, .int .i64 y] 35)) hb3)
  have ZO := Lib.hid (blk_call (blk_new w2 (.cells #[.int .i64 x, .int .i64 y] 35) (w2.heap.size) rfl) hb3)
  replace B := Lib.hid (belT (belA B.out (.cells #[.int .i64 x, .int .i64 y] 35)) hb3)
  clear hb3
  have QA := Lib.hid hp
  clear hp
  go_wp2_with fail
  refine (fits6_is bo _ cb m b _ rfl HB nm PB.out).mono ?_
  rintro e w4 ⟨⟨bo1, cb1, rfl, _, hp⟩, hb4⟩
  replace PA := Lib.hid (prow_below PA.out hb4)
  replace PB := Lib.hid (prow_below PB.out hb4)
  replace ZO := Lib.hid (blk_call ZO.out hb4)
  replace QA := Lib.hid (prow_below QA.out hb4)
  replace B := Lib.hid (belT B.out hb4)
  clear hb4
  have QB := Lib.hid hp
  clear hp
  clear PA PB HA HB
  generalize hzo : w2.heap.size = zo at *
  go_wp2_with fail
  go_loopw [11] (fun i wr => ∃ k : Nat, k ≤ a.length ∧ i = .int .i64 k ∧ Below w4.heap.size w4 wr) (fun i _ => a.length - (intOf i).toNat)
  case atStart => exact ⟨0, Nat.zero_le _, rfl, Below.refl _ _⟩
  case round =>
    obtain ⟨k, hk, rfl, hBx⟩ := hrel
    have HBX := Lib.hid hBx
    clear hBx
    by_cases hka : k < a.length
    · have hkai : (k : Int) < a.length := by omega
      by_cases hkb : k < b.length
      · have hkbi : (k : Int) < b.length := by omega
        obtain ⟨p, q, rfl, c1, c2⟩ := prow_at (prow_below QA.out HBX.out) hka
        obtain ⟨p', q', rfl, c3, c4⟩ := prow_at (prow_below QB.out HBX.out) hkb
        have va := small8_V SA.out k hka
        have vb := small8_V SB.out k hkb
        obtain ⟨r, hr⟩ : ∃ r, outP (x, y) (cx a k, cy a k) (cx b k, cy b k) = r := ⟨_, rfl⟩
        have C1 := Lib.hid (fun P : BlwBy wr => arc_is x y (cx a k) (cy a k) (cx b k) (cy b k) r P.x (in8_V BX.out) (in8_V BY.out) va.1 va.2 vb.1 vb.2 (Lib.hid hr))
        have C2 := Lib.hid (fun P : BlwBy wr => outer_is x y (cx a k) (cy a k) (cx b k) (cy b k) r P.x (in8_V BX.out) (in8_V BY.out) va.1 va.2 vb.1 vb.2 (Lib.hid hr))
        clear hr va vb
        have X2 := blk_call ZO.out HBX.out
        have x0 := blk_cell X2 0 _ rfl
        have x1 := blk_cell X2 1 _ rfl
        have z1 : p < wr.heap.size := World.block_lt_of_cell? wr _ c1
        have z2 : p' < wr.heap.size := World.block_lt_of_cell? wr _ c3
        have z3 := blk_lt X2
        generalize cx a k = x1' at *
        generalize cy a k = x2' at *
        generalize cx b k = y1' at *
        generalize cy b k = y2' at *
        have G1 := fun P => cell_blw (w := wr) (a := ⟨p, q + k * 2, none⟩) z1 c1 P
        have G2 := fun P => cell_blw (w := wr) (a := ⟨p, q + k * 2 + 1, none⟩) z1 c2 P
        have G3 := fun P => cell_blw (w := wr) (a := ⟨p', q' + k * 2, none⟩) z2 c3 P
        have G4 := fun P => cell_blw (w := wr) (a := ⟨p', q' + k * 2 + 1, none⟩) z2 c4 P
        have G5 := fun P => cell_blw (w := wr) (a := ⟨zo, 0, none⟩) z3 x0 P
        have G6 := fun P => cell_blw (w := wr) (a := ⟨zo, 1, none⟩) z3 x1 P
        clear c1 c2 c3 c4 x0 x1 X2
        go_upto_region 8 with fail
        refine wb_region mixedP (by kernel_rfl) ?_
        repeat (refine wq_step (fun K hK => ?_); go_simp; first | (refine hK _ ?_; clear hK K) | (apply Exists.intro; refine ⟨fun _ => ?_, hK _ ?_⟩; (first | (go_at_call 24; refine Calls.blw_of (C1.out _)) | (go_at_call 25; refine Calls.blw_of (C2.out _))); clear hK K))
        refine wq_nil ?_
        intro _ hw'
        obtain ⟨pb, hw''⟩ := hw'
        subst hw''
        clear G1 G2 G3 G4 G5 G6 C1 C2
        have HB6 := Lib.hid (HBX.out.trans (pb.hb.mono HBX.out.size))
        obtain ⟨w6, hb6⟩ := pb
        change Hid (Below w4.heap.size w4 w6) at HB6
        dsimp only
        clear hb6 z1 z2 z3
        go_wp2
        go_roundw
        case rel => exact ⟨k + 1, by omega, by go_num, HB6.out⟩
        case measure => simp [intOf]; omega
      · have hkbi : ¬ (k : Int) < b.length := by omega
        replace B := Lib.hid (belT B.out HBX.out)
        replace QA := Lib.hid (prow_below QA.out HBX.out)
        replace QB := Lib.hid (prow_below QB.out HBX.out)
        replace ZO := Lib.hid (blk_call ZO.out HBX.out)
        obtain ⟨u, hu⟩ : ∃ u, regL (x, y) a b = u := ⟨_, rfl⟩
        obtain ⟨t, ht⟩ : ∃ t, decide (u ≠ []) = t := ⟨_, rfl⟩
        have HU := Lib.hid hu
        have HT := Lib.hid ht
        have hul : u.length ≤ 36 := by rw [← hu]; exact reg_len
        have VO := Lib.hid (out_allV (o := (x, y)) BX.out BY.out SA.out SB.out)
        clear hu ht
        have z0 := blk_cell ZO.out 0 _ rfl
        have z1 := blk_cell ZO.out 1 _ rfl
        go_wp2_with fail
        refine (region_is ao1 bo1 _ _ ca1 cb1 x y a b u t _ rfl rfl HU HT (by omega) (by omega) QA.out QB.out (small8_V SA.out) (small8_V SB.out) (in8_V BX.out) (in8_V BY.out) VO.out).mono ?_
        rintro e w21 ⟨⟨u1o, u1c, rfl, hp⟩, hb21⟩
        clear z0 z1
        replace QA := Lib.hid (prow_below QA.out hb21)
        replace QB := Lib.hid (prow_below QB.out hb21)
        replace ZO := Lib.hid (blk_call ZO.out hb21)
        replace B := Lib.hid (belT B.out hb21)
        clear hb21
        have Ru1 := Lib.hid hp
        clear hp
        have z0 := blk_cell ZO.out 0 _ rfl
        have z1 := blk_cell ZO.out 1 _ rfl
        go_wp2_with fail
        refine (swept_is ao1 bo1 _ _ ca1 cb1 x y a b u t _ rfl rfl HU HT (by omega) (by omega) QA.out QB.out (small8_V SA.out) (small8_V SB.out) (in8_V BX.out) (in8_V BY.out) VO.out).mono ?_
        rintro e w22 ⟨⟨u2o, u2c, rfl, hp⟩, hb22⟩
        clear z0 z1
        replace QA := Lib.hid (prow_below QA.out hb22)
        replace QB := Lib.hid (prow_below QB.out hb22)
        replace ZO := Lib.hid (blk_call ZO.out hb22)
        replace Ru1 := Lib.hid (prow_below Ru1.out hb22)
        replace B := Lib.hid (belT B.out hb22)
        clear hb22
        have Ru2 := Lib.hid hp
        clear hp
        go_wp2_with fail
        refine (same_is u1o u2o _ _ u1c u2c u u true _ rfl rfl (Lib.hid (decide_eq_true rfl)) (by omega) (by omega) Ru1.out Ru2.out).mono ?_
        rintro e w23 ⟨rfl, hb23⟩
        replace QA := Lib.hid (prow_below QA.out hb23)
        replace QB := Lib.hid (prow_below QB.out hb23)
        replace ZO := Lib.hid (blk_call ZO.out hb23)
        replace Ru1 := Lib.hid (prow_below Ru1.out hb23)
        replace Ru2 := Lib.hid (prow_below Ru2.out hb23)
        replace B := Lib.hid (belT B.out hb23)
        clear hb23
        go_wp2_with fail
        go_ret
        exact ⟨rfl, B.out⟩
    · have hkai : ¬ (k : Int) < a.length := by omega
      replace B := Lib.hid (belT B.out HBX.out)
      replace QA := Lib.hid (prow_below QA.out HBX.out)
      replace QB := Lib.hid (prow_below QB.out HBX.out)
      replace ZO := Lib.hid (blk_call ZO.out HBX.out)
      obtain ⟨u, hu⟩ : ∃ u, regL (x, y) a b = u := ⟨_, rfl⟩
      obtain ⟨t, ht⟩ : ∃ t, decide (u ≠ []) = t := ⟨_, rfl⟩
      have HU := Lib.hid hu
      have HT := Lib.hid ht
      have hul : u.length ≤ 36 := by rw [← hu]; exact reg_len
      have VO := Lib.hid (out_allV (o := (x, y)) BX.out BY.out SA.out SB.out)
      clear hu ht
      have z0 := blk_cell ZO.out 0 _ rfl
      have z1 := blk_cell ZO.out 1 _ rfl
      go_wp2_with fail
      refine (region_is ao1 bo1 _ _ ca1 cb1 x y a b u t _ rfl rfl HU HT (by omega) (by omega) QA.out QB.out (small8_V SA.out) (small8_V SB.out) (in8_V BX.out) (in8_V BY.out) VO.out).mono ?_
      rintro e w21 ⟨⟨u1o, u1c, rfl, hp⟩, hb21⟩
      clear z0 z1
      replace QA := Lib.hid (prow_below QA.out hb21)
      replace QB := Lib.hid (prow_below QB.out hb21)
      replace ZO := Lib.hid (blk_call ZO.out hb21)
      replace B := Lib.hid (belT B.out hb21)
      clear hb21
      have Ru1 := Lib.hid hp
      clear hp
      have z0 := blk_cell ZO.out 0 _ rfl
      have z1 := blk_cell ZO.out 1 _ rfl
      go_wp2_with fail
      refine (swept_is ao1 bo1 _ _ ca1 cb1 x y a b u t _ rfl rfl HU HT (by omega) (by omega) QA.out QB.out (small8_V SA.out) (small8_V SB.out) (in8_V BX.out) (in8_V BY.out) VO.out).mono ?_
      rintro e w22 ⟨⟨u2o, u2c, rfl, hp⟩, hb22⟩
      clear z0 z1
      replace QA := Lib.hid (prow_below QA.out hb22)
      replace QB := Lib.hid (prow_below QB.out hb22)
      replace ZO := Lib.hid (blk_call ZO.out hb22)
      replace Ru1 := Lib.hid (prow_below Ru1.out hb22)
      replace B := Lib.hid (belT B.out hb22)
      clear hb22
      have Ru2 := Lib.hid hp
      clear hp
      go_wp2_with fail
      refine (same_is u1o u2o _ _ u1c u2c u u true _ rfl rfl (Lib.hid (decide_eq_true rfl)) (by omega) (by omega) Ru1.out Ru2.out).mono ?_
      rintro e w23 ⟨rfl, hb23⟩
      replace QA := Lib.hid (prow_below QA.out hb23)
      replace QB := Lib.hid (prow_below QB.out hb23)
      replace ZO := Lib.hid (blk_call ZO.out hb23)
      replace Ru1 := Lib.hid (prow_below Ru1.out hb23)
      replace Ru2 := Lib.hid (prow_below Ru2.out hb23)
      replace B := Lib.hid (belT B.out hb23)
      clear hb23
      go_wp2_with fail
      go_ret
      exact ⟨rfl, B.out⟩

set_option maxRecDepth 100000 in
theorem lifted (os : Os) (started : os.Started) (H : Type) (enc : TypeId × Value → H) :
    ReturnsInHanded {} Try.checked os 4 .any (Rows.sweepMatchesReferenceSpec.pre6 enc Try.prog Try.f4 Rows.sweepMatchesReferenceRow.domain false) (Rows.sweepMatchesReferenceSpec.post enc Try.prog Try.f4 false true false false) := by
  refine returnsInHanded_of_change (C := Try.checked) HFr.own started (by kernel_rfl) Try.func4
    (ChangeSpec.witness6 (enc := enc) (C := Try.checked) false ⟨#[], #[.agg #[.int .i64 0, .int .i64 0], .slice none 0 0, .slice none 0 0], []⟩ 8 (by kernel_rfl) (by kernel_rfl) (by kernel_rfl) (by kernel_rfl)) ?_
  intro W base args ds gs before hval0 hW hcnd _
  have hval : ∀ (j : Nat) t v, Try.f4.params[j]? = some t → args[j]? = some v → Value.okWide Try.prog W .any base t v := hval0
  have hW' := hW
  obtain ⟨p, q, hA0, hV, rfl, hfz, hnd⟩ := hW
  have hA : DataW.TrodAll enc Try.prog W 0 (fun _ => true) true Try.f4.params.toList args.toList ds p := hA0
  rw [Try.params4] at hA hval
  obtain ⟨v0, vs0, d0, ds0, p0, q0, hargs, rfl, rfl, h0, r0⟩ := trodAll_cons hA
  obtain ⟨v1, vs1, d1, ds1, p1, q1, rfl, rfl, rfl, h1, r1⟩ := trodAll_cons r0
  obtain ⟨v2, vs2, d2, ds2, p2, q2, rfl, rfl, rfl, h2, r2⟩ := trodAll_cons r1
  obtain ⟨rfl, rfl, rfl⟩ := trodAll_nil r2
  obtain rfl : args = #[v0, v1, v2] := by cases args; simp_all
  obtain ⟨rfl, rfl⟩ := trodVars_none hV
  have k0 := h0
  have lt0 : ∀ x ∈ p0, x.block < W.heap.size := by obtain ⟨m, hm⟩ := k0; exact DataW.trod_lt m _ _ _ hm
  obtain ⟨x0, y0, rfl⟩ := HFr.open_pt (hval 0 35 v0 rfl rfl) h0
  have k1 := h1
  have lt1 : ∀ x ∈ p1, x.block < W.heap.size := by obtain ⟨m, hm⟩ := k1; exact DataW.trod_lt m _ _ _ hm
  obtain ⟨a1, cap1, l1, rfl, n1, w1⟩ := HFr.open_pts (hval 1 22 v1 rfl rfl) h1
  have k2 := h2
  have lt2 : ∀ x ∈ p2, x.block < W.heap.size := by obtain ⟨m, hm⟩ := k2; exact DataW.trod_lt m _ _ _ hm
  obtain ⟨a2, cap2, l2, rfl, n2, w2⟩ := HFr.open_pts (hval 2 22 v2 rfl rfl) h2
  clear hA0 hval0
  refine (walk x0 y0 a1 cap1 l1 n1 w1 a2 cap2 l2 n2 w2 W rfl).mono fun e W' ⟨he, bel⟩ => ?_
  subst he
  exact ⟨_, rfl, _, _, _, [], _, [], hW', trodAll_mk1 (shut_bool Try.underlying4 _), (trodAll_cons_mk (Below.trod HFr.laidOut (by kernel_rfl) (of_decide_eq_true (by kernel_rfl)) k0 bel lt0) (trodAll_cons_mk (Below.trod HFr.laidOut (by kernel_rfl) (of_decide_eq_true (by kernel_rfl)) k1 bel lt1) (trodAll_cons_mk (Below.trod HFr.laidOut (by kernel_rfl) (of_decide_eq_true (by kernel_rfl)) k2 bel lt2) trodAll_mk0))), rfl, bel.frame _, fun h => by cases h⟩

/-- THE STATEMENT. -/
theorem holds : Rows.SweepMatchesReferenceSaid :=
  OpenClaim.holds_of_wide 4 Try.f4 rfl rfl rfl rfl rfl rfl rfl ⟨rfl, rfl, rfl, rfl, rfl⟩ rfl rfl rfl rfl rfl (by kernel_rfl) Try.func4 (by kernel_rfl)
    (of_decide_eq_true (by kernel_rfl)) (by unfold Func.isWrapper; first | (rw [if_pos (by decide +kernel)]; kernel_rfl) | (rw [if_neg (by decide +kernel)]; exact ⟨rfl, rfl⟩))
    (fun os started H enc _ => lifted os started H enc)
#print axioms holds
end Go.Proofs.Ytnpadblfpaiofaa.sweepMatchesReference
