/- Proved: Region does not depend on the order of its two polygons and commutes with translations (the law SweepSymmetric returns true).
Conditions: none on the arguments. -/
import Derived.Test.YtnpadblfpaiofaaSwM
import Derived.Test.YtnpadblfpaiofaaSwL
namespace Go.Proofs.Ytnpadblfpaiofaa.sweepSymmetric
open Go.ChangeShapes Go.WideShapes Go.ChangeAt Go.RowKit
set_option linter.unusedVariables false
set_option linter.unusedSimpArgs false

set_option maxRecDepth 100000 in
set_option maxHeartbeats 16000000 in
theorem walk {w : World} (X Y : Int) (ao : Option Addr) (ca : Nat) (l : List (Int × Int)) (nl : l.length ≤ 9223372036854775807) (hA : PRow w ao l) (bo : Option Addr) (cb : Nat) (m : List (Int × Int)) (nm : m.length ≤ 9223372036854775807) (hB : PRow w bo m) (X2 Y2 : Int) (W' : World) (hw : w = W') :
    Calls Try.prog 7 #[.agg #[.int .i64 X, .int .i64 Y], .slice ao l.length ca, .slice bo m.length cb, .agg #[.int .i64 X2, .int .i64 Y2]] w fun e w' => e = .returned (.bool true) ∧ Below w.heap.size w w' := by
  obtain ⟨i0, hi0, hz0, hz1', hz2⟩ := info_parts infoP
  have PA := Lib.hid hA
  have PB := Lib.hid hB
  clear hA hB hw
  obtain ⟨x, hx⟩ : ∃ x, fitI X = x := ⟨_, rfl⟩
  obtain ⟨y, hy⟩ : ∃ y, fitI Y = y := ⟨_, rfl⟩
  have HX := Lib.hid hx
  have HY := Lib.hid hy
  have BX := Lib.hid (show -10000000 ≤ x ∧ x ≤ 10000000 by rw [← hx]; exact fit_bd X)
  have BY := Lib.hid (show -10000000 ≤ y ∧ y ≤ 10000000 by rw [← hy]; exact fit_bd Y)
  have EX := Lib.hid (show In8 x by rw [← hx]; exact fit_in8 X)
  have EY := Lib.hid (show In8 y by rw [← hy]; exact fit_in8 Y)
  obtain ⟨a, ha⟩ : ∃ a, sameL l m = a := ⟨_, rfl⟩
  obtain ⟨b, hb⟩ : ∃ b, sameR l m = b := ⟨_, rfl⟩
  obtain ⟨n, hn⟩ : ∃ n, sameN l m = n := ⟨_, rfl⟩
  have HA := Lib.hid ha
  have HB := Lib.hid hb
  have HN := Lib.hid hn
  have TA := Lib.hid (show Small7 a by rw [← ha]; exact (same_small l m).1)
  have TB := Lib.hid (show Small7 b by rw [← hb]; exact (same_small l m).2)
  have SA := Lib.hid (small78 TA.out)
  have SB := Lib.hid (small78 TB.out)
  have LA := Lib.hid (show a.length = n by rw [← ha, ← hn]; exact (same_len l m).1)
  have LB := Lib.hid (show b.length = n by rw [← hb, ← hn]; exact (same_len l m).2.1)
  have n12 : n ≤ 12 := by rw [← hn]; exact (same_len l m).2.2
  clear hx hy ha hb hn
  obtain ⟨c, hc⟩ : ∃ c, fitI X2 = c := ⟨_, rfl⟩
  obtain ⟨d, hd⟩ : ∃ d, fitI Y2 = d := ⟨_, rfl⟩
  have HCC := Lib.hid hc
  have HDD := Lib.hid hd
  have BC := Lib.hid (show -10000000 ≤ c ∧ c ≤ 10000000 by rw [← hc]; exact fit_bd X2)
  have BD := Lib.hid (show -10000000 ≤ d ∧ d ≤ 10000000 by rw [← hd]; exact fit_bd Y2)
  clear hc hd
  go_enter Try.func7, Try.ntmps7
  go_wp2_with fail
  refine (head6_is _).mono ?_
  rintro e w1 ⟨rfl, hb1⟩
  replace PA := Lib.hid (prow_below (prow_alloc (prow_alloc PA.out (.cells #[.int .i64 X, .int .i64 Y] 35)) (.cells #[.int .i64 X2, .int .i64 Y2] 35)) hb1)
  replace PB := Lib.hid (prow_below (prow_alloc (prow_alloc PB.out (.cells #[.int .i64 X, .int .i64 Y] 35)) (.cells #[.int .i64 X2, .int .i64 Y2] 35)) hb1)
  have ZB := Lib.hid (blk_call (blk_alloc (blk_new w (.cells #[.int .i64 X, .int .i64 Y] 35) (w.heap.size) rfl) (.cells #[.int .i64 X2, .int .i64 Y2] 35)) hb1)
  have ZY := Lib.hid (blk_call (blk_new (w.alloc (.cells #[.int .i64 X, .int .i64 Y] 35)) (.cells #[.int .i64 X2, .int .i64 Y2] 35) (w.heap.size + 1) (by simp)) hb1)
  have B := Lib.hid (belT (belA (belA (Below.refl _ w) (.cells #[.int .i64 X, .int .i64 Y] 35)) (.cells #[.int .i64 X2, .int .i64 Y2] 35)) hb1)
  clear hb1
  have z0 := blk_cell ZB.out 0 _ rfl
  have z1 := blk_cell ZB.out 1 _ rfl
  go_wp2_with fail
  refine (fit_is X Y x y _ HX HY).mono ?_
  rintro e w2 ⟨rfl, hb2⟩
  clear z0 z1
  replace PA := Lib.hid (prow_below PA.out hb2)
  replace PB := Lib.hid (prow_below PB.out hb2)
  replace ZB := Lib.hid (blk_call ZB.out hb2)
  replace ZY := Lib.hid (blk_call ZY.out hb2)
  replace B := Lib.hid (belT B.out hb2)
  clear hb2
  clear ZB
  go_wp2_with fail
  refine (same6_is ao bo _ _ ca cb l m a b n _ rfl rfl HA HB HN nl nm (prow_alloc PA.out (.cells #[.int .i64 x, .int .i64 y] 35)) (prow_alloc PB.out (.cells #[.int .i64 x, .int .i64 y] 35))).mono ?_
  rintro e w3 ⟨⟨ao1, bo1, ca1, cb1, rfl, hca, hcb, hp, hq⟩, hb3⟩
  replace PA := Lib.hid (prow_below (prow_alloc PA.out (.cells #[.int .i64 x, .int .i64 y] 35)) hb3)
  replace PB := Lib.hid (prow_below (prow_alloc PB.out (.cells #[.int .i64 x, .int .i64 y] 35)) hb3)
  replace ZY := Lib.hid (blk_call (blk_alloc ZY.out (.cells #[.int .i64 x, .int .i64 y] 35)) hb3)
  have ZO := Lib.hid (blk_call (blk_new w2 (.cells #[.int .i64 x, .int .i64 y] 35) (w2.heap.size) rfl) hb3)
  replace B := Lib.hid (belT (belA B.out (.cells #[.int .i64 x, .int .i64 y] 35)) hb3)
  clear hb3
  have QA := Lib.hid hp
  have QB := Lib.hid hq
  clear hp hq PA PB HA HB
  generalize hzo : w2.heap.size = zo at *
  have z0 := blk_cell ZY.out 0 _ rfl
  have z1 := blk_cell ZY.out 1 _ rfl
  go_wp2_with fail
  refine (fit_is X2 Y2 c d _ HCC HDD).mono ?_
  rintro e w4 ⟨rfl, hb4⟩
  clear z0 z1
  replace ZY := Lib.hid (blk_call ZY.out hb4)
  replace ZO := Lib.hid (blk_call ZO.out hb4)
  replace QA := Lib.hid (prow_below QA.out hb4)
  replace QB := Lib.hid (prow_below QB.out hb4)
  replace B := Lib.hid (belT B.out hb4)
  clear hb4
  clear ZY
  obtain ⟨u, hu⟩ : ∃ u, hullL (ptsL (x, y) a b) = u := ⟨_, rfl⟩
  have HU : Hid (regL (x, y) a b = u) := Lib.hid (by rw [← hu]; exact if_pos ⟨by rw [LA.out, LB.out], by rw [LA.out]; exact n12⟩)
  obtain ⟨t, ht⟩ : ∃ t, decide (u ≠ []) = t := ⟨_, rfl⟩
  have HT := Lib.hid ht
  have hul : u.length ≤ 36 := by rw [← HU.out]; exact reg_len
  have VU := Lib.hid (show AllV u by rw [← HU.out]; exact reg_allV (o := (x, y)) EX.out EY.out SA.out SB.out)
  have VO := Lib.hid (out_allV (o := (x, y)) EX.out EY.out SA.out SB.out)
  have VP := Lib.hid (pts_allV (o := (x, y)) EX.out EY.out SA.out SB.out)
  have HC : Hid ((u = [] ∧ ∀ p ∈ ptsL (x, y) a b, ∀ q ∈ ptsL (x, y) a b, ∀ r ∈ ptsL (x, y) a b, dt p q r = 0) ∨ (u ≠ [] ∧ IsHull (ptsL (x, y) a b) u)) := Lib.hid (by rw [← hu]; exact hull_cases _)
  clear hu ht
  have z0 := blk_cell (blk_alloc ZO.out (.cells #[.int .i64 c, .int .i64 d] 35)) 0 _ rfl
  have z1 := blk_cell (blk_alloc ZO.out (.cells #[.int .i64 c, .int .i64 d] 35)) 1 _ rfl
  go_wp2_with fail
  refine (region_is ao1 bo1 _ _ ca1 cb1 x y a b u t _ LA.out LB.out HU HT (by omega) (by omega) (prow_alloc QA.out (.cells #[.int .i64 c, .int .i64 d] 35)) (prow_alloc QB.out (.cells #[.int .i64 c, .int .i64 d] 35)) (small8_V SA.out) (small8_V SB.out) (in8_V EX.out) (in8_V EY.out) VO.out).mono ?_
  rintro e w5 ⟨⟨po, pc, rfl, hp⟩, hb5⟩
  clear z0 z1
  replace ZO := Lib.hid (blk_call (blk_alloc ZO.out (.cells #[.int .i64 c, .int .i64 d] 35)) hb5)
  replace QA := Lib.hid (prow_below (prow_alloc QA.out (.cells #[.int .i64 c, .int .i64 d] 35)) hb5)
  replace QB := Lib.hid (prow_below (prow_alloc QB.out (.cells #[.int .i64 c, .int .i64 d] 35)) hb5)
  have ZC := Lib.hid (blk_call (blk_new w4 (.cells #[.int .i64 c, .int .i64 d] 35) (w4.heap.size) rfl) hb5)
  replace B := Lib.hid (belT (belA B.out (.cells #[.int .i64 c, .int .i64 d] 35)) hb5)
  clear hb5
  have QP := Lib.hid hp
  clear hp
  generalize hzc : w4.heap.size = zc at *
  have HU2 : Hid (regL (x, y) b a = u) := Lib.hid (by rw [reg_swap]; exact HU.out)
  have VO2 := Lib.hid (out_allV (o := (x, y)) EX.out EY.out SB.out SA.out)
  have z0 := blk_cell ZO.out 0 _ rfl
  have z1 := blk_cell ZO.out 1 _ rfl
  go_wp2_with fail
  refine (region_is bo1 ao1 _ _ cb1 ca1 x y b a u t _ LB.out LA.out HU2 HT (by omega) (by omega) QB.out QA.out (small8_V SB.out) (small8_V SA.out) (in8_V EX.out) (in8_V EY.out) VO2.out).mono ?_
  rintro e w6 ⟨⟨qo, qc, rfl, hp⟩, hb6⟩
  clear z0 z1
  replace ZO := Lib.hid (blk_call ZO.out hb6)
  replace QA := Lib.hid (prow_below QA.out hb6)
  replace QB := Lib.hid (prow_below QB.out hb6)
  replace ZC := Lib.hid (blk_call ZC.out hb6)
  replace QP := Lib.hid (prow_below QP.out hb6)
  replace B := Lib.hid (belT B.out hb6)
  clear hb6
  have QQ := Lib.hid hp
  clear hp
  obtain ⟨U, hU⟩ : ∃ U, movL a c d = U := ⟨_, rfl⟩
  obtain ⟨V, hV⟩ : ∃ V, movL b c d = V := ⟨_, rfl⟩
  have HU' := Lib.hid hU
  have HV' := Lib.hid hV
  have LU : Hid (U.length = n) := Lib.hid (by rw [← hU, movL_len]; exact LA.out)
  have LV : Hid (V.length = n) := Lib.hid (by rw [← hV, movL_len]; exact LB.out)
  have SU : Hid (Small8 U) := Lib.hid (by
    rw [← hU]; intro q hq
    obtain ⟨p, hp, rfl⟩ := movL_mem.1 hq
    have := TA.out p hp; have := BC.out; have := BD.out
    unfold In8; simp only; omega)
  have SV : Hid (Small8 V) := Lib.hid (by
    rw [← hV]; intro q hq
    obtain ⟨p, hp, rfl⟩ := movL_mem.1 hq
    have := TB.out p hp; have := BC.out; have := BD.out
    unfold In8; simp only; omega)
  have EXC : Hid (In8 (x + c)) := Lib.hid (by have := BX.out; have := BC.out; unfold In8; omega)
  have EYD : Hid (In8 (y + d)) := Lib.hid (by have := BY.out; have := BD.out; unfold In8; omega)
  obtain ⟨r, hr⟩ : ∃ r, movL u c d = r := ⟨_, rfl⟩
  have HR' := Lib.hid hr
  have HR : Hid (regL (x + c, y + d) U V = r) := Lib.hid (by rw [← hU, ← hV, ← hr, ← HU.out]; exact reg_mov (x, y) a b c d)
  have LR : Hid (r.length = u.length) := Lib.hid (by rw [← hr, movL_len])
  have HTR : Hid (decide (r ≠ []) = t) := Lib.hid (by
    rw [← HT.out]
    by_cases e : u = []
    · have : r = [] := List.length_eq_zero_iff.1 (by rw [LR.out, e]; rfl)
      rw [e, this]
    · have : r ≠ [] := fun h => e (List.length_eq_zero_iff.1 (by rw [← LR.out, h]; rfl))
      rw [decide_eq_true this, decide_eq_true e])
  have VOR := Lib.hid (out_allV (o := (x + c, y + d)) EXC.out EYD.out SU.out SV.out)
  clear hU hV hr
  have own1 := (World.ownsRow_lit w6 (base := w6.heap.size) (e := 35) (size := 2) #[] 0 (Nat.le_refl _) (by decide) rfl).alloc (.cells #[] 35)
  have own2 := World.ownsRow_lit (w6.alloc (.cells #[] 35)) (base := w6.heap.size) (e := 35) (size := 2) #[] 0 (by simp) (by decide) rfl
  have bel0 := belA (belA (Below.refl _ w6) (.cells #[] 35)) (.cells #[] 35)
  rw [World.size_alloc] at own2
  go_wp2_with fail
  go_loopw [18, 19, 20] (fun v1 v2 i wr => ∃ (x1 x2 : Value) (k : Nat), x1 = v1 ∧ x2 = v2 ∧ k ≤ n ∧ i = .int .i64 k ∧ wr.ownsRow w6.heap.size 35 2 v1 k (flat (U.take k)) ∧ wr.ownsRow w6.heap.size 35 2 v2 k (flat (V.take k)) ∧ v1.ownBlock ≠ v2.ownBlock ∧ Below w6.heap.size w6 wr) (fun _ _ i _ => n - (intOf i).toNat)
  case atStart => exact ⟨_, _, 0, rfl, rfl, Nat.zero_le _, rfl, own1, own2, by simp [Value.ownBlock], bel0⟩
  case round =>
    clear own1 own2 bel0
    obtain ⟨v1, v2, k, rfl, rfl, hk, rfl, ho1, ho2, hdj, hBx⟩ := hrel
    have HO1 := Lib.hid ho1
    have HO2 := Lib.hid ho2
    have HDJ := Lib.hid hdj
    have HBX := Lib.hid hBx
    clear ho1 ho2 hdj hBx
    by_cases hkn : k < n
    · have hki : (k : Int) < n := by omega
      have hka : k < a.length := by rw [LA.out]; exact hkn
      have hkb : k < b.length := by rw [LB.out]; exact hkn
      obtain ⟨p, q, rfl, c1, c2⟩ := prow_at (prow_below QA.out HBX.out) hka
      obtain ⟨p', q', rfl, c3, c4⟩ := prow_at (prow_below QB.out HBX.out) hkb
      have ba := TA.out _ (gp_mem hka)
      have bb := TB.out _ (gp_mem hkb)
      change (fun z : Int => -10000000 ≤ z ∧ z ≤ 10000000) (cx a k) ∧ (fun z : Int => -10000000 ≤ z ∧ z ≤ 10000000) (cy a k) at ba
      change (fun z : Int => -10000000 ≤ z ∧ z ≤ 10000000) (cx b k) ∧ (fun z : Int => -10000000 ≤ z ∧ z ≤ 10000000) (cy b k) at bb
      simp only at ba bb
      have eu : cx U k = (cx a k + c) ∧ cy U k = (cy a k + d) := by rw [← HU'.out]; exact ⟨(movL_at a c d hka).1, (movL_at a c d hka).2⟩
      have ev : cx V k = (cx b k + c) ∧ cy V k = (cy b k + d) := by rw [← HV'.out]; exact ⟨(movL_at b c d hkb).1, (movL_at b c d hkb).2⟩
      have E1 : Hid (flat (U.take (k + 1)) = flat (U.take k) ++ [.int .i64 (cx a k + c), .int .i64 (cy a k + d)]) := Lib.hid (by rw [flat_take U k (by rw [LU.out]; exact hkn), eu.1, eu.2])
      have E2 : Hid (flat (V.take (k + 1)) = flat (V.take k) ++ [.int .i64 (cx b k + c), .int .i64 (cy b k + d)]) := Lib.hid (by rw [flat_take V k (by rw [LV.out]; exact hkn), ev.1, ev.2])
      have bx := BX.out
      have by' := BY.out
      have bc := BC.out
      have bd := BD.out
      clear eu ev
      have X2 := blk_call ZC.out HBX.out
      have z0 := blk_cell X2 0 _ rfl
      have z1 := blk_cell X2 1 _ rfl
      have hz0' := HBX.out.size
      clear X2
      generalize cx a k = a1 at *
      generalize cy a k = a2 at *
      generalize hb1 : cx b k = b1 at *
      generalize hb2 : cy b k = b2 at *
      have HB1 := Lib.hid hb1
      have HB2 := Lib.hid hb2
      clear hb1 hb2
      have : IntKind.i64.wrap (a1 + c) = a1 + c := by rw [IntKind.wrap_i64]; omega
      have : IntKind.i64.wrap (a2 + d) = a2 + d := by rw [IntKind.wrap_i64]; omega
      have : IntKind.i64.wrap (b1 + c) = b1 + c := by rw [IntKind.wrap_i64]; omega
      have : IntKind.i64.wrap (b2 + d) = b2 + d := by rw [IntKind.wrap_i64]; omega
      clear ba bb bx by' bc bd
      go_upto_region 12 with fail
      obtain ⟨sp, hsp⟩ : ∃ sp : ToldS, sp = [none, none, none, none, none, none, none, none, none, none, none, none, none, none, none, none, none, none, none, none, none, none, none, none, none, none, none, none, none, none, none, none, none, none, none, none, none, none, none, none, none, none, none, none, none, none, none, none, none, none, none, none, none, none, none, none, none, none, some (eqS (v1)), some (eqS (.slice (some ⟨p, q, none⟩) n ca1)), some (eqS (.int .i64 (k : Int))), some (eqS (.pointer (some ⟨p, q + k * 2, none⟩))), some (eqS (.pointer (some ⟨p, q + k * 2, none⟩))), some (eqS (.int .i64 a1)), some (eqS (.pointer (some ⟨zc, 0, none⟩))), some (eqS (.int .i64 c)), some (eqS (.int .i64 (a1 + c))), some (eqS (.slice (some ⟨p, q, none⟩) n ca1)), some (eqS (.int .i64 (k : Int))), some (eqS (.pointer (some ⟨p, q + k * 2, none⟩))), some (eqS (.pointer (some ⟨p, q + k * 2 + 1, none⟩))), some (eqS (.int .i64 a2)), some (eqS (.pointer (some ⟨zc, 1, none⟩))), some (eqS (.int .i64 d)), some (eqS (.int .i64 (a2 + d))), some (eqS (.agg #[.int .i64 (a1 + c), .int .i64 (a2 + d)])), some (rowB [((a1 + c), (a2 + d))])] := ⟨_, rfl⟩
      have s58 : sp.getD 58 none = some (eqS (v1)) := by rw [hsp]; rfl
      have s59 : sp.getD 59 none = some (eqS (.slice (some ⟨p, q, none⟩) n ca1)) := by rw [hsp]; rfl
      have s60 : sp.getD 60 none = some (eqS (.int .i64 (k : Int))) := by rw [hsp]; rfl
      have s61 : sp.getD 61 none = some (eqS (.pointer (some ⟨p, q + k * 2, none⟩))) := by rw [hsp]; rfl
      have s62 : sp.getD 62 none = some (eqS (.pointer (some ⟨p, q + k * 2, none⟩))) := by rw [hsp]; rfl
      have s63 : sp.getD 63 none = some (eqS (.int .i64 a1)) := by rw [hsp]; rfl
      have s64 : sp.getD 64 none = some (eqS (.pointer (some ⟨zc, 0, none⟩))) := by rw [hsp]; rfl
      have s65 : sp.getD 65 none = some (eqS (.int .i64 c)) := by rw [hsp]; rfl
      have s66 : sp.getD 66 none = some (eqS (.int .i64 (a1 + c))) := by rw [hsp]; rfl
      have s67 : sp.getD 67 none = some (eqS (.slice (some ⟨p, q, none⟩) n ca1)) := by rw [hsp]; rfl
      have s68 : sp.getD 68 none = some (eqS (.int .i64 (k : Int))) := by rw [hsp]; rfl
      have s69 : sp.getD 69 none = some (eqS (.pointer (some ⟨p, q + k * 2, none⟩))) := by rw [hsp]; rfl
      have s70 : sp.getD 70 none = some (eqS (.pointer (some ⟨p, q + k * 2 + 1, none⟩))) := by rw [hsp]; rfl
      have s71 : sp.getD 71 none = some (eqS (.int .i64 a2)) := by rw [hsp]; rfl
      have s72 : sp.getD 72 none = some (eqS (.pointer (some ⟨zc, 1, none⟩))) := by rw [hsp]; rfl
      have s73 : sp.getD 73 none = some (eqS (.int .i64 d)) := by rw [hsp]; rfl
      have s74 : sp.getD 74 none = some (eqS (.int .i64 (a2 + d))) := by rw [hsp]; rfl
      have s75 : sp.getD 75 none = some (eqS (.agg #[.int .i64 (a1 + c), .int .i64 (a2 + d)])) := by rw [hsp]; rfl
      have s76 : sp.getD 76 none = some (rowB [((a1 + c), (a2 + d))]) := by rw [hsp]; rfl
      clear hsp
      refine (wpIn_wide (n := 0)).1 (region_headR (RtS sp) (rtS_keep sp) 19 rfl rfl rfl (by kernel_rfl) (by decide) (by kernel_rfl) (by kernel_rfl) (by kernel_rfl) ?_ ?_)
      · intro Q'; show ObsR _ _ _ _ _ _ _ _ (List.take _ _); simp only [List.take_succ_cons, List.take_zero]
        refine obsR_cons ?_ ?_
        · intro T wx K hB hF hD hK
          have g18 : T[18]? = some (v1) := hF 18 (freeM_of (by kernel_rfl))
          refine ob_yes (wanted_none rfl) ?_
          clear hF hD
          go_simp
          exact hK _ _ (Below.refl _ _) (rt_eqS s58)
        refine obsR_cons ?_ ?_
        · intro T wx K hB hF hD hK
          have g11 : T[11]? = some (.slice (some ⟨p, q, none⟩) n ca1) := hF 11 (freeM_of (by kernel_rfl))
          refine ob_yes (wanted_none rfl) ?_
          clear hF hD
          go_simp
          exact hK _ _ (Below.refl _ _) (rt_eqS s59)
        refine obsR_cons ?_ ?_
        · intro T wx K hB hF hD hK
          have g20 : T[20]? = some (.int .i64 (k : Int)) := hF 20 (freeM_of (by kernel_rfl))
          refine ob_yes (wanted_none rfl) ?_
          clear hF hD
          go_simp
          exact hK _ _ (Below.refl _ _) (rt_eqS s60)
        refine obsR_cons ?_ ?_
        · intro T wx K hB hF hD hK
          have g59 := get_eqS (hD 1 59 (by simp [Region.binds]) (by kernel_rfl)) s59
          have g60 := get_eqS (hD 2 60 (by simp [Region.binds]) (by kernel_rfl)) s60
          refine ob_yes (wanted_none rfl) ?_
          clear hF hD
          go_simp
          exact hK _ _ (Below.refl _ _) (rt_eqS s61)
        refine obsR_cons ?_ ?_
        · intro T wx K hB hF hD hK
          have g61 := get_eqS (hD 3 61 (by simp [Region.binds]) (by kernel_rfl)) s61
          refine ob_yes (wanted_none rfl) ?_
          clear hF hD
          go_simp
          exact hK _ _ (Below.refl _ _) (rt_eqS s62)
        refine obsR_cons ?_ ?_
        · intro T wx K hB hF hD hK
          have g62 := get_eqS (hD 4 62 (by simp [Region.binds]) (by kernel_rfl)) s62
          refine ob_yes (wanted_none rfl) ?_
          clear hF hD
          have e1 := cell_call c1 hB
          go_simp
          exact hK _ _ (Below.refl _ _) (rt_eqS s63)
        refine obsR_cons ?_ ?_
        · intro T wx K hB hF hD hK
          have g13 : T[13]? = some (.pointer (some ⟨zc, 0, none⟩)) := hF 13 (freeM_of (by kernel_rfl))
          refine ob_yes (wanted_none rfl) ?_
          clear hF hD
          go_simp
          exact hK _ _ (Below.refl _ _) (rt_eqS s64)
        refine obsR_cons ?_ ?_
        · intro T wx K hB hF hD hK
          have g64 := get_eqS (hD 6 64 (by simp [Region.binds]) (by kernel_rfl)) s64
          refine ob_yes (wanted_none rfl) ?_
          clear hF hD
          have e1 := cell_call z0 hB
          go_simp
          exact hK _ _ (Below.refl _ _) (rt_eqS s65)
        refine obsR_cons ?_ ?_
        · intro T wx K hB hF hD hK
          have g63 := get_eqS (hD 5 63 (by simp [Region.binds]) (by kernel_rfl)) s63
          have g65 := get_eqS (hD 7 65 (by simp [Region.binds]) (by kernel_rfl)) s65
          refine ob_yes (wanted_none rfl) ?_
          clear hF hD
          go_simp
          exact hK _ _ (Below.refl _ _) (rt_eqS s66)
        refine obsR_cons ?_ ?_
        · intro T wx K hB hF hD hK
          have g11 : T[11]? = some (.slice (some ⟨p, q, none⟩) n ca1) := hF 11 (freeM_of (by kernel_rfl))
          refine ob_yes (wanted_none rfl) ?_
          clear hF hD
          go_simp
          exact hK _ _ (Below.refl _ _) (rt_eqS s67)
        refine obsR_cons ?_ ?_
        · intro T wx K hB hF hD hK
          have g20 : T[20]? = some (.int .i64 (k : Int)) := hF 20 (freeM_of (by kernel_rfl))
          refine ob_yes (wanted_none rfl) ?_
          clear hF hD
          go_simp
          exact hK _ _ (Below.refl _ _) (rt_eqS s68)
        refine obsR_cons ?_ ?_
        · intro T wx K hB hF hD hK
          have g67 := get_eqS (hD 9 67 (by simp [Region.binds]) (by kernel_rfl)) s67
          have g68 := get_eqS (hD 10 68 (by simp [Region.binds]) (by kernel_rfl)) s68
          refine ob_yes (wanted_none rfl) ?_
          clear hF hD
          go_simp
          exact hK _ _ (Below.refl _ _) (rt_eqS s69)
        refine obsR_cons ?_ ?_
        · intro T wx K hB hF hD hK
          have g69 := get_eqS (hD 11 69 (by simp [Region.binds]) (by kernel_rfl)) s69
          refine ob_yes (wanted_none rfl) ?_
          clear hF hD
          go_simp
          exact hK _ _ (Below.refl _ _) (rt_eqS s70)
        refine obsR_cons ?_ ?_
        · intro T wx K hB hF hD hK
          have g70 := get_eqS (hD 12 70 (by simp [Region.binds]) (by kernel_rfl)) s70
          refine ob_yes (wanted_none rfl) ?_
          clear hF hD
          have e1 := cell_call c2 hB
          go_simp
          exact hK _ _ (Below.refl _ _) (rt_eqS s71)
        refine obsR_cons ?_ ?_
        · intro T wx K hB hF hD hK
          have g13 : T[13]? = some (.pointer (some ⟨zc, 0, none⟩)) := hF 13 (freeM_of (by kernel_rfl))
          refine ob_yes (wanted_none rfl) ?_
          clear hF hD
          go_simp
          exact hK _ _ (Below.refl _ _) (rt_eqS s72)
        refine obsR_cons ?_ ?_
        · intro T wx K hB hF hD hK
          have g72 := get_eqS (hD 14 72 (by simp [Region.binds]) (by kernel_rfl)) s72
          refine ob_yes (wanted_none rfl) ?_
          clear hF hD
          have e1 := cell_call z1 hB
          go_simp
          exact hK _ _ (Below.refl _ _) (rt_eqS s73)
        refine obsR_cons ?_ ?_
        · intro T wx K hB hF hD hK
          have g71 := get_eqS (hD 13 71 (by simp [Region.binds]) (by kernel_rfl)) s71
          have g73 := get_eqS (hD 15 73 (by simp [Region.binds]) (by kernel_rfl)) s73
          refine ob_yes (wanted_none rfl) ?_
          clear hF hD
          go_simp
          exact hK _ _ (Below.refl _ _) (rt_eqS s74)
        refine obsR_cons ?_ ?_
        · intro T wx K hB hF hD hK
          have g66 := get_eqS (hD 8 66 (by simp [Region.binds]) (by kernel_rfl)) s66
          have g74 := get_eqS (hD 16 74 (by simp [Region.binds]) (by kernel_rfl)) s74
          refine ob_yes (wanted_none rfl) ?_
          clear hF hD
          go_simp
          refine (at_is _ _ _).mono ?_; rintro e w9 ⟨rfl, hb⟩
          exact hK _ _ hb (rt_eqS s75)
        refine obsR_cons ?_ ?_
        · intro T wx K hB hF hD hK
          have g75 := get_eqS (hD 17 75 (by simp [Region.binds]) (by kernel_rfl)) s75
          refine ob_yes (wanted_none rfl) ?_
          clear hF hD
          go_simp
          exact hK _ _ (belA (Below.refl _ _) _) (rt_S s76 (app_fresh _ _ _ _))
        exact obsR_nil
      · intro T w8 hb hF hs hD
        have g58 := get_eqS (hD 0 58 (by decide) (by kernel_rfl)) s58
        have g59 := get_eqS (hD 1 59 (by decide) (by kernel_rfl)) s59
        have g60 := get_eqS (hD 2 60 (by decide) (by kernel_rfl)) s60
        have g61 := get_eqS (hD 3 61 (by decide) (by kernel_rfl)) s61
        have g62 := get_eqS (hD 4 62 (by decide) (by kernel_rfl)) s62
        have g63 := get_eqS (hD 5 63 (by decide) (by kernel_rfl)) s63
        have g64 := get_eqS (hD 6 64 (by decide) (by kernel_rfl)) s64
        have g65 := get_eqS (hD 7 65 (by decide) (by kernel_rfl)) s65
        have g66 := get_eqS (hD 8 66 (by decide) (by kernel_rfl)) s66
        have g67 := get_eqS (hD 9 67 (by decide) (by kernel_rfl)) s67
        have g68 := get_eqS (hD 10 68 (by decide) (by kernel_rfl)) s68
        have g69 := get_eqS (hD 11 69 (by decide) (by kernel_rfl)) s69
        have g70 := get_eqS (hD 12 70 (by decide) (by kernel_rfl)) s70
        have g71 := get_eqS (hD 13 71 (by decide) (by kernel_rfl)) s71
        have g72 := get_eqS (hD 14 72 (by decide) (by kernel_rfl)) s72
        have g73 := get_eqS (hD 15 73 (by decide) (by kernel_rfl)) s73
        have g74 := get_eqS (hD 16 74 (by decide) (by kernel_rfl)) s74
        have g75 := get_eqS (hD 17 75 (by decide) (by kernel_rfl)) s75
        obtain ⟨v76, g76, p76⟩ := getS (hD 18 76 (by decide) (by kernel_rfl)) s76
        have hT := conc [(58, v1), (59, .slice (some ⟨p, q, none⟩) n ca1), (60, .int .i64 (k : Int)), (61, .pointer (some ⟨p, q + k * 2, none⟩)), (62, .pointer (some ⟨p, q + k * 2, none⟩)), (63, .int .i64 a1), (64, .pointer (some ⟨zc, 0, none⟩)), (65, .int .i64 c), (66, .int .i64 (a1 + c)), (67, .slice (some ⟨p, q, none⟩) n ca1), (68, .int .i64 (k : Int)), (69, .pointer (some ⟨p, q + k * 2, none⟩)), (70, .pointer (some ⟨p, q + k * 2 + 1, none⟩)), (71, .int .i64 a2), (72, .pointer (some ⟨zc, 1, none⟩)), (73, .int .i64 d), (74, .int .i64 (a2 + d)), (75, .agg #[.int .i64 (a1 + c), .int .i64 (a2 + d)]), (76, v76)] hs hF (by simp only [List.forall_mem_cons]; exact ⟨g58, g59, g60, g61, g62, g63, g64, g65, g66, g67, g68, g69, g70, g71, g72, g73, g74, g75, g76, fun p hp => absurd hp List.not_mem_nil⟩) (by kernel_rfl)
        simp only [List.foldl, List.setIfInBounds_toArray, List.set_cons_succ, List.set_cons_zero] at hT
        subst hT
        clear hF hD hs g58 g59 g60 g61 g62 g63 g64 g65 g66 g67 g68 g69 g70 g71 g72 g73 g74 g75 g76 s58 s59 s60 s61 s62 s63 s64 s65 s66 s67 s68 s69 s70 s71 s72 s73 s74 s75 s76
        show wpOpsIn _ _ _ _ _ [19, 20] _ _
        have hs8 := hb.size
        have HB8 := Lib.hid (HBX.out.trans (hb.mono HBX.out.size))
        have HO8 := own_bel HO1.out hb
        have HO82 := own_bel HO2.out hb
        obtain ⟨bn, cn, rfl, pn⟩ := p76
        clear hb c1 c2 c3 c4 z0 z1
        refine tail_append rfl rfl rfl rfl rfl (.tmp 58) (.tmp 76) 23 rfl w6.heap.size 35 i0 (.agg #[.int .i64 0, .int .i64 0]) 2 16 Try.underlying23 hi0 hz0 hz1' hz2 rfl (by decide) _ _ _ rfl HO8 ⟨bn, 0, none⟩ 1 cn [.int .i64 (a1 + c), .int .i64 (a2 + d)] rfl rfl (row_news pn) (by intro u hu; simp at hu; rcases hu with rfl | rfl <;> rfl) (by decide) (by unfold maxLen; omega) (by omega) (by omega) ?_
        intro g1 capg1 w9 hown' hgrow hat hlt'
        have HB9 := Lib.hid (HB8.out.grown hgrow (by omega) (fun g e => (HO8.lt g e).1))
        rw [← E1.out] at hown'
        have HO9 := Lib.hid hown'
        have HP9 := Lib.hid (HO82.kept hgrow (.inr (Ne.symm HDJ.out)))
        have HDJ9 : Hid ((Value.slice (some ⟨g1, 0, none⟩) (k + 1) capg1).ownBlock ≠ v2.ownBlock) := Lib.hid (by
          show some g1 ≠ v2.ownBlock
          rcases hat with h | h
          · rw [← h]; exact HDJ.out
          · intro e; have := (HO82.lt g1 e.symm).2; omega)
        have hz9 := hgrow.size
        clear hgrow hown' HO8 HO82 hat hlt'
        simp only [wpOpsIn]
        go_simp
        obtain ⟨v1', hv1'⟩ : ∃ v, (Value.slice (some ⟨g1, 0, none⟩) (k + 1) capg1) = v := ⟨_, rfl⟩
        rw [hv1'] at HO9 HDJ9
        rw [hv1']
        clear hv1'
        obtain ⟨p, q, he, c1, c2⟩ := prow_at (prow_below QB.out HB9.out) hkb
        obtain ⟨rfl, rfl⟩ : p' = p ∧ q' = q := by simpa using he
        have X2 := blk_call ZC.out HB9.out
        have z0 := blk_cell X2 0 _ rfl
        have z1 := blk_cell X2 1 _ rfl
        clear X2 he
        rw [HB1.out] at c1
        rw [HB2.out] at c2
        go_upto_region 13 with fail
        obtain ⟨sp, hsp⟩ : ∃ sp : ToldS, sp = [none, none, none, none, none, none, none, none, none, none, none, none, none, none, none, none, none, none, none, none, none, none, none, none, none, none, none, none, none, none, none, none, none, none, none, none, none, none, none, none, none, none, none, none, none, none, none, none, none, none, none, none, none, none, none, none, none, none, none, none, none, none, none, none, none, none, none, none, none, none, none, none, none, none, none, none, none, none, some (eqS (v2)), some (eqS (.slice (some ⟨p', q', none⟩) n cb1)), some (eqS (.int .i64 (k : Int))), some (eqS (.pointer (some ⟨p', q' + k * 2, none⟩))), some (eqS (.pointer (some ⟨p', q' + k * 2, none⟩))), some (eqS (.int .i64 b1)), some (eqS (.pointer (some ⟨zc, 0, none⟩))), some (eqS (.int .i64 c)), some (eqS (.int .i64 (b1 + c))), some (eqS (.slice (some ⟨p', q', none⟩) n cb1)), some (eqS (.int .i64 (k : Int))), some (eqS (.pointer (some ⟨p', q' + k * 2, none⟩))), some (eqS (.pointer (some ⟨p', q' + k * 2 + 1, none⟩))), some (eqS (.int .i64 b2)), some (eqS (.pointer (some ⟨zc, 1, none⟩))), some (eqS (.int .i64 d)), some (eqS (.int .i64 (b2 + d))), some (eqS (.agg #[.int .i64 (b1 + c), .int .i64 (b2 + d)])), some (rowB [((b1 + c), (b2 + d))])] := ⟨_, rfl⟩
        have s78 : sp.getD 78 none = some (eqS (v2)) := by rw [hsp]; rfl
        have s79 : sp.getD 79 none = some (eqS (.slice (some ⟨p', q', none⟩) n cb1)) := by rw [hsp]; rfl
        have s80 : sp.getD 80 none = some (eqS (.int .i64 (k : Int))) := by rw [hsp]; rfl
        have s81 : sp.getD 81 none = some (eqS (.pointer (some ⟨p', q' + k * 2, none⟩))) := by rw [hsp]; rfl
        have s82 : sp.getD 82 none = some (eqS (.pointer (some ⟨p', q' + k * 2, none⟩))) := by rw [hsp]; rfl
        have s83 : sp.getD 83 none = some (eqS (.int .i64 b1)) := by rw [hsp]; rfl
        have s84 : sp.getD 84 none = some (eqS (.pointer (some ⟨zc, 0, none⟩))) := by rw [hsp]; rfl
        have s85 : sp.getD 85 none = some (eqS (.int .i64 c)) := by rw [hsp]; rfl
        have s86 : sp.getD 86 none = some (eqS (.int .i64 (b1 + c))) := by rw [hsp]; rfl
        have s87 : sp.getD 87 none = some (eqS (.slice (some ⟨p', q', none⟩) n cb1)) := by rw [hsp]; rfl
        have s88 : sp.getD 88 none = some (eqS (.int .i64 (k : Int))) := by rw [hsp]; rfl
        have s89 : sp.getD 89 none = some (eqS (.pointer (some ⟨p', q' + k * 2, none⟩))) := by rw [hsp]; rfl
        have s90 : sp.getD 90 none = some (eqS (.pointer (some ⟨p', q' + k * 2 + 1, none⟩))) := by rw [hsp]; rfl
        have s91 : sp.getD 91 none = some (eqS (.int .i64 b2)) := by rw [hsp]; rfl
        have s92 : sp.getD 92 none = some (eqS (.pointer (some ⟨zc, 1, none⟩))) := by rw [hsp]; rfl
        have s93 : sp.getD 93 none = some (eqS (.int .i64 d)) := by rw [hsp]; rfl
        have s94 : sp.getD 94 none = some (eqS (.int .i64 (b2 + d))) := by rw [hsp]; rfl
        have s95 : sp.getD 95 none = some (eqS (.agg #[.int .i64 (b1 + c), .int .i64 (b2 + d)])) := by rw [hsp]; rfl
        have s96 : sp.getD 96 none = some (rowB [((b1 + c), (b2 + d))]) := by rw [hsp]; rfl
        clear hsp
        refine (wpIn_wide (n := 0)).1 (region_headR (RtS sp) (rtS_keep sp) 19 rfl rfl rfl (by kernel_rfl) (by decide) (by kernel_rfl) (by kernel_rfl) (by kernel_rfl) ?_ ?_)
        · intro Q'; show ObsR _ _ _ _ _ _ _ _ (List.take _ _); simp only [List.take_succ_cons, List.take_zero]
          refine obsR_cons ?_ ?_
          · intro T wx K hB hF hD hK
            have g19 : T[19]? = some (v2) := hF 19 (freeM_of (by kernel_rfl))
            refine ob_yes (wanted_none rfl) ?_
            clear hF hD
            go_simp
            exact hK _ _ (Below.refl _ _) (rt_eqS s78)
          refine obsR_cons ?_ ?_
          · intro T wx K hB hF hD hK
            have g12 : T[12]? = some (.slice (some ⟨p', q', none⟩) n cb1) := hF 12 (freeM_of (by kernel_rfl))
            refine ob_yes (wanted_none rfl) ?_
            clear hF hD
            go_simp
            exact hK _ _ (Below.refl _ _) (rt_eqS s79)
          refine obsR_cons ?_ ?_
          · intro T wx K hB hF hD hK
            have g20 : T[20]? = some (.int .i64 (k : Int)) := hF 20 (freeM_of (by kernel_rfl))
            refine ob_yes (wanted_none rfl) ?_
            clear hF hD
            go_simp
            exact hK _ _ (Below.refl _ _) (rt_eqS s80)
          refine obsR_cons ?_ ?_
          · intro T wx K hB hF hD hK
            have g79 := get_eqS (hD 1 79 (by simp [Region.binds]) (by kernel_rfl)) s79
            have g80 := get_eqS (hD 2 80 (by simp [Region.binds]) (by kernel_rfl)) s80
            refine ob_yes (wanted_none rfl) ?_
            clear hF hD
            go_simp
            exact hK _ _ (Below.refl _ _) (rt_eqS s81)
          refine obsR_cons ?_ ?_
          · intro T wx K hB hF hD hK
            have g81 := get_eqS (hD 3 81 (by simp [Region.binds]) (by kernel_rfl)) s81
            refine ob_yes (wanted_none rfl) ?_
            clear hF hD
            go_simp
            exact hK _ _ (Below.refl _ _) (rt_eqS s82)
          refine obsR_cons ?_ ?_
          · intro T wx K hB hF hD hK
            have g82 := get_eqS (hD 4 82 (by simp [Region.binds]) (by kernel_rfl)) s82
            refine ob_yes (wanted_none rfl) ?_
            clear hF hD
            have e1 := cell_call c1 hB
            go_simp
            exact hK _ _ (Below.refl _ _) (rt_eqS s83)
          refine obsR_cons ?_ ?_
          · intro T wx K hB hF hD hK
            have g13 : T[13]? = some (.pointer (some ⟨zc, 0, none⟩)) := hF 13 (freeM_of (by kernel_rfl))
            refine ob_yes (wanted_none rfl) ?_
            clear hF hD
            go_simp
            exact hK _ _ (Below.refl _ _) (rt_eqS s84)
          refine obsR_cons ?_ ?_
          · intro T wx K hB hF hD hK
            have g84 := get_eqS (hD 6 84 (by simp [Region.binds]) (by kernel_rfl)) s84
            refine ob_yes (wanted_none rfl) ?_
            clear hF hD
            have e1 := cell_call z0 hB
            go_simp
            exact hK _ _ (Below.refl _ _) (rt_eqS s85)
          refine obsR_cons ?_ ?_
          · intro T wx K hB hF hD hK
            have g83 := get_eqS (hD 5 83 (by simp [Region.binds]) (by kernel_rfl)) s83
            have g85 := get_eqS (hD 7 85 (by simp [Region.binds]) (by kernel_rfl)) s85
            refine ob_yes (wanted_none rfl) ?_
            clear hF hD
            go_simp
            exact hK _ _ (Below.refl _ _) (rt_eqS s86)
          refine obsR_cons ?_ ?_
          · intro T wx K hB hF hD hK
            have g12 : T[12]? = some (.slice (some ⟨p', q', none⟩) n cb1) := hF 12 (freeM_of (by kernel_rfl))
            refine ob_yes (wanted_none rfl) ?_
            clear hF hD
            go_simp
            exact hK _ _ (Below.refl _ _) (rt_eqS s87)
          refine obsR_cons ?_ ?_
          · intro T wx K hB hF hD hK
            have g20 : T[20]? = some (.int .i64 (k : Int)) := hF 20 (freeM_of (by kernel_rfl))
            refine ob_yes (wanted_none rfl) ?_
            clear hF hD
            go_simp
            exact hK _ _ (Below.refl _ _) (rt_eqS s88)
          refine obsR_cons ?_ ?_
          · intro T wx K hB hF hD hK
            have g87 := get_eqS (hD 9 87 (by simp [Region.binds]) (by kernel_rfl)) s87
            have g88 := get_eqS (hD 10 88 (by simp [Region.binds]) (by kernel_rfl)) s88
            refine ob_yes (wanted_none rfl) ?_
            clear hF hD
            go_simp
            exact hK _ _ (Below.refl _ _) (rt_eqS s89)
          refine obsR_cons ?_ ?_
          · intro T wx K hB hF hD hK
            have g89 := get_eqS (hD 11 89 (by simp [Region.binds]) (by kernel_rfl)) s89
            refine ob_yes (wanted_none rfl) ?_
            clear hF hD
            go_simp
            exact hK _ _ (Below.refl _ _) (rt_eqS s90)
          refine obsR_cons ?_ ?_
          · intro T wx K hB hF hD hK
            have g90 := get_eqS (hD 12 90 (by simp [Region.binds]) (by kernel_rfl)) s90
            refine ob_yes (wanted_none rfl) ?_
            clear hF hD
            have e1 := cell_call c2 hB
            go_simp
            exact hK _ _ (Below.refl _ _) (rt_eqS s91)
          refine obsR_cons ?_ ?_
          · intro T wx K hB hF hD hK
            have g13 : T[13]? = some (.pointer (some ⟨zc, 0, none⟩)) := hF 13 (freeM_of (by kernel_rfl))
            refine ob_yes (wanted_none rfl) ?_
            clear hF hD
            go_simp
            exact hK _ _ (Below.refl _ _) (rt_eqS s92)
          refine obsR_cons ?_ ?_
          · intro T wx K hB hF hD hK
            have g92 := get_eqS (hD 14 92 (by simp [Region.binds]) (by kernel_rfl)) s92
            refine ob_yes (wanted_none rfl) ?_
            clear hF hD
            have e1 := cell_call z1 hB
            go_simp
            exact hK _ _ (Below.refl _ _) (rt_eqS s93)
          refine obsR_cons ?_ ?_
          · intro T wx K hB hF hD hK
            have g91 := get_eqS (hD 13 91 (by simp [Region.binds]) (by kernel_rfl)) s91
            have g93 := get_eqS (hD 15 93 (by simp [Region.binds]) (by kernel_rfl)) s93
            refine ob_yes (wanted_none rfl) ?_
            clear hF hD
            go_simp
            exact hK _ _ (Below.refl _ _) (rt_eqS s94)
          refine obsR_cons ?_ ?_
          · intro T wx K hB hF hD hK
            have g86 := get_eqS (hD 8 86 (by simp [Region.binds]) (by kernel_rfl)) s86
            have g94 := get_eqS (hD 16 94 (by simp [Region.binds]) (by kernel_rfl)) s94
            refine ob_yes (wanted_none rfl) ?_
            clear hF hD
            go_simp
            refine (at_is _ _ _).mono ?_; rintro e w9 ⟨rfl, hb⟩
            exact hK _ _ hb (rt_eqS s95)
          refine obsR_cons ?_ ?_
          · intro T wx K hB hF hD hK
            have g95 := get_eqS (hD 17 95 (by simp [Region.binds]) (by kernel_rfl)) s95
            refine ob_yes (wanted_none rfl) ?_
            clear hF hD
            go_simp
            exact hK _ _ (belA (Below.refl _ _) _) (rt_S s96 (app_fresh _ _ _ _))
          exact obsR_nil
        · intro T w8' hb hF hs hD
          have g78 := get_eqS (hD 0 78 (by decide) (by kernel_rfl)) s78
          have g79 := get_eqS (hD 1 79 (by decide) (by kernel_rfl)) s79
          have g80 := get_eqS (hD 2 80 (by decide) (by kernel_rfl)) s80
          have g81 := get_eqS (hD 3 81 (by decide) (by kernel_rfl)) s81
          have g82 := get_eqS (hD 4 82 (by decide) (by kernel_rfl)) s82
          have g83 := get_eqS (hD 5 83 (by decide) (by kernel_rfl)) s83
          have g84 := get_eqS (hD 6 84 (by decide) (by kernel_rfl)) s84
          have g85 := get_eqS (hD 7 85 (by decide) (by kernel_rfl)) s85
          have g86 := get_eqS (hD 8 86 (by decide) (by kernel_rfl)) s86
          have g87 := get_eqS (hD 9 87 (by decide) (by kernel_rfl)) s87
          have g88 := get_eqS (hD 10 88 (by decide) (by kernel_rfl)) s88
          have g89 := get_eqS (hD 11 89 (by decide) (by kernel_rfl)) s89
          have g90 := get_eqS (hD 12 90 (by decide) (by kernel_rfl)) s90
          have g91 := get_eqS (hD 13 91 (by decide) (by kernel_rfl)) s91
          have g92 := get_eqS (hD 14 92 (by decide) (by kernel_rfl)) s92
          have g93 := get_eqS (hD 15 93 (by decide) (by kernel_rfl)) s93
          have g94 := get_eqS (hD 16 94 (by decide) (by kernel_rfl)) s94
          have g95 := get_eqS (hD 17 95 (by decide) (by kernel_rfl)) s95
          obtain ⟨v96, g96, p96⟩ := getS (hD 18 96 (by decide) (by kernel_rfl)) s96
          have hT := conc [(78, v2), (79, .slice (some ⟨p', q', none⟩) n cb1), (80, .int .i64 (k : Int)), (81, .pointer (some ⟨p', q' + k * 2, none⟩)), (82, .pointer (some ⟨p', q' + k * 2, none⟩)), (83, .int .i64 b1), (84, .pointer (some ⟨zc, 0, none⟩)), (85, .int .i64 c), (86, .int .i64 (b1 + c)), (87, .slice (some ⟨p', q', none⟩) n cb1), (88, .int .i64 (k : Int)), (89, .pointer (some ⟨p', q' + k * 2, none⟩)), (90, .pointer (some ⟨p', q' + k * 2 + 1, none⟩)), (91, .int .i64 b2), (92, .pointer (some ⟨zc, 1, none⟩)), (93, .int .i64 d), (94, .int .i64 (b2 + d)), (95, .agg #[.int .i64 (b1 + c), .int .i64 (b2 + d)]), (96, v96)] hs hF (by simp only [List.forall_mem_cons]; exact ⟨g78, g79, g80, g81, g82, g83, g84, g85, g86, g87, g88, g89, g90, g91, g92, g93, g94, g95, g96, fun p hp => absurd hp List.not_mem_nil⟩) (by kernel_rfl)
          simp only [List.foldl, List.setIfInBounds_toArray, List.set_cons_succ, List.set_cons_zero] at hT
          subst hT
          clear hF hD hs g78 g79 g80 g81 g82 g83 g84 g85 g86 g87 g88 g89 g90 g91 g92 g93 g94 g95 g96 s78 s79 s80 s81 s82 s83 s84 s85 s86 s87 s88 s89 s90 s91 s92 s93 s94 s95 s96
          show wpOpsIn _ _ _ _ _ [19, 20] _ _
          have hs8' := hb.size
          have HB8' := Lib.hid (HB9.out.trans (hb.mono (by have := HB9.out.size; omega)))
          have HP8 := own_bel HP9.out hb
          have HO82 := own_bel HO9.out hb
          obtain ⟨bn, cn, rfl, pn⟩ := p96
          clear hb c1 c2 z0 z1
          refine tail_append rfl rfl rfl rfl rfl (.tmp 78) (.tmp 96) 23 rfl w6.heap.size 35 i0 (.agg #[.int .i64 0, .int .i64 0]) 2 16 Try.underlying23 hi0 hz0 hz1' hz2 rfl (by decide) _ _ _ rfl HP8 ⟨bn, 0, none⟩ 1 cn [.int .i64 (b1 + c), .int .i64 (b2 + d)] rfl rfl (row_news pn) (by intro u hu; simp at hu; rcases hu with rfl | rfl <;> rfl) (by decide) (by unfold maxLen; omega) (by omega) (by omega) ?_
          intro g2 capg2 w9' hown' hgrow hat hlt'
          have HB9' := Lib.hid (HB8'.out.grown hgrow (by omega) (fun g e => (HP8.lt g e).1))
          rw [← E2.out] at hown'
          have HP9' := Lib.hid hown'
          have HO9' := Lib.hid (HO82.kept hgrow (.inr HDJ9.out))
          have HDJ' : Hid (v1'.ownBlock ≠ (Value.slice (some ⟨g2, 0, none⟩) (k + 1) capg2).ownBlock) := Lib.hid (by
            show v1'.ownBlock ≠ some g2
            rcases hat with h | h
            · rw [← h]; exact HDJ9.out
            · intro e; have := (HO82.lt g2 e).2; omega)
          clear hgrow hown' HO82 HP8 hat hlt'
          simp only [wpOpsIn]
          go_simp
          go_wp2
          go_roundw
          case rel => exact ⟨_, _, k + 1, rfl, rfl, by omega, by go_num, HO9'.out, HP9'.out, HDJ'.out, HB9'.out⟩
          case measure => simp [intOf]; omega
    · have hki : ¬ (k : Int) < n := by omega
      have HK : Hid (k = n) := Lib.hid (by omega)
      obtain ⟨uo, uc, rfl, hp⟩ := own_row (l := U) (base := w6.heap.size) (by have := HO1.out; rw [HK.out, ← LU.out, List.take_length] at this; exact this)
      have QU := Lib.hid hp
      clear hp
      obtain ⟨vo, vc, rfl, hp⟩ := own_row (l := V) (base := w6.heap.size) (by have := HO2.out; rw [HK.out, ← LV.out, List.take_length] at this; exact this)
      have QV := Lib.hid hp
      clear hp HO1 HO2 HDJ
      have HB0 := Lib.hid (show Below w6.heap.size w6 wr from HBX.out)
      replace B := Lib.hid (belT B.out HB0.out)
      replace QP := Lib.hid (prow_below QP.out HB0.out)
      replace QQ := Lib.hid (prow_below QQ.out HB0.out)
      replace ZO := Lib.hid (blk_call ZO.out HB0.out)
      replace ZC := Lib.hid (blk_call ZC.out HB0.out)
      clear HBX HB0 QA QB HK
      generalize wr = w20 at *
      have s1 : IntKind.i64.wrap (x + c) = x + c := by have := EXC.out; unfold In8 at this; rw [IntKind.wrap_i64]; omega
      have s2 : IntKind.i64.wrap (y + d) = y + d := by have := EYD.out; unfold In8 at this; rw [IntKind.wrap_i64]; omega
      have z0 := blk_cell ZO.out 0 _ rfl
      have z1 := blk_cell ZO.out 1 _ rfl
      have y0 := blk_cell ZC.out 0 _ rfl
      have y1 := blk_cell ZC.out 1 _ rfl
      go_wp2_with fail
      refine (at_is (x + c) (y + d) _).mono ?_
      rintro e w31 ⟨rfl, hb31⟩
      clear z0 z1 y0 y1
      replace QP := Lib.hid (prow_below QP.out hb31)
      replace QQ := Lib.hid (prow_below QQ.out hb31)
      replace QU := Lib.hid (prow_below QU.out hb31)
      replace QV := Lib.hid (prow_below QV.out hb31)
      replace ZO := Lib.hid (blk_call ZO.out hb31)
      replace ZC := Lib.hid (blk_call ZC.out hb31)
      replace B := Lib.hid (belT B.out hb31)
      clear hb31
      go_wp2_with fail
      refine (region_is uo vo _ _ uc vc (x + c) (y + d) U V r t _ rfl rfl HR HTR (by rw [LU.out]; omega) (by rw [LV.out]; omega) QU.out QV.out (small8_V SU.out) (small8_V SV.out) (in8_V EXC.out) (in8_V EYD.out) VOR.out).mono ?_
      rintro e w32 ⟨⟨ro, rc, rfl, hp⟩, hb32⟩
      replace QP := Lib.hid (prow_below QP.out hb32)
      replace QQ := Lib.hid (prow_below QQ.out hb32)
      replace QU := Lib.hid (prow_below QU.out hb32)
      replace QV := Lib.hid (prow_below QV.out hb32)
      replace ZO := Lib.hid (blk_call ZO.out hb32)
      replace ZC := Lib.hid (blk_call ZC.out hb32)
      replace B := Lib.hid (belT B.out hb32)
      clear hb32
      have QR := Lib.hid hp
      clear hp QU QV
      have own1 := World.ownsRow_lit w32 (base := w32.heap.size) (e := 35) (size := 2) #[] 0 (Nat.le_refl _) (by decide) rfl
      have bel0 := belA (Below.refl _ w32) (.cells #[] 35)
      go_wp2_with fail
      go_loopw [23, 24] (fun v1 i wr => ∃ (x1 : Value) (k : Nat), x1 = v1 ∧ k ≤ u.length ∧ i = .int .i64 k ∧ wr.ownsRow w32.heap.size 35 2 v1 k (flat (r.take k)) ∧ Below w32.heap.size w32 wr) (fun _ i _ => u.length - (intOf i).toNat)
      case atStart => exact ⟨_, 0, rfl, Nat.zero_le _, rfl, own1, bel0⟩
      case round =>
        clear own1 bel0
        obtain ⟨v1, k, rfl, hk, rfl, ho1, hBx⟩ := hrel
        have HO1 := Lib.hid ho1
        have HBX := Lib.hid hBx
        clear ho1 hBx
        by_cases hkn : k < u.length
        · have hki : (k : Int) < u.length := by omega
          obtain ⟨p, q, rfl, c1, c2⟩ := prow_at (prow_below QP.out HBX.out) hkn
          have ba := VU.out k hkn
          unfold InV at ba
          have eu : cx r k = cx u k + c ∧ cy r k = cy u k + d := by rw [← HR'.out]; exact ⟨(movL_at u c d hkn).1, (movL_at u c d hkn).2⟩
          have E1 : Hid (flat (r.take (k + 1)) = flat (r.take k) ++ [.int .i64 (cx u k + c), .int .i64 (cy u k + d)]) := Lib.hid (by rw [flat_take r k (by rw [LR.out]; exact hkn), eu.1, eu.2])
          have bc := BC.out
          have bd := BD.out
          clear eu
          have X2 := blk_call ZC.out HBX.out
          have z0 := blk_cell X2 0 _ rfl
          have z1 := blk_cell X2 1 _ rfl
          have hz0' := HBX.out.size
          clear X2
          generalize cx u k = a1 at *
          generalize cy u k = a2 at *
          have : IntKind.i64.wrap (a1 + c) = a1 + c := by rw [IntKind.wrap_i64]; omega
          have : IntKind.i64.wrap (a2 + d) = a2 + d := by rw [IntKind.wrap_i64]; omega
          clear ba bc bd
          go_upto_region 19 with fail
          obtain ⟨sp, hsp⟩ : ∃ sp : ToldS, sp = [none, none, none, none, none, none, none, none, none, none, none, none, none, none, none, none, none, none, none, none, none, none, none, none, none, none, none, none, none, none, none, none, none, none, none, none, none, none, none, none, none, none, none, none, none, none, none, none, none, none, none, none, none, none, none, none, none, none, none, none, none, none, none, none, none, none, none, none, none, none, none, none, none, none, none, none, none, none, none, none, none, none, none, none, none, none, none, none, none, none, none, none, none, none, none, none, none, none, none, none, none, none, none, none, none, none, none, none, none, none, none, none, none, none, none, none, none, none, none, none, none, none, some (eqS (v1)), some (eqS (.slice (some ⟨p, q, none⟩) u.length pc)), some (eqS (.int .i64 (k : Int))), some (eqS (.pointer (some ⟨p, q + k * 2, none⟩))), some (eqS (.pointer (some ⟨p, q + k * 2, none⟩))), some (eqS (.int .i64 a1)), some (eqS (.pointer (some ⟨zc, 0, none⟩))), some (eqS (.int .i64 c)), some (eqS (.int .i64 (a1 + c))), some (eqS (.slice (some ⟨p, q, none⟩) u.length pc)), some (eqS (.int .i64 (k : Int))), some (eqS (.pointer (some ⟨p, q + k * 2, none⟩))), some (eqS (.pointer (some ⟨p, q + k * 2 + 1, none⟩))), some (eqS (.int .i64 a2)), some (eqS (.pointer (some ⟨zc, 1, none⟩))), some (eqS (.int .i64 d)), some (eqS (.int .i64 (a2 + d))), some (eqS (.agg #[.int .i64 (a1 + c), .int .i64 (a2 + d)])), some (rowB [((a1 + c), (a2 + d))])] := ⟨_, rfl⟩
          have s122 : sp.getD 122 none = some (eqS (v1)) := by rw [hsp]; rfl
          have s123 : sp.getD 123 none = some (eqS (.slice (some ⟨p, q, none⟩) u.length pc)) := by rw [hsp]; rfl
          have s124 : sp.getD 124 none = some (eqS (.int .i64 (k : Int))) := by rw [hsp]; rfl
          have s125 : sp.getD 125 none = some (eqS (.pointer (some ⟨p, q + k * 2, none⟩))) := by rw [hsp]; rfl
          have s126 : sp.getD 126 none = some (eqS (.pointer (some ⟨p, q + k * 2, none⟩))) := by rw [hsp]; rfl
          have s127 : sp.getD 127 none = some (eqS (.int .i64 a1)) := by rw [hsp]; rfl
          have s128 : sp.getD 128 none = some (eqS (.pointer (some ⟨zc, 0, none⟩))) := by rw [hsp]; rfl
          have s129 : sp.getD 129 none = some (eqS (.int .i64 c)) := by rw [hsp]; rfl
          have s130 : sp.getD 130 none = some (eqS (.int .i64 (a1 + c))) := by rw [hsp]; rfl
          have s131 : sp.getD 131 none = some (eqS (.slice (some ⟨p, q, none⟩) u.length pc)) := by rw [hsp]; rfl
          have s132 : sp.getD 132 none = some (eqS (.int .i64 (k : Int))) := by rw [hsp]; rfl
          have s133 : sp.getD 133 none = some (eqS (.pointer (some ⟨p, q + k * 2, none⟩))) := by rw [hsp]; rfl
          have s134 : sp.getD 134 none = some (eqS (.pointer (some ⟨p, q + k * 2 + 1, none⟩))) := by rw [hsp]; rfl
          have s135 : sp.getD 135 none = some (eqS (.int .i64 a2)) := by rw [hsp]; rfl
          have s136 : sp.getD 136 none = some (eqS (.pointer (some ⟨zc, 1, none⟩))) := by rw [hsp]; rfl
          have s137 : sp.getD 137 none = some (eqS (.int .i64 d)) := by rw [hsp]; rfl
          have s138 : sp.getD 138 none = some (eqS (.int .i64 (a2 + d))) := by rw [hsp]; rfl
          have s139 : sp.getD 139 none = some (eqS (.agg #[.int .i64 (a1 + c), .int .i64 (a2 + d)])) := by rw [hsp]; rfl
          have s140 : sp.getD 140 none = some (rowB [((a1 + c), (a2 + d))]) := by rw [hsp]; rfl
          clear hsp
          refine (wpIn_wide (n := 0)).1 (region_headR (RtS sp) (rtS_keep sp) 19 rfl rfl rfl (by kernel_rfl) (by decide) (by kernel_rfl) (by kernel_rfl) (by kernel_rfl) ?_ ?_)
          · intro Q'; show ObsR _ _ _ _ _ _ _ _ (List.take _ _); simp only [List.take_succ_cons, List.take_zero]
            refine obsR_cons ?_ ?_
            · intro T wx K hB hF hD hK
              have g23 : T[23]? = some (v1) := hF 23 (freeM_of (by kernel_rfl))
              refine ob_yes (wanted_none rfl) ?_
              clear hF hD
              go_simp
              exact hK _ _ (Below.refl _ _) (rt_eqS s122)
            refine obsR_cons ?_ ?_
            · intro T wx K hB hF hD hK
              have g14 : T[14]? = some (.slice (some ⟨p, q, none⟩) u.length pc) := hF 14 (freeM_of (by kernel_rfl))
              refine ob_yes (wanted_none rfl) ?_
              clear hF hD
              go_simp
              exact hK _ _ (Below.refl _ _) (rt_eqS s123)
            refine obsR_cons ?_ ?_
            · intro T wx K hB hF hD hK
              have g24 : T[24]? = some (.int .i64 (k : Int)) := hF 24 (freeM_of (by kernel_rfl))
              refine ob_yes (wanted_none rfl) ?_
              clear hF hD
              go_simp
              exact hK _ _ (Below.refl _ _) (rt_eqS s124)
            refine obsR_cons ?_ ?_
            · intro T wx K hB hF hD hK
              have g123 := get_eqS (hD 1 123 (by simp [Region.binds]) (by kernel_rfl)) s123
              have g124 := get_eqS (hD 2 124 (by simp [Region.binds]) (by kernel_rfl)) s124
              refine ob_yes (wanted_none rfl) ?_
              clear hF hD
              go_simp
              exact hK _ _ (Below.refl _ _) (rt_eqS s125)
            refine obsR_cons ?_ ?_
            · intro T wx K hB hF hD hK
              have g125 := get_eqS (hD 3 125 (by simp [Region.binds]) (by kernel_rfl)) s125
              refine ob_yes (wanted_none rfl) ?_
              clear hF hD
              go_simp
              exact hK _ _ (Below.refl _ _) (rt_eqS s126)
            refine obsR_cons ?_ ?_
            · intro T wx K hB hF hD hK
              have g126 := get_eqS (hD 4 126 (by simp [Region.binds]) (by kernel_rfl)) s126
              refine ob_yes (wanted_none rfl) ?_
              clear hF hD
              have e1 := cell_call c1 hB
              go_simp
              exact hK _ _ (Below.refl _ _) (rt_eqS s127)
            refine obsR_cons ?_ ?_
            · intro T wx K hB hF hD hK
              have g13 : T[13]? = some (.pointer (some ⟨zc, 0, none⟩)) := hF 13 (freeM_of (by kernel_rfl))
              refine ob_yes (wanted_none rfl) ?_
              clear hF hD
              go_simp
              exact hK _ _ (Below.refl _ _) (rt_eqS s128)
            refine obsR_cons ?_ ?_
            · intro T wx K hB hF hD hK
              have g128 := get_eqS (hD 6 128 (by simp [Region.binds]) (by kernel_rfl)) s128
              refine ob_yes (wanted_none rfl) ?_
              clear hF hD
              have e1 := cell_call z0 hB
              go_simp
              exact hK _ _ (Below.refl _ _) (rt_eqS s129)
            refine obsR_cons ?_ ?_
            · intro T wx K hB hF hD hK
              have g127 := get_eqS (hD 5 127 (by simp [Region.binds]) (by kernel_rfl)) s127
              have g129 := get_eqS (hD 7 129 (by simp [Region.binds]) (by kernel_rfl)) s129
              refine ob_yes (wanted_none rfl) ?_
              clear hF hD
              go_simp
              exact hK _ _ (Below.refl _ _) (rt_eqS s130)
            refine obsR_cons ?_ ?_
            · intro T wx K hB hF hD hK
              have g14 : T[14]? = some (.slice (some ⟨p, q, none⟩) u.length pc) := hF 14 (freeM_of (by kernel_rfl))
              refine ob_yes (wanted_none rfl) ?_
              clear hF hD
              go_simp
              exact hK _ _ (Below.refl _ _) (rt_eqS s131)
            refine obsR_cons ?_ ?_
            · intro T wx K hB hF hD hK
              have g24 : T[24]? = some (.int .i64 (k : Int)) := hF 24 (freeM_of (by kernel_rfl))
              refine ob_yes (wanted_none rfl) ?_
              clear hF hD
              go_simp
              exact hK _ _ (Below.refl _ _) (rt_eqS s132)
            refine obsR_cons ?_ ?_
            · intro T wx K hB hF hD hK
              have g131 := get_eqS (hD 9 131 (by simp [Region.binds]) (by kernel_rfl)) s131
              have g132 := get_eqS (hD 10 132 (by simp [Region.binds]) (by kernel_rfl)) s132
              refine ob_yes (wanted_none rfl) ?_
              clear hF hD
              go_simp
              exact hK _ _ (Below.refl _ _) (rt_eqS s133)
            refine obsR_cons ?_ ?_
            · intro T wx K hB hF hD hK
              have g133 := get_eqS (hD 11 133 (by simp [Region.binds]) (by kernel_rfl)) s133
              refine ob_yes (wanted_none rfl) ?_
              clear hF hD
              go_simp
              exact hK _ _ (Below.refl _ _) (rt_eqS s134)
            refine obsR_cons ?_ ?_
            · intro T wx K hB hF hD hK
              have g134 := get_eqS (hD 12 134 (by simp [Region.binds]) (by kernel_rfl)) s134
              refine ob_yes (wanted_none rfl) ?_
              clear hF hD
              have e1 := cell_call c2 hB
              go_simp
              exact hK _ _ (Below.refl _ _) (rt_eqS s135)
            refine obsR_cons ?_ ?_
            · intro T wx K hB hF hD hK
              have g13 : T[13]? = some (.pointer (some ⟨zc, 0, none⟩)) := hF 13 (freeM_of (by kernel_rfl))
              refine ob_yes (wanted_none rfl) ?_
              clear hF hD
              go_simp
              exact hK _ _ (Below.refl _ _) (rt_eqS s136)
            refine obsR_cons ?_ ?_
            · intro T wx K hB hF hD hK
              have g136 := get_eqS (hD 14 136 (by simp [Region.binds]) (by kernel_rfl)) s136
              refine ob_yes (wanted_none rfl) ?_
              clear hF hD
              have e1 := cell_call z1 hB
              go_simp
              exact hK _ _ (Below.refl _ _) (rt_eqS s137)
            refine obsR_cons ?_ ?_
            · intro T wx K hB hF hD hK
              have g135 := get_eqS (hD 13 135 (by simp [Region.binds]) (by kernel_rfl)) s135
              have g137 := get_eqS (hD 15 137 (by simp [Region.binds]) (by kernel_rfl)) s137
              refine ob_yes (wanted_none rfl) ?_
              clear hF hD
              go_simp
              exact hK _ _ (Below.refl _ _) (rt_eqS s138)
            refine obsR_cons ?_ ?_
            · intro T wx K hB hF hD hK
              have g130 := get_eqS (hD 8 130 (by simp [Region.binds]) (by kernel_rfl)) s130
              have g138 := get_eqS (hD 16 138 (by simp [Region.binds]) (by kernel_rfl)) s138
              refine ob_yes (wanted_none rfl) ?_
              clear hF hD
              go_simp
              refine (at_is _ _ _).mono ?_; rintro e w9 ⟨rfl, hb⟩
              exact hK _ _ hb (rt_eqS s139)
            refine obsR_cons ?_ ?_
            · intro T wx K hB hF hD hK
              have g139 := get_eqS (hD 17 139 (by simp [Region.binds]) (by kernel_rfl)) s139
              refine ob_yes (wanted_none rfl) ?_
              clear hF hD
              go_simp
              exact hK _ _ (belA (Below.refl _ _) _) (rt_S s140 (app_fresh _ _ _ _))
            exact obsR_nil
          · intro T w8 hb hF hs hD
            have g122 := get_eqS (hD 0 122 (by decide) (by kernel_rfl)) s122
            have g123 := get_eqS (hD 1 123 (by decide) (by kernel_rfl)) s123
            have g124 := get_eqS (hD 2 124 (by decide) (by kernel_rfl)) s124
            have g125 := get_eqS (hD 3 125 (by decide) (by kernel_rfl)) s125
            have g126 := get_eqS (hD 4 126 (by decide) (by kernel_rfl)) s126
            have g127 := get_eqS (hD 5 127 (by decide) (by kernel_rfl)) s127
            have g128 := get_eqS (hD 6 128 (by decide) (by kernel_rfl)) s128
            have g129 := get_eqS (hD 7 129 (by decide) (by kernel_rfl)) s129
            have g130 := get_eqS (hD 8 130 (by decide) (by kernel_rfl)) s130
            have g131 := get_eqS (hD 9 131 (by decide) (by kernel_rfl)) s131
            have g132 := get_eqS (hD 10 132 (by decide) (by kernel_rfl)) s132
            have g133 := get_eqS (hD 11 133 (by decide) (by kernel_rfl)) s133
            have g134 := get_eqS (hD 12 134 (by decide) (by kernel_rfl)) s134
            have g135 := get_eqS (hD 13 135 (by decide) (by kernel_rfl)) s135
            have g136 := get_eqS (hD 14 136 (by decide) (by kernel_rfl)) s136
            have g137 := get_eqS (hD 15 137 (by decide) (by kernel_rfl)) s137
            have g138 := get_eqS (hD 16 138 (by decide) (by kernel_rfl)) s138
            have g139 := get_eqS (hD 17 139 (by decide) (by kernel_rfl)) s139
            obtain ⟨v140, g140, p140⟩ := getS (hD 18 140 (by decide) (by kernel_rfl)) s140
            have hT := conc [(122, v1), (123, .slice (some ⟨p, q, none⟩) u.length pc), (124, .int .i64 (k : Int)), (125, .pointer (some ⟨p, q + k * 2, none⟩)), (126, .pointer (some ⟨p, q + k * 2, none⟩)), (127, .int .i64 a1), (128, .pointer (some ⟨zc, 0, none⟩)), (129, .int .i64 c), (130, .int .i64 (a1 + c)), (131, .slice (some ⟨p, q, none⟩) u.length pc), (132, .int .i64 (k : Int)), (133, .pointer (some ⟨p, q + k * 2, none⟩)), (134, .pointer (some ⟨p, q + k * 2 + 1, none⟩)), (135, .int .i64 a2), (136, .pointer (some ⟨zc, 1, none⟩)), (137, .int .i64 d), (138, .int .i64 (a2 + d)), (139, .agg #[.int .i64 (a1 + c), .int .i64 (a2 + d)]), (140, v140)] hs hF (by simp only [List.forall_mem_cons]; exact ⟨g122, g123, g124, g125, g126, g127, g128, g129, g130, g131, g132, g133, g134, g135, g136, g137, g138, g139, g140, fun p hp => absurd hp List.not_mem_nil⟩) (by kernel_rfl)
            simp only [List.foldl, List.setIfInBounds_toArray, List.set_cons_succ, List.set_cons_zero] at hT
            subst hT
            clear hF hD hs g122 g123 g124 g125 g126 g127 g128 g129 g130 g131 g132 g133 g134 g135 g136 g137 g138 g139 g140 s122 s123 s124 s125 s126 s127 s128 s129 s130 s131 s132 s133 s134 s135 s136 s137 s138 s139 s140
            show wpOpsIn _ _ _ _ _ [19, 20] _ _
            have hs8 := hb.size
            have HB8 := Lib.hid (HBX.out.trans (hb.mono HBX.out.size))
            have HO8 := own_bel HO1.out hb
            obtain ⟨bn, cn, rfl, pn⟩ := p140
            clear hb c1 c2 z0 z1
            refine tail_append rfl rfl rfl rfl rfl (.tmp 122) (.tmp 140) 23 rfl w32.heap.size 35 i0 (.agg #[.int .i64 0, .int .i64 0]) 2 16 Try.underlying23 hi0 hz0 hz1' hz2 rfl (by decide) _ _ _ rfl HO8 ⟨bn, 0, none⟩ 1 cn [.int .i64 (a1 + c), .int .i64 (a2 + d)] rfl rfl (row_news pn) (by intro u hu; simp at hu; rcases hu with rfl | rfl <;> rfl) (by decide) (by unfold maxLen; omega) (by omega) (by omega) ?_
            intro g1 capg1 w9 hown' hgrow hat hlt'
            have HB9 := Lib.hid (HB8.out.grown hgrow (by omega) (fun g e => (HO8.lt g e).1))
            rw [← E1.out] at hown'
            have HO9 := Lib.hid hown'
            clear hgrow hown' HO8 hat hlt'
            simp only [wpOpsIn]
            go_simp
            go_wp2
            go_roundw
            case rel => exact ⟨_, k + 1, rfl, by omega, by go_num, HO9.out, HB9.out⟩
            case measure => simp [intOf]; omega
        · have hki : ¬ (k : Int) < u.length := by omega
          have HK : Hid (k = u.length) := Lib.hid (by omega)
          obtain ⟨so, sc, rfl, hp⟩ := own_row (l := r) (base := w32.heap.size) (by have := HO1.out; rw [HK.out, ← LR.out, List.take_length] at this; exact this)
          have QS := Lib.hid hp
          replace B := Lib.hid (belT B.out HBX.out)
          replace QP := Lib.hid (prow_below QP.out HBX.out)
          replace QQ := Lib.hid (prow_below QQ.out HBX.out)
          replace QR := Lib.hid (prow_below QR.out HBX.out)
          have hrl : r.length ≤ 36 := by rw [LR.out]; exact hul
          clear hp HO1 HK HBX ZO ZC
          generalize wr = w40 at *
          go_wp2_with fail
          refine (same_is po qo _ _ pc qc u u true _ rfl rfl (Lib.hid (decide_eq_true rfl)) (by omega) (by omega) QP.out QQ.out).mono ?_
          rintro e w51 ⟨rfl, hb51⟩
          replace QP := Lib.hid (prow_below QP.out hb51)
          replace QQ := Lib.hid (prow_below QQ.out hb51)
          replace QR := Lib.hid (prow_below QR.out hb51)
          replace QS := Lib.hid (prow_below QS.out hb51)
          replace B := Lib.hid (belT B.out hb51)
          clear hb51
          go_wp2_with fail
          refine (same_is ro so _ _ rc sc r r true _ rfl rfl (Lib.hid (decide_eq_true rfl)) (by omega) (by omega) QR.out QS.out).mono ?_
          rintro e w52 ⟨rfl, hb52⟩
          replace QP := Lib.hid (prow_below QP.out hb52)
          replace QQ := Lib.hid (prow_below QQ.out hb52)
          replace QR := Lib.hid (prow_below QR.out hb52)
          replace QS := Lib.hid (prow_below QS.out hb52)
          replace B := Lib.hid (belT B.out hb52)
          clear hb52
          go_wp2_with fail
          go_ret
          exact ⟨rfl, B.out⟩

set_option maxRecDepth 100000 in
theorem lifted (os : Os) (started : os.Started) (H : Type) (enc : TypeId × Value → H) :
    ReturnsInHanded {} Try.checked os 7 .any (Rows.sweepSymmetricSpec.pre6 enc Try.prog Try.f7 Rows.sweepSymmetricRow.domain false) (Rows.sweepSymmetricSpec.post enc Try.prog Try.f7 false true false false) := by
  refine returnsInHanded_of_change (C := Try.checked) HFr.own started (by kernel_rfl) Try.func7
    (ChangeSpec.witness6 (enc := enc) (C := Try.checked) false ⟨#[], #[.agg #[.int .i64 0, .int .i64 0], .slice none 0 0, .slice none 0 0, .agg #[.int .i64 0, .int .i64 0]], []⟩ 8 (by kernel_rfl) (by kernel_rfl) (by kernel_rfl) (by kernel_rfl)) ?_
  intro W base args ds gs before hval0 hW hcnd _
  have hval : ∀ (j : Nat) t v, Try.f7.params[j]? = some t → args[j]? = some v → Value.okWide Try.prog W .any base t v := hval0
  have hW' := hW
  obtain ⟨p, q, hA0, hV, rfl, hfz, hnd⟩ := hW
  have hA : DataW.TrodAll enc Try.prog W 0 (fun _ => true) true Try.f7.params.toList args.toList ds p := hA0
  rw [Try.params7] at hA hval
  obtain ⟨v0, vs0, d0, ds0, p0, q0, hargs, rfl, rfl, h0, r0⟩ := trodAll_cons hA
  obtain ⟨v1, vs1, d1, ds1, p1, q1, rfl, rfl, rfl, h1, r1⟩ := trodAll_cons r0
  obtain ⟨v2, vs2, d2, ds2, p2, q2, rfl, rfl, rfl, h2, r2⟩ := trodAll_cons r1
  obtain ⟨v3, vs3, d3, ds3, p3, q3, rfl, rfl, rfl, h3, r3⟩ := trodAll_cons r2
  obtain ⟨rfl, rfl, rfl⟩ := trodAll_nil r3
  obtain rfl : args = #[v0, v1, v2, v3] := by cases args; simp_all
  obtain ⟨rfl, rfl⟩ := trodVars_none hV
  have k0 := h0
  have lt0 : ∀ x ∈ p0, x.block < W.heap.size := by obtain ⟨m, hm⟩ := k0; exact DataW.trod_lt m _ _ _ hm
  obtain ⟨x0, y0, rfl⟩ := HFr.open_pt (hval 0 35 v0 rfl rfl) h0
  have k1 := h1
  have lt1 : ∀ x ∈ p1, x.block < W.heap.size := by obtain ⟨m, hm⟩ := k1; exact DataW.trod_lt m _ _ _ hm
  obtain ⟨a1, cap1, l1, rfl, n1, w1⟩ := HFr.open_pts (hval 1 22 v1 rfl rfl) h1
  have k2 := h2
  have lt2 : ∀ x ∈ p2, x.block < W.heap.size := by obtain ⟨m, hm⟩ := k2; exact DataW.trod_lt m _ _ _ hm
  obtain ⟨a2, cap2, l2, rfl, n2, w2⟩ := HFr.open_pts (hval 2 22 v2 rfl rfl) h2
  have k3 := h3
  have lt3 : ∀ x ∈ p3, x.block < W.heap.size := by obtain ⟨m, hm⟩ := k3; exact DataW.trod_lt m _ _ _ hm
  obtain ⟨x3, y3, rfl⟩ := HFr.open_pt (hval 3 35 v3 rfl rfl) h3
  clear hA0 hval0
  refine (walk x0 y0 a1 cap1 l1 n1 w1 a2 cap2 l2 n2 w2 x3 y3 W rfl).mono fun e W' ⟨he, bel⟩ => ?_
  subst he
  exact ⟨_, rfl, _, _, _, [], _, [], hW', trodAll_mk1 (shut_bool Try.underlying4 _), (trodAll_cons_mk (Below.trod HFr.laidOut (by kernel_rfl) (of_decide_eq_true (by kernel_rfl)) k0 bel lt0) (trodAll_cons_mk (Below.trod HFr.laidOut (by kernel_rfl) (of_decide_eq_true (by kernel_rfl)) k1 bel lt1) (trodAll_cons_mk (Below.trod HFr.laidOut (by kernel_rfl) (of_decide_eq_true (by kernel_rfl)) k2 bel lt2) (trodAll_cons_mk (Below.trod HFr.laidOut (by kernel_rfl) (of_decide_eq_true (by kernel_rfl)) k3 bel lt3) trodAll_mk0)))), rfl, bel.frame _, fun h => by cases h⟩

/-- THE STATEMENT. -/
theorem holds : Rows.SweepSymmetricSaid :=
  OpenClaim.holds_of_wide 7 Try.f7 rfl rfl rfl rfl rfl rfl rfl ⟨rfl, rfl, rfl, rfl, rfl⟩ rfl rfl rfl rfl rfl (by kernel_rfl) Try.func7 (by kernel_rfl)
    (of_decide_eq_true (by kernel_rfl)) (by unfold Func.isWrapper; first | (rw [if_pos (by decide +kernel)]; kernel_rfl) | (rw [if_neg (by decide +kernel)]; exact ⟨rfl, rfl⟩))
    (fun os started H enc _ => lifted os started H enc)
#print axioms holds
end Go.Proofs.Ytnpadblfpaiofaa.sweepSymmetric
