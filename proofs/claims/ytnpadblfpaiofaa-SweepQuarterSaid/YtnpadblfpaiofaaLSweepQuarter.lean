/- Proved: rotating both polygons by a quarter turn about the pivot rotates the set of corners of the result by a quarter turn (the law SweepQuarter returns true).
Conditions: none on the arguments. -/
import Derived.Test.YtnpadblfpaiofaaSwM
import Derived.Test.YtnpadblfpaiofaaSwL
namespace Go.Proofs.Ytnpadblfpaiofaa.sweepQuarter
open Go.ChangeShapes Go.WideShapes Go.ChangeAt Go.RowKit
set_option linter.unusedVariables false
set_option linter.unusedSimpArgs false

def ptrS (base : Nat) : StP := ⟨fun v w => ∃ g, v = .pointer (some ⟨g, 0, none⟩) ∧ base ≤ g ∧ w.heap[g]? = some (.cells #[.int .i64 0, .int .i64 0] 35 (0, 0)), fun _ _ _ ⟨g, h1, h2, h3⟩ hb => ⟨g, h1, h2, blk_call h3 hb⟩⟩
/-- Does the point occur among the first k? -/
def metB (l : List (Int × Int)) (q : Int × Int) (k : Nat) : Bool := (List.range k).any fun j => decide (cx l j = q.1) && decide (cy l j = q.2)
theorem metB_succ (l : List (Int × Int)) (q : Int × Int) (k : Nat) : metB l q (k + 1) = (metB l q k || (decide (cx l k = q.1) && decide (cy l k = q.2))) := by unfold metB; rw [List.range_succ, List.any_append]; simp
theorem metB_all {l : List (Int × Int)} {q : Int × Int} (h : q ∈ l) : metB l q l.length = true := by
  obtain ⟨j, hj, e⟩ := mem_gp h
  unfold metB
  rw [List.any_eq_true]
  refine ⟨j, List.mem_range.2 hj, ?_⟩
  rw [show cx l j = q.1 from congrArg Prod.fst e, show cy l j = q.2 from congrArg Prod.snd e]
  simp

set_option maxRecDepth 100000 in
set_option maxHeartbeats 16000000 in
theorem walk {w : World} (X Y : Int) (ao : Option Addr) (ca : Nat) (l : List (Int × Int)) (nl : l.length ≤ 9223372036854775807) (hA : PRow w ao l) (bo : Option Addr) (cb : Nat) (m : List (Int × Int)) (nm : m.length ≤ 9223372036854775807) (hB : PRow w bo m) (W' : World) (hw : w = W') :
    Calls Try.prog 9 #[.agg #[.int .i64 X, .int .i64 Y], .slice ao l.length ca, .slice bo m.length cb] w fun e w' => e = .returned (.bool true) ∧ Below w.heap.size w w' := by
  obtain ⟨i0, hi0, hz0, hz1', hz2⟩ := info_parts infoP
  have PA := Lib.hid hA
  have PB := Lib.hid hB
  clear hA hB hw
  obtain ⟨x, hx⟩ : ∃ x, fitI X = x := ⟨_, rfl⟩
  obtain ⟨y, hy⟩ : ∃ y, fitI Y = y := ⟨_, rfl⟩
  have HX := Lib.hid hx
  have HY := Lib.hid hy
  have BX := Lib.hid (show -10000000 ≤ x ∧ x ≤ 10000000 by rw [← hx]; exact fit_bd X)
  have BY := Lib.hid (show -10000000 ≤ y ∧ y ≤ 10000000 by rw [← hy]; exact fit_bd Y)
  have EX := Lib.hid (show In8 x by rw [← hx]; exact fit_in8 X)
  have EY := Lib.hid (show In8 y by rw [← hy]; exact fit_in8 Y)
  obtain ⟨a, ha⟩ : ∃ a, sameL l m = a := ⟨_, rfl⟩
  obtain ⟨b, hb⟩ : ∃ b, sameR l m = b := ⟨_, rfl⟩
  obtain ⟨n, hn⟩ : ∃ n, sameN l m = n := ⟨_, rfl⟩
  have HA := Lib.hid ha
  have HB := Lib.hid hb
  have HN := Lib.hid hn
  have TA := Lib.hid (show Small7 a by rw [← ha]; exact (same_small l m).1)
  have TB := Lib.hid (show Small7 b by rw [← hb]; exact (same_small l m).2)
  have SA := Lib.hid (small78 TA.out)
  have SB := Lib.hid (small78 TB.out)
  have LA := Lib.hid (show a.length = n by rw [← ha, ← hn]; exact (same_len l m).1)
  have LB := Lib.hid (show b.length = n by rw [← hb, ← hn]; exact (same_len l m).2.1)
  have n12 : n ≤ 12 := by rw [← hn]; exact (same_len l m).2.2
  clear hx hy ha hb hn
  go_enter Try.func9, Try.ntmps9
  go_wp2_with fail
  refine (head6_is _).mono ?_
  rintro e w1 ⟨rfl, hb1⟩
  replace PA := Lib.hid (prow_below (prow_alloc PA.out (.cells #[.int .i64 X, .int .i64 Y] 35)) hb1)
  replace PB := Lib.hid (prow_below (prow_alloc PB.out (.cells #[.int .i64 X, .int .i64 Y] 35)) hb1)
  have ZB := Lib.hid (blk_call (blk_new w (.cells #[.int .i64 X, .int .i64 Y] 35) (w.heap.size) rfl) hb1)
  have B := Lib.hid (belT (belA (Below.refl _ w) (.cells #[.int .i64 X, .int .i64 Y] 35)) hb1)
  clear hb1
  have z0 := blk_cell ZB.out 0 _ rfl
  have z1 := blk_cell ZB.out 1 _ rfl
  go_wp2_with fail
  refine (fit_is X Y x y _ HX HY).mono ?_
  rintro e w2 ⟨rfl, hb2⟩
  clear z0 z1
  replace PA := Lib.hid (prow_below PA.out hb2)
  replace PB := Lib.hid (prow_below PB.out hb2)
  replace ZB := Lib.hid (blk_call ZB.out hb2)
  replace B := Lib.hid (belT B.out hb2)
  clear hb2
  clear ZB
  go_wp2_with fail
  refine (same6_is ao bo _ _ ca cb l m a b n _ rfl rfl HA HB HN nl nm (prow_alloc PA.out (.cells #[.int .i64 x, .int .i64 y] 35)) (prow_alloc PB.out (.cells #[.int .i64 x, .int .i64 y] 35))).mono ?_
  rintro e w3 ⟨⟨ao1, bo1, ca1, cb1, rfl, hca, hcb, hp, hq⟩, hb3⟩
  replace PA := Lib.hid (prow_below (prow_alloc PA.out (.cells #[.int .i64 x, .int .i64 y] 35)) hb3)
  replace PB := Lib.hid (prow_below (prow_alloc PB.out (.cells #[.int .i64 x, .int .i64 y] 35)) hb3)
  have ZO := Lib.hid (blk_call (blk_new w2 (.cells #[.int .i64 x, .int .i64 y] 35) (w2.heap.size) rfl) hb3)
  replace B := Lib.hid (belT (belA B.out (.cells #[.int .i64 x, .int .i64 y] 35)) hb3)
  clear hb3
  have QA := Lib.hid hp
  have QB := Lib.hid hq
  clear hp hq PA PB HA HB
  generalize hzo : w2.heap.size = zo at *
  obtain ⟨u, hu⟩ : ∃ u, hullL (ptsL (x, y) a b) = u := ⟨_, rfl⟩
  have HU : Hid (regL (x, y) a b = u) := Lib.hid (by rw [← hu]; exact if_pos ⟨by rw [LA.out, LB.out], by rw [LA.out]; exact n12⟩)
  obtain ⟨t, ht⟩ : ∃ t, decide (u ≠ []) = t := ⟨_, rfl⟩
  have HT := Lib.hid ht
  have hul : u.length ≤ 36 := by rw [← HU.out]; exact reg_len
  have VU := Lib.hid (show AllV u by rw [← HU.out]; exact reg_allV (o := (x, y)) EX.out EY.out SA.out SB.out)
  have VO := Lib.hid (out_allV (o := (x, y)) EX.out EY.out SA.out SB.out)
  have VP := Lib.hid (pts_allV (o := (x, y)) EX.out EY.out SA.out SB.out)
  have HC : Hid ((u = [] ∧ ∀ p ∈ ptsL (x, y) a b, ∀ q ∈ ptsL (x, y) a b, ∀ r ∈ ptsL (x, y) a b, dt p q r = 0) ∨ (u ≠ [] ∧ IsHull (ptsL (x, y) a b) u)) := Lib.hid (by rw [← hu]; exact hull_cases _)
  clear hu ht
  have z0 := blk_cell ZO.out 0 _ rfl
  have z1 := blk_cell ZO.out 1 _ rfl
  go_wp2_with fail
  refine (region_is ao1 bo1 _ _ ca1 cb1 x y a b u t _ LA.out LB.out HU HT (by omega) (by omega) QA.out QB.out (small8_V SA.out) (small8_V SB.out) (in8_V EX.out) (in8_V EY.out) VO.out).mono ?_
  rintro e w4 ⟨⟨po, pc, rfl, hp⟩, hb4⟩
  clear z0 z1
  replace ZO := Lib.hid (blk_call ZO.out hb4)
  replace QA := Lib.hid (prow_below QA.out hb4)
  replace QB := Lib.hid (prow_below QB.out hb4)
  replace B := Lib.hid (belT B.out hb4)
  clear hb4
  have QP := Lib.hid hp
  clear hp
  obtain ⟨U, hU⟩ : ∃ U, qrL (x, y) a = U := ⟨_, rfl⟩
  obtain ⟨V, hV⟩ : ∃ V, qrL (x, y) b = V := ⟨_, rfl⟩
  have HU' := Lib.hid hU
  have HV' := Lib.hid hV
  have LU : Hid (U.length = n) := Lib.hid (by rw [← hU, qrL_len]; exact LA.out)
  have LV : Hid (V.length = n) := Lib.hid (by rw [← hV, qrL_len]; exact LB.out)
  have SU := Lib.hid (show ∀ q ∈ U, In9 q.1 ∧ In9 q.2 by rw [← hU]; exact qrL_in9 BX.out BY.out TA.out)
  have SV := Lib.hid (show ∀ q ∈ V, In9 q.1 ∧ In9 q.2 by rw [← hV]; exact qrL_in9 BX.out BY.out TB.out)
  have E9 : Hid (In9 x ∧ In9 y) := Lib.hid (by have := BX.out; have := BY.out; unfold In9; omega)
  have VU9 : Hid (AllV U) := Lib.hid ((allV_iff U).2 fun q hq => ⟨in9_V (SU.out q hq).1, in9_V (SU.out q hq).2⟩)
  have VV9 : Hid (AllV V) := Lib.hid ((allV_iff V).2 fun q hq => ⟨in9_V (SV.out q hq).1, in9_V (SV.out q hq).2⟩)
  have VOR := Lib.hid (out_allV9 (o := (x, y)) E9.out.1 E9.out.2 SU.out SV.out)
  obtain ⟨r, hr⟩ : ∃ r, hullL (ptsL (x, y) U V) = r := ⟨_, rfl⟩
  have HR : Hid (regL (x, y) U V = r) := Lib.hid (by rw [← hr]; exact if_pos ⟨by rw [LU.out, LV.out], by rw [LU.out]; exact n12⟩)
  have hup : hullL (ptsL (x, y) a b) = u := by rw [← HU.out]; exact (if_pos ⟨by rw [LA.out, LB.out], by rw [LA.out]; exact n12⟩).symm
  have COR : Hid (r.length = u.length ∧ ∀ q, q ∈ u → qr (x, y) q ∈ r) := Lib.hid (by
    have := qr_corners (x, y) (ptsL (x, y) a b)
    rw [hup, ← pts_qr, hU, hV, hr] at this
    exact this)
  have lru := COR.out.1
  have HTR : Hid (decide (r ≠ []) = t) := Lib.hid (by
    rw [← HT.out]
    by_cases e : u = []
    · have : r = [] := List.length_eq_zero_iff.1 (by rw [lru, e]; rfl)
      rw [e, this]
    · have : r ≠ [] := fun h => e (List.length_eq_zero_iff.1 (by rw [← lru, h]; rfl))
      rw [decide_eq_true this, decide_eq_true e])
  clear hU hV hr hup lru
  have own1 := (World.ownsRow_lit w4 (base := w4.heap.size) (e := 35) (size := 2) #[] 0 (Nat.le_refl _) (by decide) rfl).alloc (.cells #[] 35)
  have own2 := World.ownsRow_lit (w4.alloc (.cells #[] 35)) (base := w4.heap.size) (e := 35) (size := 2) #[] 0 (by simp) (by decide) rfl
  have bel0 := belA (belA (Below.refl _ w4) (.cells #[] 35)) (.cells #[] 35)
  rw [World.size_alloc] at own2
  go_wp2_with fail
  go_loopw [13, 14, 15] (fun v1 v2 i wr => ∃ (x1 x2 : Value) (k : Nat), x1 = v1 ∧ x2 = v2 ∧ k ≤ n ∧ i = .int .i64 k ∧ wr.ownsRow w4.heap.size 35 2 v1 k (flat (U.take k)) ∧ wr.ownsRow w4.heap.size 35 2 v2 k (flat (V.take k)) ∧ v1.ownBlock ≠ v2.ownBlock ∧ Below w4.heap.size w4 wr) (fun _ _ i _ => n - (intOf i).toNat)
  case atStart => exact ⟨_, _, 0, rfl, rfl, Nat.zero_le _, rfl, own1, own2, by simp [Value.ownBlock], bel0⟩
  case round =>
    clear own1 own2 bel0
    obtain ⟨v1, v2, k, rfl, rfl, hk, rfl, ho1, ho2, hdj, hBx⟩ := hrel
    have HO1 := Lib.hid ho1
    have HO2 := Lib.hid ho2
    have HDJ := Lib.hid hdj
    have HBX := Lib.hid hBx
    clear ho1 ho2 hdj hBx
    by_cases hkn : k < n
    · have hki : (k : Int) < n := by omega
      have hka : k < a.length := by rw [LA.out]; exact hkn
      have hkb : k < b.length := by rw [LB.out]; exact hkn
      obtain ⟨p, q, rfl, c1, c2⟩ := prow_at (prow_below QA.out HBX.out) hka
      obtain ⟨p', q', rfl, c3, c4⟩ := prow_at (prow_below QB.out HBX.out) hkb
      have ba := TA.out _ (gp_mem hka)
      have bb := TB.out _ (gp_mem hkb)
      change (fun z : Int => -10000000 ≤ z ∧ z ≤ 10000000) (cx a k) ∧ (fun z : Int => -10000000 ≤ z ∧ z ≤ 10000000) (cy a k) at ba
      change (fun z : Int => -10000000 ≤ z ∧ z ≤ 10000000) (cx b k) ∧ (fun z : Int => -10000000 ≤ z ∧ z ≤ 10000000) (cy b k) at bb
      simp only at ba bb
      have eu : cx U k = (x - (cy a k - y)) ∧ cy U k = (y + cx a k - x) := by rw [← HU'.out]; exact ⟨congrArg Prod.fst (qrL_at (x, y) a hka), congrArg Prod.snd (qrL_at (x, y) a hka)⟩
      have ev : cx V k = (x - (cy b k - y)) ∧ cy V k = (y + cx b k - x) := by rw [← HV'.out]; exact ⟨congrArg Prod.fst (qrL_at (x, y) b hkb), congrArg Prod.snd (qrL_at (x, y) b hkb)⟩
      have E1 : Hid (flat (U.take (k + 1)) = flat (U.take k) ++ [.int .i64 (x - (cy a k - y)), .int .i64 (y + cx a k - x)]) := Lib.hid (by rw [flat_take U k (by rw [LU.out]; exact hkn), eu.1, eu.2])
      have E2 : Hid (flat (V.take (k + 1)) = flat (V.take k) ++ [.int .i64 (x - (cy b k - y)), .int .i64 (y + cx b k - x)]) := Lib.hid (by rw [flat_take V k (by rw [LV.out]; exact hkn), ev.1, ev.2])
      have bx := BX.out
      have by' := BY.out
      clear eu ev
      have X2 := blk_call ZO.out HBX.out
      have z0 := blk_cell X2 0 _ rfl
      have z1 := blk_cell X2 1 _ rfl
      have hz0' := HBX.out.size
      clear X2
      generalize cx a k = a1 at *
      generalize cy a k = a2 at *
      generalize hb1 : cx b k = b1 at *
      generalize hb2 : cy b k = b2 at *
      have HB1 := Lib.hid hb1
      have HB2 := Lib.hid hb2
      clear hb1 hb2
      have : IntKind.i64.wrap (a2 - y) = a2 - y := by rw [IntKind.wrap_i64]; omega
      have : IntKind.i64.wrap (x - (a2 - y)) = x - (a2 - y) := by rw [IntKind.wrap_i64]; omega
      have : IntKind.i64.wrap (y + a1) = y + a1 := by rw [IntKind.wrap_i64]; omega
      have : IntKind.i64.wrap (y + a1 - x) = y + a1 - x := by rw [IntKind.wrap_i64]; omega
      have : IntKind.i64.wrap (b2 - y) = b2 - y := by rw [IntKind.wrap_i64]; omega
      have : IntKind.i64.wrap (x - (b2 - y)) = x - (b2 - y) := by rw [IntKind.wrap_i64]; omega
      have : IntKind.i64.wrap (y + b1) = y + b1 := by rw [IntKind.wrap_i64]; omega
      have : IntKind.i64.wrap (y + b1 - x) = y + b1 - x := by rw [IntKind.wrap_i64]; omega
      clear ba bb bx by'
      go_upto_region 10 with fail
      obtain ⟨sp, hsp⟩ : ∃ sp : ToldS, sp = [none, none, none, none, none, none, none, none, none, none, none, none, none, none, none, none, none, none, none, none, none, none, none, none, none, none, none, none, none, none, none, none, none, none, none, none, none, none, none, none, none, none, none, none, none, none, some (eqS (v1)), some (eqS (.pointer (some ⟨zo, 0, none⟩))), some (eqS (.int .i64 x)), some (eqS (.slice (some ⟨p, q, none⟩) n ca1)), some (eqS (.int .i64 (k : Int))), some (eqS (.pointer (some ⟨p, q + k * 2, none⟩))), some (eqS (.pointer (some ⟨p, q + k * 2 + 1, none⟩))), some (eqS (.int .i64 a2)), some (eqS (.pointer (some ⟨zo, 1, none⟩))), some (eqS (.int .i64 y)), some (eqS (.int .i64 (a2 - y))), some (eqS (.int .i64 (x - (a2 - y)))), some (eqS (.pointer (some ⟨zo, 1, none⟩))), some (eqS (.int .i64 y)), some (eqS (.slice (some ⟨p, q, none⟩) n ca1)), some (eqS (.int .i64 (k : Int))), some (eqS (.pointer (some ⟨p, q + k * 2, none⟩))), some (eqS (.pointer (some ⟨p, q + k * 2, none⟩))), some (eqS (.int .i64 a1)), some (eqS (.int .i64 (y + a1))), some (eqS (.pointer (some ⟨zo, 0, none⟩))), some (eqS (.int .i64 x)), some (eqS (.int .i64 (y + a1 - x))), some (eqS (.agg #[.int .i64 (x - (a2 - y)), .int .i64 (y + a1 - x)])), some (rowB [((x - (a2 - y)), (y + a1 - x))])] := ⟨_, rfl⟩
      have s46 : sp.getD 46 none = some (eqS (v1)) := by rw [hsp]; rfl
      have s47 : sp.getD 47 none = some (eqS (.pointer (some ⟨zo, 0, none⟩))) := by rw [hsp]; rfl
      have s48 : sp.getD 48 none = some (eqS (.int .i64 x)) := by rw [hsp]; rfl
      have s49 : sp.getD 49 none = some (eqS (.slice (some ⟨p, q, none⟩) n ca1)) := by rw [hsp]; rfl
      have s50 : sp.getD 50 none = some (eqS (.int .i64 (k : Int))) := by rw [hsp]; rfl
      have s51 : sp.getD 51 none = some (eqS (.pointer (some ⟨p, q + k * 2, none⟩))) := by rw [hsp]; rfl
      have s52 : sp.getD 52 none = some (eqS (.pointer (some ⟨p, q + k * 2 + 1, none⟩))) := by rw [hsp]; rfl
      have s53 : sp.getD 53 none = some (eqS (.int .i64 a2)) := by rw [hsp]; rfl
      have s54 : sp.getD 54 none = some (eqS (.pointer (some ⟨zo, 1, none⟩))) := by rw [hsp]; rfl
      have s55 : sp.getD 55 none = some (eqS (.int .i64 y)) := by rw [hsp]; rfl
      have s56 : sp.getD 56 none = some (eqS (.int .i64 (a2 - y))) := by rw [hsp]; rfl
      have s57 : sp.getD 57 none = some (eqS (.int .i64 (x - (a2 - y)))) := by rw [hsp]; rfl
      have s58 : sp.getD 58 none = some (eqS (.pointer (some ⟨zo, 1, none⟩))) := by rw [hsp]; rfl
      have s59 : sp.getD 59 none = some (eqS (.int .i64 y)) := by rw [hsp]; rfl
      have s60 : sp.getD 60 none = some (eqS (.slice (some ⟨p, q, none⟩) n ca1)) := by rw [hsp]; rfl
      have s61 : sp.getD 61 none = some (eqS (.int .i64 (k : Int))) := by rw [hsp]; rfl
      have s62 : sp.getD 62 none = some (eqS (.pointer (some ⟨p, q + k * 2, none⟩))) := by rw [hsp]; rfl
      have s63 : sp.getD 63 none = some (eqS (.pointer (some ⟨p, q + k * 2, none⟩))) := by rw [hsp]; rfl
      have s64 : sp.getD 64 none = some (eqS (.int .i64 a1)) := by rw [hsp]; rfl
      have s65 : sp.getD 65 none = some (eqS (.int .i64 (y + a1))) := by rw [hsp]; rfl
      have s66 : sp.getD 66 none = some (eqS (.pointer (some ⟨zo, 0, none⟩))) := by rw [hsp]; rfl
      have s67 : sp.getD 67 none = some (eqS (.int .i64 x)) := by rw [hsp]; rfl
      have s68 : sp.getD 68 none = some (eqS (.int .i64 (y + a1 - x))) := by rw [hsp]; rfl
      have s69 : sp.getD 69 none = some (eqS (.agg #[.int .i64 (x - (a2 - y)), .int .i64 (y + a1 - x)])) := by rw [hsp]; rfl
      have s70 : sp.getD 70 none = some (rowB [((x - (a2 - y)), (y + a1 - x))]) := by rw [hsp]; rfl
      clear hsp
      refine (wpIn_wide (n := 0)).1 (region_headR (RtS sp) (rtS_keep sp) 25 rfl rfl rfl (by kernel_rfl) (by decide) (by kernel_rfl) (by kernel_rfl) (by kernel_rfl) ?_ ?_)
      · intro Q'; show ObsR _ _ _ _ _ _ _ _ (List.take _ _); simp only [List.take_succ_cons, List.take_zero]
        refine obsR_cons ?_ ?_
        · intro T wx K hB hF hD hK
          have g13 : T[13]? = some (v1) := hF 13 (freeM_of (by kernel_rfl))
          refine ob_yes (wanted_none rfl) ?_
          clear hF hD
          go_simp
          exact hK _ _ (Below.refl _ _) (rt_eqS s46)
        refine obsR_cons ?_ ?_
        · intro T wx K hB hF hD hK
          have g8 : T[8]? = some (.pointer (some ⟨zo, 0, none⟩)) := hF 8 (freeM_of (by kernel_rfl))
          refine ob_yes (wanted_none rfl) ?_
          clear hF hD
          go_simp
          exact hK _ _ (Below.refl _ _) (rt_eqS s47)
        refine obsR_cons ?_ ?_
        · intro T wx K hB hF hD hK
          have g47 := get_eqS (hD 1 47 (by simp [Region.binds]) (by kernel_rfl)) s47
          refine ob_yes (wanted_none rfl) ?_
          clear hF hD
          have e1 := cell_call z0 hB
          go_simp
          exact hK _ _ (Below.refl _ _) (rt_eqS s48)
        refine obsR_cons ?_ ?_
        · intro T wx K hB hF hD hK
          have g9 : T[9]? = some (.slice (some ⟨p, q, none⟩) n ca1) := hF 9 (freeM_of (by kernel_rfl))
          refine ob_yes (wanted_none rfl) ?_
          clear hF hD
          go_simp
          exact hK _ _ (Below.refl _ _) (rt_eqS s49)
        refine obsR_cons ?_ ?_
        · intro T wx K hB hF hD hK
          have g15 : T[15]? = some (.int .i64 (k : Int)) := hF 15 (freeM_of (by kernel_rfl))
          refine ob_yes (wanted_none rfl) ?_
          clear hF hD
          go_simp
          exact hK _ _ (Below.refl _ _) (rt_eqS s50)
        refine obsR_cons ?_ ?_
        · intro T wx K hB hF hD hK
          have g49 := get_eqS (hD 3 49 (by simp [Region.binds]) (by kernel_rfl)) s49
          have g50 := get_eqS (hD 4 50 (by simp [Region.binds]) (by kernel_rfl)) s50
          refine ob_yes (wanted_none rfl) ?_
          clear hF hD
          go_simp
          exact hK _ _ (Below.refl _ _) (rt_eqS s51)
        refine obsR_cons ?_ ?_
        · intro T wx K hB hF hD hK
          have g51 := get_eqS (hD 5 51 (by simp [Region.binds]) (by kernel_rfl)) s51
          refine ob_yes (wanted_none rfl) ?_
          clear hF hD
          go_simp
          exact hK _ _ (Below.refl _ _) (rt_eqS s52)
        refine obsR_cons ?_ ?_
        · intro T wx K hB hF hD hK
          have g52 := get_eqS (hD 6 52 (by simp [Region.binds]) (by kernel_rfl)) s52
          refine ob_yes (wanted_none rfl) ?_
          clear hF hD
          have e1 := cell_call c2 hB
          go_simp
          exact hK _ _ (Below.refl _ _) (rt_eqS s53)
        refine obsR_cons ?_ ?_
        · intro T wx K hB hF hD hK
          have g8 : T[8]? = some (.pointer (some ⟨zo, 0, none⟩)) := hF 8 (freeM_of (by kernel_rfl))
          refine ob_yes (wanted_none rfl) ?_
          clear hF hD
          go_simp
          exact hK _ _ (Below.refl _ _) (rt_eqS s54)
        refine obsR_cons ?_ ?_
        · intro T wx K hB hF hD hK
          have g54 := get_eqS (hD 8 54 (by simp [Region.binds]) (by kernel_rfl)) s54
          refine ob_yes (wanted_none rfl) ?_
          clear hF hD
          have e1 := cell_call z1 hB
          go_simp
          exact hK _ _ (Below.refl _ _) (rt_eqS s55)
        refine obsR_cons ?_ ?_
        · intro T wx K hB hF hD hK
          have g53 := get_eqS (hD 7 53 (by simp [Region.binds]) (by kernel_rfl)) s53
          have g55 := get_eqS (hD 9 55 (by simp [Region.binds]) (by kernel_rfl)) s55
          refine ob_yes (wanted_none rfl) ?_
          clear hF hD
          go_simp
          exact hK _ _ (Below.refl _ _) (rt_eqS s56)
        refine obsR_cons ?_ ?_
        · intro T wx K hB hF hD hK
          have g48 := get_eqS (hD 2 48 (by simp [Region.binds]) (by kernel_rfl)) s48
          have g56 := get_eqS (hD 10 56 (by simp [Region.binds]) (by kernel_rfl)) s56
          refine ob_yes (wanted_none rfl) ?_
          clear hF hD
          go_simp
          exact hK _ _ (Below.refl _ _) (rt_eqS s57)
        refine obsR_cons ?_ ?_
        · intro T wx K hB hF hD hK
          have g8 : T[8]? = some (.pointer (some ⟨zo, 0, none⟩)) := hF 8 (freeM_of (by kernel_rfl))
          refine ob_yes (wanted_none rfl) ?_
          clear hF hD
          go_simp
          exact hK _ _ (Below.refl _ _) (rt_eqS s58)
        refine obsR_cons ?_ ?_
        · intro T wx K hB hF hD hK
          have g58 := get_eqS (hD 12 58 (by simp [Region.binds]) (by kernel_rfl)) s58
          refine ob_yes (wanted_none rfl) ?_
          clear hF hD
          have e1 := cell_call z1 hB
          go_simp
          exact hK _ _ (Below.refl _ _) (rt_eqS s59)
        refine obsR_cons ?_ ?_
        · intro T wx K hB hF hD hK
          have g9 : T[9]? = some (.slice (some ⟨p, q, none⟩) n ca1) := hF 9 (freeM_of (by kernel_rfl))
          refine ob_yes (wanted_none rfl) ?_
          clear hF hD
          go_simp
          exact hK _ _ (Below.refl _ _) (rt_eqS s60)
        refine obsR_cons ?_ ?_
        · intro T wx K hB hF hD hK
          have g15 : T[15]? = some (.int .i64 (k : Int)) := hF 15 (freeM_of (by kernel_rfl))
          refine ob_yes (wanted_none rfl) ?_
          clear hF hD
          go_simp
          exact hK _ _ (Below.refl _ _) (rt_eqS s61)
        refine obsR_cons ?_ ?_
        · intro T wx K hB hF hD hK
          have g60 := get_eqS (hD 14 60 (by simp [Region.binds]) (by kernel_rfl)) s60
          have g61 := get_eqS (hD 15 61 (by simp [Region.binds]) (by kernel_rfl)) s61
          refine ob_yes (wanted_none rfl) ?_
          clear hF hD
          go_simp
          exact hK _ _ (Below.refl _ _) (rt_eqS s62)
        refine obsR_cons ?_ ?_
        · intro T wx K hB hF hD hK
          have g62 := get_eqS (hD 16 62 (by simp [Region.binds]) (by kernel_rfl)) s62
          refine ob_yes (wanted_none rfl) ?_
          clear hF hD
          go_simp
          exact hK _ _ (Below.refl _ _) (rt_eqS s63)
        refine obsR_cons ?_ ?_
        · intro T wx K hB hF hD hK
          have g63 := get_eqS (hD 17 63 (by simp [Region.binds]) (by kernel_rfl)) s63
          refine ob_yes (wanted_none rfl) ?_
          clear hF hD
          have e1 := cell_call c1 hB
          go_simp
          exact hK _ _ (Below.refl _ _) (rt_eqS s64)
        refine obsR_cons ?_ ?_
        · intro T wx K hB hF hD hK
          have g59 := get_eqS (hD 13 59 (by simp [Region.binds]) (by kernel_rfl)) s59
          have g64 := get_eqS (hD 18 64 (by simp [Region.binds]) (by kernel_rfl)) s64
          refine ob_yes (wanted_none rfl) ?_
          clear hF hD
          go_simp
          exact hK _ _ (Below.refl _ _) (rt_eqS s65)
        refine obsR_cons ?_ ?_
        · intro T wx K hB hF hD hK
          have g8 : T[8]? = some (.pointer (some ⟨zo, 0, none⟩)) := hF 8 (freeM_of (by kernel_rfl))
          refine ob_yes (wanted_none rfl) ?_
          clear hF hD
          go_simp
          exact hK _ _ (Below.refl _ _) (rt_eqS s66)
        refine obsR_cons ?_ ?_
        · intro T wx K hB hF hD hK
          have g66 := get_eqS (hD 20 66 (by simp [Region.binds]) (by kernel_rfl)) s66
          refine ob_yes (wanted_none rfl) ?_
          clear hF hD
          have e1 := cell_call z0 hB
          go_simp
          exact hK _ _ (Below.refl _ _) (rt_eqS s67)
        refine obsR_cons ?_ ?_
        · intro T wx K hB hF hD hK
          have g65 := get_eqS (hD 19 65 (by simp [Region.binds]) (by kernel_rfl)) s65
          have g67 := get_eqS (hD 21 67 (by simp [Region.binds]) (by kernel_rfl)) s67
          refine ob_yes (wanted_none rfl) ?_
          clear hF hD
          go_simp
          exact hK _ _ (Below.refl _ _) (rt_eqS s68)
        refine obsR_cons ?_ ?_
        · intro T wx K hB hF hD hK
          have g57 := get_eqS (hD 11 57 (by simp [Region.binds]) (by kernel_rfl)) s57
          have g68 := get_eqS (hD 22 68 (by simp [Region.binds]) (by kernel_rfl)) s68
          refine ob_yes (wanted_none rfl) ?_
          clear hF hD
          go_simp
          refine (at_is _ _ _).mono ?_; rintro e w9 ⟨rfl, hb⟩
          exact hK _ _ hb (rt_eqS s69)
        refine obsR_cons ?_ ?_
        · intro T wx K hB hF hD hK
          have g69 := get_eqS (hD 23 69 (by simp [Region.binds]) (by kernel_rfl)) s69
          refine ob_yes (wanted_none rfl) ?_
          clear hF hD
          go_simp
          exact hK _ _ (belA (Below.refl _ _) _) (rt_S s70 (app_fresh _ _ _ _))
        exact obsR_nil
      · intro T w8 hb hF hs hD
        have g46 := get_eqS (hD 0 46 (by decide) (by kernel_rfl)) s46
        have g47 := get_eqS (hD 1 47 (by decide) (by kernel_rfl)) s47
        have g48 := get_eqS (hD 2 48 (by decide) (by kernel_rfl)) s48
        have g49 := get_eqS (hD 3 49 (by decide) (by kernel_rfl)) s49
        have g50 := get_eqS (hD 4 50 (by decide) (by kernel_rfl)) s50
        have g51 := get_eqS (hD 5 51 (by decide) (by kernel_rfl)) s51
        have g52 := get_eqS (hD 6 52 (by decide) (by kernel_rfl)) s52
        have g53 := get_eqS (hD 7 53 (by decide) (by kernel_rfl)) s53
        have g54 := get_eqS (hD 8 54 (by decide) (by kernel_rfl)) s54
        have g55 := get_eqS (hD 9 55 (by decide) (by kernel_rfl)) s55
        have g56 := get_eqS (hD 10 56 (by decide) (by kernel_rfl)) s56
        have g57 := get_eqS (hD 11 57 (by decide) (by kernel_rfl)) s57
        have g58 := get_eqS (hD 12 58 (by decide) (by kernel_rfl)) s58
        have g59 := get_eqS (hD 13 59 (by decide) (by kernel_rfl)) s59
        have g60 := get_eqS (hD 14 60 (by decide) (by kernel_rfl)) s60
        have g61 := get_eqS (hD 15 61 (by decide) (by kernel_rfl)) s61
        have g62 := get_eqS (hD 16 62 (by decide) (by kernel_rfl)) s62
        have g63 := get_eqS (hD 17 63 (by decide) (by kernel_rfl)) s63
        have g64 := get_eqS (hD 18 64 (by decide) (by kernel_rfl)) s64
        have g65 := get_eqS (hD 19 65 (by decide) (by kernel_rfl)) s65
        have g66 := get_eqS (hD 20 66 (by decide) (by kernel_rfl)) s66
        have g67 := get_eqS (hD 21 67 (by decide) (by kernel_rfl)) s67
        have g68 := get_eqS (hD 22 68 (by decide) (by kernel_rfl)) s68
        have g69 := get_eqS (hD 23 69 (by decide) (by kernel_rfl)) s69
        obtain ⟨v70, g70, p70⟩ := getS (hD 24 70 (by decide) (by kernel_rfl)) s70
        have hT := conc [(46, v1), (47, .pointer (some ⟨zo, 0, none⟩)), (48, .int .i64 x), (49, .slice (some ⟨p, q, none⟩) n ca1), (50, .int .i64 (k : Int)), (51, .pointer (some ⟨p, q + k * 2, none⟩)), (52, .pointer (some ⟨p, q + k * 2 + 1, none⟩)), (53, .int .i64 a2), (54, .pointer (some ⟨zo, 1, none⟩)), (55, .int .i64 y), (56, .int .i64 (a2 - y)), (57, .int .i64 (x - (a2 - y))), (58, .pointer (some ⟨zo, 1, none⟩)), (59, .int .i64 y), (60, .slice (some ⟨p, q, none⟩) n ca1), (61, .int .i64 (k : Int)), (62, .pointer (some ⟨p, q + k * 2, none⟩)), (63, .pointer (some ⟨p, q + k * 2, none⟩)), (64, .int .i64 a1), (65, .int .i64 (y + a1)), (66, .pointer (some ⟨zo, 0, none⟩)), (67, .int .i64 x), (68, .int .i64 (y + a1 - x)), (69, .agg #[.int .i64 (x - (a2 - y)), .int .i64 (y + a1 - x)]), (70, v70)] hs hF (by simp only [List.forall_mem_cons]; exact ⟨g46, g47, g48, g49, g50, g51, g52, g53, g54, g55, g56, g57, g58, g59, g60, g61, g62, g63, g64, g65, g66, g67, g68, g69, g70, fun p hp => absurd hp List.not_mem_nil⟩) (by kernel_rfl)
        simp only [List.foldl, List.setIfInBounds_toArray, List.set_cons_succ, List.set_cons_zero] at hT
        subst hT
        clear hF hD hs g46 g47 g48 g49 g50 g51 g52 g53 g54 g55 g56 g57 g58 g59 g60 g61 g62 g63 g64 g65 g66 g67 g68 g69 g70 s46 s47 s48 s49 s50 s51 s52 s53 s54 s55 s56 s57 s58 s59 s60 s61 s62 s63 s64 s65 s66 s67 s68 s69 s70
        show wpOpsIn _ _ _ _ _ [25, 26] _ _
        have hs8 := hb.size
        have HB8 := Lib.hid (HBX.out.trans (hb.mono HBX.out.size))
        have HO8 := own_bel HO1.out hb
        have HO82 := own_bel HO2.out hb
        obtain ⟨bn, cn, rfl, pn⟩ := p70
        clear hb c1 c2 c3 c4 z0 z1
        refine tail_append rfl rfl rfl rfl rfl (.tmp 46) (.tmp 70) 23 rfl w4.heap.size 35 i0 (.agg #[.int .i64 0, .int .i64 0]) 2 16 Try.underlying23 hi0 hz0 hz1' hz2 rfl (by decide) _ _ _ rfl HO8 ⟨bn, 0, none⟩ 1 cn [.int .i64 (x - (a2 - y)), .int .i64 (y + a1 - x)] rfl rfl (row_news pn) (by intro u hu; simp at hu; rcases hu with rfl | rfl <;> rfl) (by decide) (by unfold maxLen; omega) (by omega) (by omega) ?_
        intro g1 capg1 w9 hown' hgrow hat hlt'
        have HB9 := Lib.hid (HB8.out.grown hgrow (by omega) (fun g e => (HO8.lt g e).1))
        rw [← E1.out] at hown'
        have HO9 := Lib.hid hown'
        have HP9 := Lib.hid (HO82.kept hgrow (.inr (Ne.symm HDJ.out)))
        have HDJ9 : Hid ((Value.slice (some ⟨g1, 0, none⟩) (k + 1) capg1).ownBlock ≠ v2.ownBlock) := Lib.hid (by
          show some g1 ≠ v2.ownBlock
          rcases hat with h | h
          · rw [← h]; exact HDJ.out
          · intro e; have := (HO82.lt g1 e.symm).2; omega)
        have hz9 := hgrow.size
        clear hgrow hown' HO8 HO82 hat hlt'
        simp only [wpOpsIn]
        go_simp
        obtain ⟨v1', hv1'⟩ : ∃ v, (Value.slice (some ⟨g1, 0, none⟩) (k + 1) capg1) = v := ⟨_, rfl⟩
        rw [hv1'] at HO9 HDJ9
        rw [hv1']
        clear hv1'
        obtain ⟨p, q, he, c1, c2⟩ := prow_at (prow_below QB.out HB9.out) hkb
        obtain ⟨rfl, rfl⟩ : p' = p ∧ q' = q := by simpa using he
        have X2 := blk_call ZO.out HB9.out
        have z0 := blk_cell X2 0 _ rfl
        have z1 := blk_cell X2 1 _ rfl
        clear X2 he
        rw [HB1.out] at c1
        rw [HB2.out] at c2
        go_upto_region 11 with fail
        obtain ⟨sp, hsp⟩ : ∃ sp : ToldS, sp = [none, none, none, none, none, none, none, none, none, none, none, none, none, none, none, none, none, none, none, none, none, none, none, none, none, none, none, none, none, none, none, none, none, none, none, none, none, none, none, none, none, none, none, none, none, none, none, none, none, none, none, none, none, none, none, none, none, none, none, none, none, none, none, none, none, none, none, none, none, none, none, none, some (eqS (v2)), some (eqS (.pointer (some ⟨zo, 0, none⟩))), some (eqS (.int .i64 x)), some (eqS (.slice (some ⟨p', q', none⟩) n cb1)), some (eqS (.int .i64 (k : Int))), some (eqS (.pointer (some ⟨p', q' + k * 2, none⟩))), some (eqS (.pointer (some ⟨p', q' + k * 2 + 1, none⟩))), some (eqS (.int .i64 b2)), some (eqS (.pointer (some ⟨zo, 1, none⟩))), some (eqS (.int .i64 y)), some (eqS (.int .i64 (b2 - y))), some (eqS (.int .i64 (x - (b2 - y)))), some (eqS (.pointer (some ⟨zo, 1, none⟩))), some (eqS (.int .i64 y)), some (eqS (.slice (some ⟨p', q', none⟩) n cb1)), some (eqS (.int .i64 (k : Int))), some (eqS (.pointer (some ⟨p', q' + k * 2, none⟩))), some (eqS (.pointer (some ⟨p', q' + k * 2, none⟩))), some (eqS (.int .i64 b1)), some (eqS (.int .i64 (y + b1))), some (eqS (.pointer (some ⟨zo, 0, none⟩))), some (eqS (.int .i64 x)), some (eqS (.int .i64 (y + b1 - x))), some (eqS (.agg #[.int .i64 (x - (b2 - y)), .int .i64 (y + b1 - x)])), some (rowB [((x - (b2 - y)), (y + b1 - x))])] := ⟨_, rfl⟩
        have s72 : sp.getD 72 none = some (eqS (v2)) := by rw [hsp]; rfl
        have s73 : sp.getD 73 none = some (eqS (.pointer (some ⟨zo, 0, none⟩))) := by rw [hsp]; rfl
        have s74 : sp.getD 74 none = some (eqS (.int .i64 x)) := by rw [hsp]; rfl
        have s75 : sp.getD 75 none = some (eqS (.slice (some ⟨p', q', none⟩) n cb1)) := by rw [hsp]; rfl
        have s76 : sp.getD 76 none = some (eqS (.int .i64 (k : Int))) := by rw [hsp]; rfl
        have s77 : sp.getD 77 none = some (eqS (.pointer (some ⟨p', q' + k * 2, none⟩))) := by rw [hsp]; rfl
        have s78 : sp.getD 78 none = some (eqS (.pointer (some ⟨p', q' + k * 2 + 1, none⟩))) := by rw [hsp]; rfl
        have s79 : sp.getD 79 none = some (eqS (.int .i64 b2)) := by rw [hsp]; rfl
        have s80 : sp.getD 80 none = some (eqS (.pointer (some ⟨zo, 1, none⟩))) := by rw [hsp]; rfl
        have s81 : sp.getD 81 none = some (eqS (.int .i64 y)) := by rw [hsp]; rfl
        have s82 : sp.getD 82 none = some (eqS (.int .i64 (b2 - y))) := by rw [hsp]; rfl
        have s83 : sp.getD 83 none = some (eqS (.int .i64 (x - (b2 - y)))) := by rw [hsp]; rfl
        have s84 : sp.getD 84 none = some (eqS (.pointer (some ⟨zo, 1, none⟩))) := by rw [hsp]; rfl
        have s85 : sp.getD 85 none = some (eqS (.int .i64 y)) := by rw [hsp]; rfl
        have s86 : sp.getD 86 none = some (eqS (.slice (some ⟨p', q', none⟩) n cb1)) := by rw [hsp]; rfl
        have s87 : sp.getD 87 none = some (eqS (.int .i64 (k : Int))) := by rw [hsp]; rfl
        have s88 : sp.getD 88 none = some (eqS (.pointer (some ⟨p', q' + k * 2, none⟩))) := by rw [hsp]; rfl
        have s89 : sp.getD 89 none = some (eqS (.pointer (some ⟨p', q' + k * 2, none⟩))) := by rw [hsp]; rfl
        have s90 : sp.getD 90 none = some (eqS (.int .i64 b1)) := by rw [hsp]; rfl
        have s91 : sp.getD 91 none = some (eqS (.int .i64 (y + b1))) := by rw [hsp]; rfl
        have s92 : sp.getD 92 none = some (eqS (.pointer (some ⟨zo, 0, none⟩))) := by rw [hsp]; rfl
        have s93 : sp.getD 93 none = some (eqS (.int .i64 x)) := by rw [hsp]; rfl
        have s94 : sp.getD 94 none = some (eqS (.int .i64 (y + b1 - x))) := by rw [hsp]; rfl
        have s95 : sp.getD 95 none = some (eqS (.agg #[.int .i64 (x - (b2 - y)), .int .i64 (y + b1 - x)])) := by rw [hsp]; rfl
        have s96 : sp.getD 96 none = some (rowB [((x - (b2 - y)), (y + b1 - x))]) := by rw [hsp]; rfl
        clear hsp
        refine (wpIn_wide (n := 0)).1 (region_headR (RtS sp) (rtS_keep sp) 25 rfl rfl rfl (by kernel_rfl) (by decide) (by kernel_rfl) (by kernel_rfl) (by kernel_rfl) ?_ ?_)
        · intro Q'; show ObsR _ _ _ _ _ _ _ _ (List.take _ _); simp only [List.take_succ_cons, List.take_zero]
          refine obsR_cons ?_ ?_
          · intro T wx K hB hF hD hK
            have g14 : T[14]? = some (v2) := hF 14 (freeM_of (by kernel_rfl))
            refine ob_yes (wanted_none rfl) ?_
            clear hF hD
            go_simp
            exact hK _ _ (Below.refl _ _) (rt_eqS s72)
          refine obsR_cons ?_ ?_
          · intro T wx K hB hF hD hK
            have g8 : T[8]? = some (.pointer (some ⟨zo, 0, none⟩)) := hF 8 (freeM_of (by kernel_rfl))
            refine ob_yes (wanted_none rfl) ?_
            clear hF hD
            go_simp
            exact hK _ _ (Below.refl _ _) (rt_eqS s73)
          refine obsR_cons ?_ ?_
          · intro T wx K hB hF hD hK
            have g73 := get_eqS (hD 1 73 (by simp [Region.binds]) (by kernel_rfl)) s73
            refine ob_yes (wanted_none rfl) ?_
            clear hF hD
            have e1 := cell_call z0 hB
            go_simp
            exact hK _ _ (Below.refl _ _) (rt_eqS s74)
          refine obsR_cons ?_ ?_
          · intro T wx K hB hF hD hK
            have g10 : T[10]? = some (.slice (some ⟨p', q', none⟩) n cb1) := hF 10 (freeM_of (by kernel_rfl))
            refine ob_yes (wanted_none rfl) ?_
            clear hF hD
            go_simp
            exact hK _ _ (Below.refl _ _) (rt_eqS s75)
          refine obsR_cons ?_ ?_
          · intro T wx K hB hF hD hK
            have g15 : T[15]? = some (.int .i64 (k : Int)) := hF 15 (freeM_of (by kernel_rfl))
            refine ob_yes (wanted_none rfl) ?_
            clear hF hD
            go_simp
            exact hK _ _ (Below.refl _ _) (rt_eqS s76)
          refine obsR_cons ?_ ?_
          · intro T wx K hB hF hD hK
            have g75 := get_eqS (hD 3 75 (by simp [Region.binds]) (by kernel_rfl)) s75
            have g76 := get_eqS (hD 4 76 (by simp [Region.binds]) (by kernel_rfl)) s76
            refine ob_yes (wanted_none rfl) ?_
            clear hF hD
            go_simp
            exact hK _ _ (Below.refl _ _) (rt_eqS s77)
          refine obsR_cons ?_ ?_
          · intro T wx K hB hF hD hK
            have g77 := get_eqS (hD 5 77 (by simp [Region.binds]) (by kernel_rfl)) s77
            refine ob_yes (wanted_none rfl) ?_
            clear hF hD
            go_simp
            exact hK _ _ (Below.refl _ _) (rt_eqS s78)
          refine obsR_cons ?_ ?_
          · intro T wx K hB hF hD hK
            have g78 := get_eqS (hD 6 78 (by simp [Region.binds]) (by kernel_rfl)) s78
            refine ob_yes (wanted_none rfl) ?_
            clear hF hD
            have e1 := cell_call c2 hB
            go_simp
            exact hK _ _ (Below.refl _ _) (rt_eqS s79)
          refine obsR_cons ?_ ?_
          · intro T wx K hB hF hD hK
            have g8 : T[8]? = some (.pointer (some ⟨zo, 0, none⟩)) := hF 8 (freeM_of (by kernel_rfl))
            refine ob_yes (wanted_none rfl) ?_
            clear hF hD
            go_simp
            exact hK _ _ (Below.refl _ _) (rt_eqS s80)
          refine obsR_cons ?_ ?_
          · intro T wx K hB hF hD hK
            have g80 := get_eqS (hD 8 80 (by simp [Region.binds]) (by kernel_rfl)) s80
            refine ob_yes (wanted_none rfl) ?_
            clear hF hD
            have e1 := cell_call z1 hB
            go_simp
            exact hK _ _ (Below.refl _ _) (rt_eqS s81)
          refine obsR_cons ?_ ?_
          · intro T wx K hB hF hD hK
            have g79 := get_eqS (hD 7 79 (by simp [Region.binds]) (by kernel_rfl)) s79
            have g81 := get_eqS (hD 9 81 (by simp [Region.binds]) (by kernel_rfl)) s81
            refine ob_yes (wanted_none rfl) ?_
            clear hF hD
            go_simp
            exact hK _ _ (Below.refl _ _) (rt_eqS s82)
          refine obsR_cons ?_ ?_
          · intro T wx K hB hF hD hK
            have g74 := get_eqS (hD 2 74 (by simp [Region.binds]) (by kernel_rfl)) s74
            have g82 := get_eqS (hD 10 82 (by simp [Region.binds]) (by kernel_rfl)) s82
            refine ob_yes (wanted_none rfl) ?_
            clear hF hD
            go_simp
            exact hK _ _ (Below.refl _ _) (rt_eqS s83)
          refine obsR_cons ?_ ?_
          · intro T wx K hB hF hD hK
            have g8 : T[8]? = some (.pointer (some ⟨zo, 0, none⟩)) := hF 8 (freeM_of (by kernel_rfl))
            refine ob_yes (wanted_none rfl) ?_
            clear hF hD
            go_simp
            exact hK _ _ (Below.refl _ _) (rt_eqS s84)
          refine obsR_cons ?_ ?_
          · intro T wx K hB hF hD hK
            have g84 := get_eqS (hD 12 84 (by simp [Region.binds]) (by kernel_rfl)) s84
            refine ob_yes (wanted_none rfl) ?_
            clear hF hD
            have e1 := cell_call z1 hB
            go_simp
            exact hK _ _ (Below.refl _ _) (rt_eqS s85)
          refine obsR_cons ?_ ?_
          · intro T wx K hB hF hD hK
            have g10 : T[10]? = some (.slice (some ⟨p', q', none⟩) n cb1) := hF 10 (freeM_of (by kernel_rfl))
            refine ob_yes (wanted_none rfl) ?_
            clear hF hD
            go_simp
            exact hK _ _ (Below.refl _ _) (rt_eqS s86)
          refine obsR_cons ?_ ?_
          · intro T wx K hB hF hD hK
            have g15 : T[15]? = some (.int .i64 (k : Int)) := hF 15 (freeM_of (by kernel_rfl))
            refine ob_yes (wanted_none rfl) ?_
            clear hF hD
            go_simp
            exact hK _ _ (Below.refl _ _) (rt_eqS s87)
          refine obsR_cons ?_ ?_
          · intro T wx K hB hF hD hK
            have g86 := get_eqS (hD 14 86 (by simp [Region.binds]) (by kernel_rfl)) s86
            have g87 := get_eqS (hD 15 87 (by simp [Region.binds]) (by kernel_rfl)) s87
            refine ob_yes (wanted_none rfl) ?_
            clear hF hD
            go_simp
            exact hK _ _ (Below.refl _ _) (rt_eqS s88)
          refine obsR_cons ?_ ?_
          · intro T wx K hB hF hD hK
            have g88 := get_eqS (hD 16 88 (by simp [Region.binds]) (by kernel_rfl)) s88
            refine ob_yes (wanted_none rfl) ?_
            clear hF hD
            go_simp
            exact hK _ _ (Below.refl _ _) (rt_eqS s89)
          refine obsR_cons ?_ ?_
          · intro T wx K hB hF hD hK
            have g89 := get_eqS (hD 17 89 (by simp [Region.binds]) (by kernel_rfl)) s89
            refine ob_yes (wanted_none rfl) ?_
            clear hF hD
            have e1 := cell_call c1 hB
            go_simp
            exact hK _ _ (Below.refl _ _) (rt_eqS s90)
          refine obsR_cons ?_ ?_
          · intro T wx K hB hF hD hK
            have g85 := get_eqS (hD 13 85 (by simp [Region.binds]) (by kernel_rfl)) s85
            have g90 := get_eqS (hD 18 90 (by simp [Region.binds]) (by kernel_rfl)) s90
            refine ob_yes (wanted_none rfl) ?_
            clear hF hD
            go_simp
            exact hK _ _ (Below.refl _ _) (rt_eqS s91)
          refine obsR_cons ?_ ?_
          · intro T wx K hB hF hD hK
            have g8 : T[8]? = some (.pointer (some ⟨zo, 0, none⟩)) := hF 8 (freeM_of (by kernel_rfl))
            refine ob_yes (wanted_none rfl) ?_
            clear hF hD
            go_simp
            exact hK _ _ (Below.refl _ _) (rt_eqS s92)
          refine obsR_cons ?_ ?_
          · intro T wx K hB hF hD hK
            have g92 := get_eqS (hD 20 92 (by simp [Region.binds]) (by kernel_rfl)) s92
            refine ob_yes (wanted_none rfl) ?_
            clear hF hD
            have e1 := cell_call z0 hB
            go_simp
            exact hK _ _ (Below.refl _ _) (rt_eqS s93)
          refine obsR_cons ?_ ?_
          · intro T wx K hB hF hD hK
            have g91 := get_eqS (hD 19 91 (by simp [Region.binds]) (by kernel_rfl)) s91
            have g93 := get_eqS (hD 21 93 (by simp [Region.binds]) (by kernel_rfl)) s93
            refine ob_yes (wanted_none rfl) ?_
            clear hF hD
            go_simp
            exact hK _ _ (Below.refl _ _) (rt_eqS s94)
          refine obsR_cons ?_ ?_
          · intro T wx K hB hF hD hK
            have g83 := get_eqS (hD 11 83 (by simp [Region.binds]) (by kernel_rfl)) s83
            have g94 := get_eqS (hD 22 94 (by simp [Region.binds]) (by kernel_rfl)) s94
            refine ob_yes (wanted_none rfl) ?_
            clear hF hD
            go_simp
            refine (at_is _ _ _).mono ?_; rintro e w9 ⟨rfl, hb⟩
            exact hK _ _ hb (rt_eqS s95)
          refine obsR_cons ?_ ?_
          · intro T wx K hB hF hD hK
            have g95 := get_eqS (hD 23 95 (by simp [Region.binds]) (by kernel_rfl)) s95
            refine ob_yes (wanted_none rfl) ?_
            clear hF hD
            go_simp
            exact hK _ _ (belA (Below.refl _ _) _) (rt_S s96 (app_fresh _ _ _ _))
          exact obsR_nil
        · intro T w8' hb hF hs hD
          have g72 := get_eqS (hD 0 72 (by decide) (by kernel_rfl)) s72
          have g73 := get_eqS (hD 1 73 (by decide) (by kernel_rfl)) s73
          have g74 := get_eqS (hD 2 74 (by decide) (by kernel_rfl)) s74
          have g75 := get_eqS (hD 3 75 (by decide) (by kernel_rfl)) s75
          have g76 := get_eqS (hD 4 76 (by decide) (by kernel_rfl)) s76
          have g77 := get_eqS (hD 5 77 (by decide) (by kernel_rfl)) s77
          have g78 := get_eqS (hD 6 78 (by decide) (by kernel_rfl)) s78
          have g79 := get_eqS (hD 7 79 (by decide) (by kernel_rfl)) s79
          have g80 := get_eqS (hD 8 80 (by decide) (by kernel_rfl)) s80
          have g81 := get_eqS (hD 9 81 (by decide) (by kernel_rfl)) s81
          have g82 := get_eqS (hD 10 82 (by decide) (by kernel_rfl)) s82
          have g83 := get_eqS (hD 11 83 (by decide) (by kernel_rfl)) s83
          have g84 := get_eqS (hD 12 84 (by decide) (by kernel_rfl)) s84
          have g85 := get_eqS (hD 13 85 (by decide) (by kernel_rfl)) s85
          have g86 := get_eqS (hD 14 86 (by decide) (by kernel_rfl)) s86
          have g87 := get_eqS (hD 15 87 (by decide) (by kernel_rfl)) s87
          have g88 := get_eqS (hD 16 88 (by decide) (by kernel_rfl)) s88
          have g89 := get_eqS (hD 17 89 (by decide) (by kernel_rfl)) s89
          have g90 := get_eqS (hD 18 90 (by decide) (by kernel_rfl)) s90
          have g91 := get_eqS (hD 19 91 (by decide) (by kernel_rfl)) s91
          have g92 := get_eqS (hD 20 92 (by decide) (by kernel_rfl)) s92
          have g93 := get_eqS (hD 21 93 (by decide) (by kernel_rfl)) s93
          have g94 := get_eqS (hD 22 94 (by decide) (by kernel_rfl)) s94
          have g95 := get_eqS (hD 23 95 (by decide) (by kernel_rfl)) s95
          obtain ⟨v96, g96, p96⟩ := getS (hD 24 96 (by decide) (by kernel_rfl)) s96
          have hT := conc [(72, v2), (73, .pointer (some ⟨zo, 0, none⟩)), (74, .int .i64 x), (75, .slice (some ⟨p', q', none⟩) n cb1), (76, .int .i64 (k : Int)), (77, .pointer (some ⟨p', q' + k * 2, none⟩)), (78, .pointer (some ⟨p', q' + k * 2 + 1, none⟩)), (79, .int .i64 b2), (80, .pointer (some ⟨zo, 1, none⟩)), (81, .int .i64 y), (82, .int .i64 (b2 - y)), (83, .int .i64 (x - (b2 - y))), (84, .pointer (some ⟨zo, 1, none⟩)), (85, .int .i64 y), (86, .slice (some ⟨p', q', none⟩) n cb1), (87, .int .i64 (k : Int)), (88, .pointer (some ⟨p', q' + k * 2, none⟩)), (89, .pointer (some ⟨p', q' + k * 2, none⟩)), (90, .int .i64 b1), (91, .int .i64 (y + b1)), (92, .pointer (some ⟨zo, 0, none⟩)), (93, .int .i64 x), (94, .int .i64 (y + b1 - x)), (95, .agg #[.int .i64 (x - (b2 - y)), .int .i64 (y + b1 - x)]), (96, v96)] hs hF (by simp only [List.forall_mem_cons]; exact ⟨g72, g73, g74, g75, g76, g77, g78, g79, g80, g81, g82, g83, g84, g85, g86, g87, g88, g89, g90, g91, g92, g93, g94, g95, g96, fun p hp => absurd hp List.not_mem_nil⟩) (by kernel_rfl)
          simp only [List.foldl, List.setIfInBounds_toArray, List.set_cons_succ, List.set_cons_zero] at hT
          subst hT
          clear hF hD hs g72 g73 g74 g75 g76 g77 g78 g79 g80 g81 g82 g83 g84 g85 g86 g87 g88 g89 g90 g91 g92 g93 g94 g95 g96 s72 s73 s74 s75 s76 s77 s78 s79 s80 s81 s82 s83 s84 s85 s86 s87 s88 s89 s90 s91 s92 s93 s94 s95 s96
          show wpOpsIn _ _ _ _ _ [25, 26] _ _
          have hs8' := hb.size
          have HB8' := Lib.hid (HB9.out.trans (hb.mono (by have := HB9.out.size; omega)))
          have HP8 := own_bel HP9.out hb
          have HO82 := own_bel HO9.out hb
          obtain ⟨bn, cn, rfl, pn⟩ := p96
          clear hb c1 c2 z0 z1
          refine tail_append rfl rfl rfl rfl rfl (.tmp 72) (.tmp 96) 23 rfl w4.heap.size 35 i0 (.agg #[.int .i64 0, .int .i64 0]) 2 16 Try.underlying23 hi0 hz0 hz1' hz2 rfl (by decide) _ _ _ rfl HP8 ⟨bn, 0, none⟩ 1 cn [.int .i64 (x - (b2 - y)), .int .i64 (y + b1 - x)] rfl rfl (row_news pn) (by intro u hu; simp at hu; rcases hu with rfl | rfl <;> rfl) (by decide) (by unfold maxLen; omega) (by omega) (by omega) ?_
          intro g2 capg2 w9' hown' hgrow hat hlt'
          have HB9' := Lib.hid (HB8'.out.grown hgrow (by omega) (fun g e => (HP8.lt g e).1))
          rw [← E2.out] at hown'
          have HP9' := Lib.hid hown'
          have HO9' := Lib.hid (HO82.kept hgrow (.inr HDJ9.out))
          have HDJ' : Hid (v1'.ownBlock ≠ (Value.slice (some ⟨g2, 0, none⟩) (k + 1) capg2).ownBlock) := Lib.hid (by
            show v1'.ownBlock ≠ some g2
            rcases hat with h | h
            · rw [← h]; exact HDJ9.out
            · intro e; have := (HO82.lt g2 e).2; omega)
          clear hgrow hown' HO82 HP8 hat hlt'
          simp only [wpOpsIn]
          go_simp
          go_wp2
          go_roundw
          case rel => exact ⟨_, _, k + 1, rfl, rfl, by omega, by go_num, HO9'.out, HP9'.out, HDJ'.out, HB9'.out⟩
          case measure => simp [intOf]; omega
    · have hki : ¬ (k : Int) < n := by omega
      have HK : Hid (k = n) := Lib.hid (by omega)
      obtain ⟨uo, uc, rfl, hp⟩ := own_row (l := U) (base := w4.heap.size) (by have := HO1.out; rw [HK.out, ← LU.out, List.take_length] at this; exact this)
      have QU := Lib.hid hp
      clear hp
      obtain ⟨vo, vc, rfl, hp⟩ := own_row (l := V) (base := w4.heap.size) (by have := HO2.out; rw [HK.out, ← LV.out, List.take_length] at this; exact this)
      have QV := Lib.hid hp
      clear hp HO1 HO2 HDJ
      have HB0 := Lib.hid (show Below w4.heap.size w4 wr from HBX.out)
      replace B := Lib.hid (belT B.out HB0.out)
      replace QP := Lib.hid (prow_below QP.out HB0.out)
      replace ZO := Lib.hid (blk_call ZO.out HB0.out)
      clear HBX HB0 QA QB HK
      generalize wr = w20 at *
      have z0 := blk_cell ZO.out 0 _ rfl
      have z1 := blk_cell ZO.out 1 _ rfl
      go_wp2_with fail
      refine (region_is uo vo _ _ uc vc x y U V r t _ rfl rfl HR HTR (by rw [LU.out]; omega) (by rw [LV.out]; omega) QU.out QV.out VU9.out VV9.out (in9_V E9.out.1) (in9_V E9.out.2) VOR.out).mono ?_
      rintro e w31 ⟨⟨ro, rc, rfl, hp⟩, hb31⟩
      clear z0 z1
      replace QP := Lib.hid (prow_below QP.out hb31)
      replace QU := Lib.hid (prow_below QU.out hb31)
      replace QV := Lib.hid (prow_below QV.out hb31)
      replace ZO := Lib.hid (blk_call ZO.out hb31)
      replace B := Lib.hid (belT B.out hb31)
      clear hb31
      have QR := Lib.hid hp
      clear hp QU QV
      have lru := COR.out.1
      have lrui : (r.length : Int) = (u.length : Int) := by omega
      have lr1 : ((u.length : Int) != (r.length : Int)) = false := by simp; omega
      clear lru
      cases t with
      | true =>
        go_wp2_with fail
        go_loopw [18] (fun i wr => ∃ (k : Nat), k ≤ u.length ∧ i = .int .i64 k ∧ Below w31.heap.size w31 wr) (fun i _ => u.length - (intOf i).toNat)
        case atStart => exact ⟨0, Nat.zero_le _, rfl, Below.refl _ _⟩
        case round =>
          obtain ⟨k, hk, rfl, hBx⟩ := hrel
          have HBX := Lib.hid hBx
          clear hBx
          by_cases hkn : k < u.length
          · have hki : (k : Int) < u.length := by omega
            obtain ⟨p, q, rfl, c1, c2⟩ := prow_at (prow_below QP.out HBX.out) hkn
            have ba := VU.out k hkn
            unfold InV at ba
            have bx := BX.out
            have by' := BY.out
            have HME : Hid (metB r (x - (cy u k - y), y + cx u k - x) r.length = true) := Lib.hid (metB_all (COR.out.2 _ (gp_mem hkn)))
            have X2 := blk_call ZO.out HBX.out
            have z0 := blk_cell X2 0 _ rfl
            have z1 := blk_cell X2 1 _ rfl
            have hz0' := HBX.out.size
            clear X2
            generalize cx u k = a1 at *
            generalize cy u k = a2 at *
            have : IntKind.i64.wrap (a2 - y) = a2 - y := by rw [IntKind.wrap_i64]; omega
            have : IntKind.i64.wrap (x - (a2 - y)) = x - (a2 - y) := by rw [IntKind.wrap_i64]; omega
            have : IntKind.i64.wrap (y + a1) = y + a1 := by rw [IntKind.wrap_i64]; omega
            have : IntKind.i64.wrap (y + a1 - x) = y + a1 - x := by rw [IntKind.wrap_i64]; omega
            clear ba bx by'
            go_upto_region 18 with fail
            obtain ⟨sp, hsp⟩ : ∃ sp : ToldS, sp = [none, none, none, none, none, none, none, none, none, none, none, none, none, none, none, none, none, none, none, some (ptrS wr.heap.size), none, none, none, none, none, none, none, none, none, none, none, none, none, none, none, none, none, none, none, none, none, none, none, none, none, none, none, none, none, none, none, none, none, none, none, none, none, none, none, none, none, none, none, none, none, none, none, none, none, none, none, none, none, none, none, none, none, none, none, none, none, none, none, none, none, none, none, none, none, none, none, none, none, none, none, none, none, none, none, none, none, none, none, none, none, none, none, none, none, none, none, none, none, none, none, none, none, none, none, none, none, some (eqS (.pointer (some ⟨zo, 0, none⟩))), some (eqS (.int .i64 x)), some (eqS (.slice (some ⟨p, q, none⟩) u.length pc)), some (eqS (.int .i64 (k : Int))), some (eqS (.pointer (some ⟨p, q + k * 2, none⟩))), some (eqS (.pointer (some ⟨p, q + k * 2 + 1, none⟩))), some (eqS (.int .i64 a2)), some (eqS (.pointer (some ⟨zo, 1, none⟩))), some (eqS (.int .i64 y)), some (eqS (.int .i64 (a2 - y))), some (eqS (.int .i64 (x - (a2 - y)))), some (eqS (.pointer (some ⟨zo, 1, none⟩))), some (eqS (.int .i64 y)), some (eqS (.slice (some ⟨p, q, none⟩) u.length pc)), some (eqS (.int .i64 (k : Int))), some (eqS (.pointer (some ⟨p, q + k * 2, none⟩))), some (eqS (.pointer (some ⟨p, q + k * 2, none⟩))), some (eqS (.int .i64 a1)), some (eqS (.int .i64 (y + a1))), some (eqS (.pointer (some ⟨zo, 0, none⟩))), some (eqS (.int .i64 x)), some (eqS (.int .i64 (y + a1 - x))), some (eqS (.agg #[.int .i64 (x - (a2 - y)), .int .i64 (y + a1 - x)]))] := ⟨_, rfl⟩
            have s19 : sp.getD 19 none = some (ptrS wr.heap.size) := by rw [hsp]; rfl
            have s121 : sp.getD 121 none = some (eqS (.pointer (some ⟨zo, 0, none⟩))) := by rw [hsp]; rfl
            have s122 : sp.getD 122 none = some (eqS (.int .i64 x)) := by rw [hsp]; rfl
            have s123 : sp.getD 123 none = some (eqS (.slice (some ⟨p, q, none⟩) u.length pc)) := by rw [hsp]; rfl
            have s124 : sp.getD 124 none = some (eqS (.int .i64 (k : Int))) := by rw [hsp]; rfl
            have s125 : sp.getD 125 none = some (eqS (.pointer (some ⟨p, q + k * 2, none⟩))) := by rw [hsp]; rfl
            have s126 : sp.getD 126 none = some (eqS (.pointer (some ⟨p, q + k * 2 + 1, none⟩))) := by rw [hsp]; rfl
            have s127 : sp.getD 127 none = some (eqS (.int .i64 a2)) := by rw [hsp]; rfl
            have s128 : sp.getD 128 none = some (eqS (.pointer (some ⟨zo, 1, none⟩))) := by rw [hsp]; rfl
            have s129 : sp.getD 129 none = some (eqS (.int .i64 y)) := by rw [hsp]; rfl
            have s130 : sp.getD 130 none = some (eqS (.int .i64 (a2 - y))) := by rw [hsp]; rfl
            have s131 : sp.getD 131 none = some (eqS (.int .i64 (x - (a2 - y)))) := by rw [hsp]; rfl
            have s132 : sp.getD 132 none = some (eqS (.pointer (some ⟨zo, 1, none⟩))) := by rw [hsp]; rfl
            have s133 : sp.getD 133 none = some (eqS (.int .i64 y)) := by rw [hsp]; rfl
            have s134 : sp.getD 134 none = some (eqS (.slice (some ⟨p, q, none⟩) u.length pc)) := by rw [hsp]; rfl
            have s135 : sp.getD 135 none = some (eqS (.int .i64 (k : Int))) := by rw [hsp]; rfl
            have s136 : sp.getD 136 none = some (eqS (.pointer (some ⟨p, q + k * 2, none⟩))) := by rw [hsp]; rfl
            have s137 : sp.getD 137 none = some (eqS (.pointer (some ⟨p, q + k * 2, none⟩))) := by rw [hsp]; rfl
            have s138 : sp.getD 138 none = some (eqS (.int .i64 a1)) := by rw [hsp]; rfl
            have s139 : sp.getD 139 none = some (eqS (.int .i64 (y + a1))) := by rw [hsp]; rfl
            have s140 : sp.getD 140 none = some (eqS (.pointer (some ⟨zo, 0, none⟩))) := by rw [hsp]; rfl
            have s141 : sp.getD 141 none = some (eqS (.int .i64 x)) := by rw [hsp]; rfl
            have s142 : sp.getD 142 none = some (eqS (.int .i64 (y + a1 - x))) := by rw [hsp]; rfl
            have s143 : sp.getD 143 none = some (eqS (.agg #[.int .i64 (x - (a2 - y)), .int .i64 (y + a1 - x)])) := by rw [hsp]; rfl
            clear hsp
            refine (wpIn_wide (n := 0)).1 (region_headR (RtS sp) (rtS_keep sp) 24 rfl rfl rfl (by kernel_rfl) (by decide) (by kernel_rfl) (by kernel_rfl) (by kernel_rfl) ?_ ?_)
            · intro Q'; show ObsR _ _ _ _ _ _ _ _ (List.take _ _); simp only [List.take_succ_cons, List.take_zero]
              refine obsR_cons ?_ ?_
              · intro T wx K hB hF hD hK
                have g8 : T[8]? = some (.pointer (some ⟨zo, 0, none⟩)) := hF 8 (freeM_of (by kernel_rfl))
                refine ob_yes (wanted_none rfl) ?_
                clear hF hD
                go_simp
                exact hK _ _ (Below.refl _ _) (rt_eqS s121)
              refine obsR_cons ?_ ?_
              · intro T wx K hB hF hD hK
                have g121 := get_eqS (hD 0 121 (by simp [Region.binds]) (by kernel_rfl)) s121
                refine ob_yes (wanted_none rfl) ?_
                clear hF hD
                have e1 := cell_call z0 hB
                go_simp
                exact hK _ _ (Below.refl _ _) (rt_eqS s122)
              refine obsR_cons ?_ ?_
              · intro T wx K hB hF hD hK
                have g11 : T[11]? = some (.slice (some ⟨p, q, none⟩) u.length pc) := hF 11 (freeM_of (by kernel_rfl))
                refine ob_yes (wanted_none rfl) ?_
                clear hF hD
                go_simp
                exact hK _ _ (Below.refl _ _) (rt_eqS s123)
              refine obsR_cons ?_ ?_
              · intro T wx K hB hF hD hK
                have g18 : T[18]? = some (.int .i64 (k : Int)) := hF 18 (freeM_of (by kernel_rfl))
                refine ob_yes (wanted_none rfl) ?_
                clear hF hD
                go_simp
                exact hK _ _ (Below.refl _ _) (rt_eqS s124)
              refine obsR_cons ?_ ?_
              · intro T wx K hB hF hD hK
                have g123 := get_eqS (hD 2 123 (by simp [Region.binds]) (by kernel_rfl)) s123
                have g124 := get_eqS (hD 3 124 (by simp [Region.binds]) (by kernel_rfl)) s124
                refine ob_yes (wanted_none rfl) ?_
                clear hF hD
                go_simp
                exact hK _ _ (Below.refl _ _) (rt_eqS s125)
              refine obsR_cons ?_ ?_
              · intro T wx K hB hF hD hK
                have g125 := get_eqS (hD 4 125 (by simp [Region.binds]) (by kernel_rfl)) s125
                refine ob_yes (wanted_none rfl) ?_
                clear hF hD
                go_simp
                exact hK _ _ (Below.refl _ _) (rt_eqS s126)
              refine obsR_cons ?_ ?_
              · intro T wx K hB hF hD hK
                have g126 := get_eqS (hD 5 126 (by simp [Region.binds]) (by kernel_rfl)) s126
                refine ob_yes (wanted_none rfl) ?_
                clear hF hD
                have e1 := cell_call c2 hB
                go_simp
                exact hK _ _ (Below.refl _ _) (rt_eqS s127)
              refine obsR_cons ?_ ?_
              · intro T wx K hB hF hD hK
                have g8 : T[8]? = some (.pointer (some ⟨zo, 0, none⟩)) := hF 8 (freeM_of (by kernel_rfl))
                refine ob_yes (wanted_none rfl) ?_
                clear hF hD
                go_simp
                exact hK _ _ (Below.refl _ _) (rt_eqS s128)
              refine obsR_cons ?_ ?_
              · intro T wx K hB hF hD hK
                have g128 := get_eqS (hD 7 128 (by simp [Region.binds]) (by kernel_rfl)) s128
                refine ob_yes (wanted_none rfl) ?_
                clear hF hD
                have e1 := cell_call z1 hB
                go_simp
                exact hK _ _ (Below.refl _ _) (rt_eqS s129)
              refine obsR_cons ?_ ?_
              · intro T wx K hB hF hD hK
                have g127 := get_eqS (hD 6 127 (by simp [Region.binds]) (by kernel_rfl)) s127
                have g129 := get_eqS (hD 8 129 (by simp [Region.binds]) (by kernel_rfl)) s129
                refine ob_yes (wanted_none rfl) ?_
                clear hF hD
                go_simp
                exact hK _ _ (Below.refl _ _) (rt_eqS s130)
              refine obsR_cons ?_ ?_
              · intro T wx K hB hF hD hK
                have g122 := get_eqS (hD 1 122 (by simp [Region.binds]) (by kernel_rfl)) s122
                have g130 := get_eqS (hD 9 130 (by simp [Region.binds]) (by kernel_rfl)) s130
                refine ob_yes (wanted_none rfl) ?_
                clear hF hD
                go_simp
                exact hK _ _ (Below.refl _ _) (rt_eqS s131)
              refine obsR_cons ?_ ?_
              · intro T wx K hB hF hD hK
                have g8 : T[8]? = some (.pointer (some ⟨zo, 0, none⟩)) := hF 8 (freeM_of (by kernel_rfl))
                refine ob_yes (wanted_none rfl) ?_
                clear hF hD
                go_simp
                exact hK _ _ (Below.refl _ _) (rt_eqS s132)
              refine obsR_cons ?_ ?_
              · intro T wx K hB hF hD hK
                have g132 := get_eqS (hD 11 132 (by simp [Region.binds]) (by kernel_rfl)) s132
                refine ob_yes (wanted_none rfl) ?_
                clear hF hD
                have e1 := cell_call z1 hB
                go_simp
                exact hK _ _ (Below.refl _ _) (rt_eqS s133)
              refine obsR_cons ?_ ?_
              · intro T wx K hB hF hD hK
                have g11 : T[11]? = some (.slice (some ⟨p, q, none⟩) u.length pc) := hF 11 (freeM_of (by kernel_rfl))
                refine ob_yes (wanted_none rfl) ?_
                clear hF hD
                go_simp
                exact hK _ _ (Below.refl _ _) (rt_eqS s134)
              refine obsR_cons ?_ ?_
              · intro T wx K hB hF hD hK
                have g18 : T[18]? = some (.int .i64 (k : Int)) := hF 18 (freeM_of (by kernel_rfl))
                refine ob_yes (wanted_none rfl) ?_
                clear hF hD
                go_simp
                exact hK _ _ (Below.refl _ _) (rt_eqS s135)
              refine obsR_cons ?_ ?_
              · intro T wx K hB hF hD hK
                have g134 := get_eqS (hD 13 134 (by simp [Region.binds]) (by kernel_rfl)) s134
                have g135 := get_eqS (hD 14 135 (by simp [Region.binds]) (by kernel_rfl)) s135
                refine ob_yes (wanted_none rfl) ?_
                clear hF hD
                go_simp
                exact hK _ _ (Below.refl _ _) (rt_eqS s136)
              refine obsR_cons ?_ ?_
              · intro T wx K hB hF hD hK
                have g136 := get_eqS (hD 15 136 (by simp [Region.binds]) (by kernel_rfl)) s136
                refine ob_yes (wanted_none rfl) ?_
                clear hF hD
                go_simp
                exact hK _ _ (Below.refl _ _) (rt_eqS s137)
              refine obsR_cons ?_ ?_
              · intro T wx K hB hF hD hK
                have g137 := get_eqS (hD 16 137 (by simp [Region.binds]) (by kernel_rfl)) s137
                refine ob_yes (wanted_none rfl) ?_
                clear hF hD
                have e1 := cell_call c1 hB
                go_simp
                exact hK _ _ (Below.refl _ _) (rt_eqS s138)
              refine obsR_cons ?_ ?_
              · intro T wx K hB hF hD hK
                have g133 := get_eqS (hD 12 133 (by simp [Region.binds]) (by kernel_rfl)) s133
                have g138 := get_eqS (hD 17 138 (by simp [Region.binds]) (by kernel_rfl)) s138
                refine ob_yes (wanted_none rfl) ?_
                clear hF hD
                go_simp
                exact hK _ _ (Below.refl _ _) (rt_eqS s139)
              refine obsR_cons ?_ ?_
              · intro T wx K hB hF hD hK
                have g8 : T[8]? = some (.pointer (some ⟨zo, 0, none⟩)) := hF 8 (freeM_of (by kernel_rfl))
                refine ob_yes (wanted_none rfl) ?_
                clear hF hD
                go_simp
                exact hK _ _ (Below.refl _ _) (rt_eqS s140)
              refine obsR_cons ?_ ?_
              · intro T wx K hB hF hD hK
                have g140 := get_eqS (hD 19 140 (by simp [Region.binds]) (by kernel_rfl)) s140
                refine ob_yes (wanted_none rfl) ?_
                clear hF hD
                have e1 := cell_call z0 hB
                go_simp
                exact hK _ _ (Below.refl _ _) (rt_eqS s141)
              refine obsR_cons ?_ ?_
              · intro T wx K hB hF hD hK
                have g139 := get_eqS (hD 18 139 (by simp [Region.binds]) (by kernel_rfl)) s139
                have g141 := get_eqS (hD 20 141 (by simp [Region.binds]) (by kernel_rfl)) s141
                refine ob_yes (wanted_none rfl) ?_
                clear hF hD
                go_simp
                exact hK _ _ (Below.refl _ _) (rt_eqS s142)
              refine obsR_cons ?_ ?_
              · intro T wx K hB hF hD hK
                have g131 := get_eqS (hD 10 131 (by simp [Region.binds]) (by kernel_rfl)) s131
                have g142 := get_eqS (hD 21 142 (by simp [Region.binds]) (by kernel_rfl)) s142
                refine ob_yes (wanted_none rfl) ?_
                clear hF hD
                go_simp
                refine (at_is _ _ _).mono ?_; rintro e w9 ⟨rfl, hb⟩
                exact hK _ _ hb (rt_eqS s143)
              refine obsR_cons ?_ ?_
              · intro T wx K hB hF hD hK
                refine ob_yes (wanted_none rfl) ?_
                clear hF hD
                have hsz := hB.size
                go_simp
                exact hK _ _ (belA (Below.refl _ _) _) (rt_S s19 ⟨_, rfl, by omega, blk_new _ _ _ rfl⟩)
              exact obsR_nil
            · intro T w8 hb hF hs hD
              have g121 := get_eqS (hD 0 121 (by decide) (by kernel_rfl)) s121
              have g122 := get_eqS (hD 1 122 (by decide) (by kernel_rfl)) s122
              have g123 := get_eqS (hD 2 123 (by decide) (by kernel_rfl)) s123
              have g124 := get_eqS (hD 3 124 (by decide) (by kernel_rfl)) s124
              have g125 := get_eqS (hD 4 125 (by decide) (by kernel_rfl)) s125
              have g126 := get_eqS (hD 5 126 (by decide) (by kernel_rfl)) s126
              have g127 := get_eqS (hD 6 127 (by decide) (by kernel_rfl)) s127
              have g128 := get_eqS (hD 7 128 (by decide) (by kernel_rfl)) s128
              have g129 := get_eqS (hD 8 129 (by decide) (by kernel_rfl)) s129
              have g130 := get_eqS (hD 9 130 (by decide) (by kernel_rfl)) s130
              have g131 := get_eqS (hD 10 131 (by decide) (by kernel_rfl)) s131
              have g132 := get_eqS (hD 11 132 (by decide) (by kernel_rfl)) s132
              have g133 := get_eqS (hD 12 133 (by decide) (by kernel_rfl)) s133
              have g134 := get_eqS (hD 13 134 (by decide) (by kernel_rfl)) s134
              have g135 := get_eqS (hD 14 135 (by decide) (by kernel_rfl)) s135
              have g136 := get_eqS (hD 15 136 (by decide) (by kernel_rfl)) s136
              have g137 := get_eqS (hD 16 137 (by decide) (by kernel_rfl)) s137
              have g138 := get_eqS (hD 17 138 (by decide) (by kernel_rfl)) s138
              have g139 := get_eqS (hD 18 139 (by decide) (by kernel_rfl)) s139
              have g140 := get_eqS (hD 19 140 (by decide) (by kernel_rfl)) s140
              have g141 := get_eqS (hD 20 141 (by decide) (by kernel_rfl)) s141
              have g142 := get_eqS (hD 21 142 (by decide) (by kernel_rfl)) s142
              have g143 := get_eqS (hD 22 143 (by decide) (by kernel_rfl)) s143
              obtain ⟨v19, g19, p19⟩ := getS (hD 23 19 (by decide) (by kernel_rfl)) s19
              have hT := conc [(121, .pointer (some ⟨zo, 0, none⟩)), (122, .int .i64 x), (123, .slice (some ⟨p, q, none⟩) u.length pc), (124, .int .i64 (k : Int)), (125, .pointer (some ⟨p, q + k * 2, none⟩)), (126, .pointer (some ⟨p, q + k * 2 + 1, none⟩)), (127, .int .i64 a2), (128, .pointer (some ⟨zo, 1, none⟩)), (129, .int .i64 y), (130, .int .i64 (a2 - y)), (131, .int .i64 (x - (a2 - y))), (132, .pointer (some ⟨zo, 1, none⟩)), (133, .int .i64 y), (134, .slice (some ⟨p, q, none⟩) u.length pc), (135, .int .i64 (k : Int)), (136, .pointer (some ⟨p, q + k * 2, none⟩)), (137, .pointer (some ⟨p, q + k * 2, none⟩)), (138, .int .i64 a1), (139, .int .i64 (y + a1)), (140, .pointer (some ⟨zo, 0, none⟩)), (141, .int .i64 x), (142, .int .i64 (y + a1 - x)), (143, .agg #[.int .i64 (x - (a2 - y)), .int .i64 (y + a1 - x)]), (19, v19)] hs hF (by simp only [List.forall_mem_cons]; exact ⟨g121, g122, g123, g124, g125, g126, g127, g128, g129, g130, g131, g132, g133, g134, g135, g136, g137, g138, g139, g140, g141, g142, g143, g19, fun p hp => absurd hp List.not_mem_nil⟩) (by kernel_rfl)
              simp only [List.foldl, List.setIfInBounds_toArray, List.set_cons_succ, List.set_cons_zero] at hT
              subst hT
              clear hF hD hs g121 g122 g123 g124 g125 g126 g127 g128 g129 g130 g131 g132 g133 g134 g135 g136 g137 g138 g139 g140 g141 g142 g143 g19 s19 s121 s122 s123 s124 s125 s126 s127 s128 s129 s130 s131 s132 s133 s134 s135 s136 s137 s138 s139 s140 s141 s142 s143
              show wpOpsIn _ _ _ _ _ [24] _ _
              obtain ⟨zx, rfl, hzx, hbx⟩ := p19
              have HB8 := Lib.hid (HBX.out.trans (hb.mono HBX.out.size))
              have f0 := blk_cell hbx 0 _ rfl
              have f1 := blk_cell hbx 1 _ rfl
              have f2 := blk_fz hbx 0
              have f3 := blk_fz hbx 1
              have hbx2 := Lib.hid (blk_set (j := 1) (blk_set (j := 0) hbx (.int .i64 (x - (a2 - y)))) (.int .i64 (y + a1 - x)))
              have HB9 := Lib.hid (belS (p := ⟨zx, 1, none⟩) (belS (p := ⟨zx, 0, none⟩) HB8.out (show w31.heap.size ≤ zx by have := HBX.out.size; omega) (.int .i64 (x - (a2 - y)))) (show w31.heap.size ≤ zx by have := HBX.out.size; omega) (.int .i64 (y + a1 - x)))
              clear hb hbx c1 c2 z0 z1 hzx
              simp only [wpOpsIn]
              go_simp
              clear f0 f1 f2 f3
              obtain ⟨w9, hw9⟩ : ∃ W, (w8.setCell ⟨zx, 0, none⟩ (.int .i64 (x - (a2 - y)))).setCell ⟨zx, 1, none⟩ (.int .i64 (y + a1 - x)) = W := ⟨_, rfl⟩
              rw [hw9] at hbx2 HB9
              rw [hw9]
              clear hw9 HB8
              have FX := Lib.hid (show w9.heap[zx]? = some (.cells #[.int .i64 (x - (a2 - y)), .int .i64 (y + a1 - x)] 35 (0, 0)) from hbx2.out)
              obtain ⟨X', hX'⟩ : ∃ z, x - (a2 - y) = z := ⟨_, rfl⟩
              obtain ⟨Y', hY'⟩ : ∃ z, y + a1 - x = z := ⟨_, rfl⟩
              rw [hX', hY'] at FX HME
              go_wp2_with fail
              go_loopw [20, 21] (fun s i wy => ∃ j : Nat, j ≤ r.length ∧ i = .int .i64 j ∧ s = .bool (metB r (X', Y') j) ∧ Below w9.heap.size w9 wy) (fun _ i _ => r.length - (intOf i).toNat)
              case atStart => exact ⟨0, Nat.zero_le _, rfl, rfl, Below.refl _ _⟩
              case round =>
                obtain ⟨j, hj, rfl, rfl, hBx⟩ := hrel
                have HBY := Lib.hid hBx
                clear hBx
                by_cases hjr : j < r.length
                · have hji : (j : Int) < r.length := by omega
                  obtain ⟨p2, q2, rfl, c1, c2⟩ := prow_at (prow_below QR.out (HB9.out.trans (HBY.out.mono (by have := HB9.out.size; omega)))) hjr
                  have X2 := blk_call FX.out HBY.out
                  have z0 := blk_cell X2 0 _ rfl
                  have z1 := blk_cell X2 1 _ rfl
                  have zA := blk_lt X2
                  have zb : p2 < _ := World.block_lt_of_cell? _ _ c1
                  have MS := Lib.hid (metB_succ r (X', Y') j)
                  clear X2
                  generalize cx r j = r1 at *
                  generalize cy r j = r2 at *
                  obtain ⟨s, hs⟩ : ∃ s, metB r (X', Y') j = s := ⟨_, rfl⟩
                  rw [hs] at MS ⊢
                  clear hs
                  have G1 := fun n os => cell_grown (n := n) (os := os) zb c1
                  have G2 := fun n os => cell_grown (n := n) (os := os) zb c2
                  have G3 := fun n os => cell_grown (n := n) (os := os) zA z0
                  have G4 := fun n os => cell_grown (n := n) (os := os) zA z1
                  clear c1 c2 z0 z1
                  cases s with
                  | true =>
                    go_upto_region 23 with fail
                    refine wq_region mixedP (by kernel_rfl) ?_
                    repeat (refine wq_step (fun K hK => ?_); go_simp; first | (refine hK _ ?_; clear hK K) | (apply Exists.intro; refine ⟨fun _ => ?_, hK _ ?_⟩; (fail); clear hK K))
                    refine wq_nil ?_
                    intro _ hw'
                    obtain ⟨⟨nq, osq⟩, hw''⟩ := hw'
                    subst hw''
                    have HBZ := Lib.hid (belT HBY.out (below_gr _ nq osq))
                    clear G1 G2 G3 G4
                    go_wp2
                    go_roundw
                    case rel => exact ⟨j + 1, by omega, by go_num, by rw [MS.out]; rfl, HBZ.out⟩
                    case measure => simp [intOf]; omega
                  | false =>
                    by_cases e1 : r1 = X'
                    · subst e1
                      by_cases e2 : r2 = Y'
                      · subst e2
                        go_upto_region 23 with fail
                        refine wq_region mixedP (by kernel_rfl) ?_
                        repeat (refine wq_step (fun K hK => ?_); go_simp; first | (refine hK _ ?_; clear hK K) | (apply Exists.intro; refine ⟨fun _ => ?_, hK _ ?_⟩; (fail); clear hK K))
                        refine wq_nil ?_
                        intro _ hw'
                        obtain ⟨⟨nq, osq⟩, hw''⟩ := hw'
                        subst hw''
                        have HBZ := Lib.hid (belT HBY.out (below_gr _ nq osq))
                        clear G1 G2 G3 G4
                        go_wp2
                        go_roundw
                        case rel => exact ⟨j + 1, by omega, by go_num, by rw [MS.out]; simp, HBZ.out⟩
                        case measure => simp [intOf]; omega
                      · go_upto_region 23 with fail
                        refine wq_region mixedP (by kernel_rfl) ?_
                        repeat (refine wq_step (fun K hK => ?_); go_simp; first | (refine hK _ ?_; clear hK K) | (apply Exists.intro; refine ⟨fun _ => ?_, hK _ ?_⟩; (fail); clear hK K))
                        refine wq_nil ?_
                        intro _ hw'
                        obtain ⟨⟨nq, osq⟩, hw''⟩ := hw'
                        subst hw''
                        have HBZ := Lib.hid (belT HBY.out (below_gr _ nq osq))
                        clear G1 G2 G3 G4
                        go_wp2
                        go_roundw
                        case rel => exact ⟨j + 1, by omega, by go_num, by rw [MS.out]; simp [e2], HBZ.out⟩
                        case measure => simp [intOf]; omega
                    · go_upto_region 23 with fail
                      refine wq_region mixedP (by kernel_rfl) ?_
                      repeat (refine wq_step (fun K hK => ?_); go_simp; first | (refine hK _ ?_; clear hK K) | (apply Exists.intro; refine ⟨fun _ => ?_, hK _ ?_⟩; (fail); clear hK K))
                      refine wq_nil ?_
                      intro _ hw'
                      obtain ⟨⟨nq, osq⟩, hw''⟩ := hw'
                      subst hw''
                      have HBZ := Lib.hid (belT HBY.out (below_gr _ nq osq))
                      clear G1 G2 G3 G4
                      go_wp2
                      go_roundw
                      case rel => exact ⟨j + 1, by omega, by go_num, by rw [MS.out]; simp [e1], HBZ.out⟩
                      case measure => simp [intOf]; omega
                · have hji : ¬ (j : Int) < r.length := by omega
                  obtain rfl : j = r.length := by omega
                  rw [HME.out]
                  have HB10 := Lib.hid (HB9.out.trans (HBY.out.mono (by have := HB9.out.size; omega)))
                  go_wp2
                  go_roundw
                  case rel => exact ⟨k + 1, by omega, by go_num, HB10.out⟩
                  case measure => simp [intOf]; omega
          · have hki : ¬ (k : Int) < u.length := by omega
            have HB9 := Lib.hid (belT B.out HBX.out)
            go_wp2
            go_ret
            exact ⟨rfl, HB9.out⟩
      | false =>
        go_wp2_with fail
        go_loopw [18] (fun i wr => ∃ (k : Nat), k ≤ u.length ∧ i = .int .i64 k ∧ Below w31.heap.size w31 wr) (fun i _ => u.length - (intOf i).toNat)
        case atStart => exact ⟨0, Nat.zero_le _, rfl, Below.refl _ _⟩
        case round =>
          obtain ⟨k, hk, rfl, hBx⟩ := hrel
          have HBX := Lib.hid hBx
          clear hBx
          by_cases hkn : k < u.length
          · have hki : (k : Int) < u.length := by omega
            obtain ⟨p, q, rfl, c1, c2⟩ := prow_at (prow_below QP.out HBX.out) hkn
            have ba := VU.out k hkn
            unfold InV at ba
            have bx := BX.out
            have by' := BY.out
            have HME : Hid (metB r (x - (cy u k - y), y + cx u k - x) r.length = true) := Lib.hid (metB_all (COR.out.2 _ (gp_mem hkn)))
            have X2 := blk_call ZO.out HBX.out
            have z0 := blk_cell X2 0 _ rfl
            have z1 := blk_cell X2 1 _ rfl
            have hz0' := HBX.out.size
            clear X2
            generalize cx u k = a1 at *
            generalize cy u k = a2 at *
            have : IntKind.i64.wrap (a2 - y) = a2 - y := by rw [IntKind.wrap_i64]; omega
            have : IntKind.i64.wrap (x - (a2 - y)) = x - (a2 - y) := by rw [IntKind.wrap_i64]; omega
            have : IntKind.i64.wrap (y + a1) = y + a1 := by rw [IntKind.wrap_i64]; omega
            have : IntKind.i64.wrap (y + a1 - x) = y + a1 - x := by rw [IntKind.wrap_i64]; omega
            clear ba bx by'
            go_upto_region 18 with fail
            obtain ⟨sp, hsp⟩ : ∃ sp : ToldS, sp = [none, none, none, none, none, none, none, none, none, none, none, none, none, none, none, none, none, none, none, some (ptrS wr.heap.size), none, none, none, none, none, none, none, none, none, none, none, none, none, none, none, none, none, none, none, none, none, none, none, none, none, none, none, none, none, none, none, none, none, none, none, none, none, none, none, none, none, none, none, none, none, none, none, none, none, none, none, none, none, none, none, none, none, none, none, none, none, none, none, none, none, none, none, none, none, none, none, none, none, none, none, none, none, none, none, none, none, none, none, none, none, none, none, none, none, none, none, none, none, none, none, none, none, none, none, none, none, some (eqS (.pointer (some ⟨zo, 0, none⟩))), some (eqS (.int .i64 x)), some (eqS (.slice (some ⟨p, q, none⟩) u.length pc)), some (eqS (.int .i64 (k : Int))), some (eqS (.pointer (some ⟨p, q + k * 2, none⟩))), some (eqS (.pointer (some ⟨p, q + k * 2 + 1, none⟩))), some (eqS (.int .i64 a2)), some (eqS (.pointer (some ⟨zo, 1, none⟩))), some (eqS (.int .i64 y)), some (eqS (.int .i64 (a2 - y))), some (eqS (.int .i64 (x - (a2 - y)))), some (eqS (.pointer (some ⟨zo, 1, none⟩))), some (eqS (.int .i64 y)), some (eqS (.slice (some ⟨p, q, none⟩) u.length pc)), some (eqS (.int .i64 (k : Int))), some (eqS (.pointer (some ⟨p, q + k * 2, none⟩))), some (eqS (.pointer (some ⟨p, q + k * 2, none⟩))), some (eqS (.int .i64 a1)), some (eqS (.int .i64 (y + a1))), some (eqS (.pointer (some ⟨zo, 0, none⟩))), some (eqS (.int .i64 x)), some (eqS (.int .i64 (y + a1 - x))), some (eqS (.agg #[.int .i64 (x - (a2 - y)), .int .i64 (y + a1 - x)]))] := ⟨_, rfl⟩
            have s19 : sp.getD 19 none = some (ptrS wr.heap.size) := by rw [hsp]; rfl
            have s121 : sp.getD 121 none = some (eqS (.pointer (some ⟨zo, 0, none⟩))) := by rw [hsp]; rfl
            have s122 : sp.getD 122 none = some (eqS (.int .i64 x)) := by rw [hsp]; rfl
            have s123 : sp.getD 123 none = some (eqS (.slice (some ⟨p, q, none⟩) u.length pc)) := by rw [hsp]; rfl
            have s124 : sp.getD 124 none = some (eqS (.int .i64 (k : Int))) := by rw [hsp]; rfl
            have s125 : sp.getD 125 none = some (eqS (.pointer (some ⟨p, q + k * 2, none⟩))) := by rw [hsp]; rfl
            have s126 : sp.getD 126 none = some (eqS (.pointer (some ⟨p, q + k * 2 + 1, none⟩))) := by rw [hsp]; rfl
            have s127 : sp.getD 127 none = some (eqS (.int .i64 a2)) := by rw [hsp]; rfl
            have s128 : sp.getD 128 none = some (eqS (.pointer (some ⟨zo, 1, none⟩))) := by rw [hsp]; rfl
            have s129 : sp.getD 129 none = some (eqS (.int .i64 y)) := by rw [hsp]; rfl
            have s130 : sp.getD 130 none = some (eqS (.int .i64 (a2 - y))) := by rw [hsp]; rfl
            have s131 : sp.getD 131 none = some (eqS (.int .i64 (x - (a2 - y)))) := by rw [hsp]; rfl
            have s132 : sp.getD 132 none = some (eqS (.pointer (some ⟨zo, 1, none⟩))) := by rw [hsp]; rfl
            have s133 : sp.getD 133 none = some (eqS (.int .i64 y)) := by rw [hsp]; rfl
            have s134 : sp.getD 134 none = some (eqS (.slice (some ⟨p, q, none⟩) u.length pc)) := by rw [hsp]; rfl
            have s135 : sp.getD 135 none = some (eqS (.int .i64 (k : Int))) := by rw [hsp]; rfl
            have s136 : sp.getD 136 none = some (eqS (.pointer (some ⟨p, q + k * 2, none⟩))) := by rw [hsp]; rfl
            have s137 : sp.getD 137 none = some (eqS (.pointer (some ⟨p, q + k * 2, none⟩))) := by rw [hsp]; rfl
            have s138 : sp.getD 138 none = some (eqS (.int .i64 a1)) := by rw [hsp]; rfl
            have s139 : sp.getD 139 none = some (eqS (.int .i64 (y + a1))) := by rw [hsp]; rfl
            have s140 : sp.getD 140 none = some (eqS (.pointer (some ⟨zo, 0, none⟩))) := by rw [hsp]; rfl
            have s141 : sp.getD 141 none = some (eqS (.int .i64 x)) := by rw [hsp]; rfl
            have s142 : sp.getD 142 none = some (eqS (.int .i64 (y + a1 - x))) := by rw [hsp]; rfl
            have s143 : sp.getD 143 none = some (eqS (.agg #[.int .i64 (x - (a2 - y)), .int .i64 (y + a1 - x)])) := by rw [hsp]; rfl
            clear hsp
            refine (wpIn_wide (n := 0)).1 (region_headR (RtS sp) (rtS_keep sp) 24 rfl rfl rfl (by kernel_rfl) (by decide) (by kernel_rfl) (by kernel_rfl) (by kernel_rfl) ?_ ?_)
            · intro Q'; show ObsR _ _ _ _ _ _ _ _ (List.take _ _); simp only [List.take_succ_cons, List.take_zero]
              refine obsR_cons ?_ ?_
              · intro T wx K hB hF hD hK
                have g8 : T[8]? = some (.pointer (some ⟨zo, 0, none⟩)) := hF 8 (freeM_of (by kernel_rfl))
                refine ob_yes (wanted_none rfl) ?_
                clear hF hD
                go_simp
                exact hK _ _ (Below.refl _ _) (rt_eqS s121)
              refine obsR_cons ?_ ?_
              · intro T wx K hB hF hD hK
                have g121 := get_eqS (hD 0 121 (by simp [Region.binds]) (by kernel_rfl)) s121
                refine ob_yes (wanted_none rfl) ?_
                clear hF hD
                have e1 := cell_call z0 hB
                go_simp
                exact hK _ _ (Below.refl _ _) (rt_eqS s122)
              refine obsR_cons ?_ ?_
              · intro T wx K hB hF hD hK
                have g11 : T[11]? = some (.slice (some ⟨p, q, none⟩) u.length pc) := hF 11 (freeM_of (by kernel_rfl))
                refine ob_yes (wanted_none rfl) ?_
                clear hF hD
                go_simp
                exact hK _ _ (Below.refl _ _) (rt_eqS s123)
              refine obsR_cons ?_ ?_
              · intro T wx K hB hF hD hK
                have g18 : T[18]? = some (.int .i64 (k : Int)) := hF 18 (freeM_of (by kernel_rfl))
                refine ob_yes (wanted_none rfl) ?_
                clear hF hD
                go_simp
                exact hK _ _ (Below.refl _ _) (rt_eqS s124)
              refine obsR_cons ?_ ?_
              · intro T wx K hB hF hD hK
                have g123 := get_eqS (hD 2 123 (by simp [Region.binds]) (by kernel_rfl)) s123
                have g124 := get_eqS (hD 3 124 (by simp [Region.binds]) (by kernel_rfl)) s124
                refine ob_yes (wanted_none rfl) ?_
                clear hF hD
                go_simp
                exact hK _ _ (Below.refl _ _) (rt_eqS s125)
              refine obsR_cons ?_ ?_
              · intro T wx K hB hF hD hK
                have g125 := get_eqS (hD 4 125 (by simp [Region.binds]) (by kernel_rfl)) s125
                refine ob_yes (wanted_none rfl) ?_
                clear hF hD
                go_simp
                exact hK _ _ (Below.refl _ _) (rt_eqS s126)
              refine obsR_cons ?_ ?_
              · intro T wx K hB hF hD hK
                have g126 := get_eqS (hD 5 126 (by simp [Region.binds]) (by kernel_rfl)) s126
                refine ob_yes (wanted_none rfl) ?_
                clear hF hD
                have e1 := cell_call c2 hB
                go_simp
                exact hK _ _ (Below.refl _ _) (rt_eqS s127)
              refine obsR_cons ?_ ?_
              · intro T wx K hB hF hD hK
                have g8 : T[8]? = some (.pointer (some ⟨zo, 0, none⟩)) := hF 8 (freeM_of (by kernel_rfl))
                refine ob_yes (wanted_none rfl) ?_
                clear hF hD
                go_simp
                exact hK _ _ (Below.refl _ _) (rt_eqS s128)
              refine obsR_cons ?_ ?_
              · intro T wx K hB hF hD hK
                have g128 := get_eqS (hD 7 128 (by simp [Region.binds]) (by kernel_rfl)) s128
                refine ob_yes (wanted_none rfl) ?_
                clear hF hD
                have e1 := cell_call z1 hB
                go_simp
                exact hK _ _ (Below.refl _ _) (rt_eqS s129)
              refine obsR_cons ?_ ?_
              · intro T wx K hB hF hD hK
                have g127 := get_eqS (hD 6 127 (by simp [Region.binds]) (by kernel_rfl)) s127
                have g129 := get_eqS (hD 8 129 (by simp [Region.binds]) (by kernel_rfl)) s129
                refine ob_yes (wanted_none rfl) ?_
                clear hF hD
                go_simp
                exact hK _ _ (Below.refl _ _) (rt_eqS s130)
              refine obsR_cons ?_ ?_
              · intro T wx K hB hF hD hK
                have g122 := get_eqS (hD 1 122 (by simp [Region.binds]) (by kernel_rfl)) s122
                have g130 := get_eqS (hD 9 130 (by simp [Region.binds]) (by kernel_rfl)) s130
                refine ob_yes (wanted_none rfl) ?_
                clear hF hD
                go_simp
                exact hK _ _ (Below.refl _ _) (rt_eqS s131)
              refine obsR_cons ?_ ?_
              · intro T wx K hB hF hD hK
                have g8 : T[8]? = some (.pointer (some ⟨zo, 0, none⟩)) := hF 8 (freeM_of (by kernel_rfl))
                refine ob_yes (wanted_none rfl) ?_
                clear hF hD
                go_simp
                exact hK _ _ (Below.refl _ _) (rt_eqS s132)
              refine obsR_cons ?_ ?_
              · intro T wx K hB hF hD hK
                have g132 := get_eqS (hD 11 132 (by simp [Region.binds]) (by kernel_rfl)) s132
                refine ob_yes (wanted_none rfl) ?_
                clear hF hD
                have e1 := cell_call z1 hB
                go_simp
                exact hK _ _ (Below.refl _ _) (rt_eqS s133)
              refine obsR_cons ?_ ?_
              · intro T wx K hB hF hD hK
                have g11 : T[11]? = some (.slice (some ⟨p, q, none⟩) u.length pc) := hF 11 (freeM_of (by kernel_rfl))
                refine ob_yes (wanted_none rfl) ?_
                clear hF hD
                go_simp
                exact hK _ _ (Below.refl _ _) (rt_eqS s134)
              refine obsR_cons ?_ ?_
              · intro T wx K hB hF hD hK
                have g18 : T[18]? = some (.int .i64 (k : Int)) := hF 18 (freeM_of (by kernel_rfl))
                refine ob_yes (wanted_none rfl) ?_
                clear hF hD
                go_simp
                exact hK _ _ (Below.refl _ _) (rt_eqS s135)
              refine obsR_cons ?_ ?_
              · intro T wx K hB hF hD hK
                have g134 := get_eqS (hD 13 134 (by simp [Region.binds]) (by kernel_rfl)) s134
                have g135 := get_eqS (hD 14 135 (by simp [Region.binds]) (by kernel_rfl)) s135
                refine ob_yes (wanted_none rfl) ?_
                clear hF hD
                go_simp
                exact hK _ _ (Below.refl _ _) (rt_eqS s136)
              refine obsR_cons ?_ ?_
              · intro T wx K hB hF hD hK
                have g136 := get_eqS (hD 15 136 (by simp [Region.binds]) (by kernel_rfl)) s136
                refine ob_yes (wanted_none rfl) ?_
                clear hF hD
                go_simp
                exact hK _ _ (Below.refl _ _) (rt_eqS s137)
              refine obsR_cons ?_ ?_
              · intro T wx K hB hF hD hK
                have g137 := get_eqS (hD 16 137 (by simp [Region.binds]) (by kernel_rfl)) s137
                refine ob_yes (wanted_none rfl) ?_
                clear hF hD
                have e1 := cell_call c1 hB
                go_simp
                exact hK _ _ (Below.refl _ _) (rt_eqS s138)
              refine obsR_cons ?_ ?_
              · intro T wx K hB hF hD hK
                have g133 := get_eqS (hD 12 133 (by simp [Region.binds]) (by kernel_rfl)) s133
                have g138 := get_eqS (hD 17 138 (by simp [Region.binds]) (by kernel_rfl)) s138
                refine ob_yes (wanted_none rfl) ?_
                clear hF hD
                go_simp
                exact hK _ _ (Below.refl _ _) (rt_eqS s139)
              refine obsR_cons ?_ ?_
              · intro T wx K hB hF hD hK
                have g8 : T[8]? = some (.pointer (some ⟨zo, 0, none⟩)) := hF 8 (freeM_of (by kernel_rfl))
                refine ob_yes (wanted_none rfl) ?_
                clear hF hD
                go_simp
                exact hK _ _ (Below.refl _ _) (rt_eqS s140)
              refine obsR_cons ?_ ?_
              · intro T wx K hB hF hD hK
                have g140 := get_eqS (hD 19 140 (by simp [Region.binds]) (by kernel_rfl)) s140
                refine ob_yes (wanted_none rfl) ?_
                clear hF hD
                have e1 := cell_call z0 hB
                go_simp
                exact hK _ _ (Below.refl _ _) (rt_eqS s141)
              refine obsR_cons ?_ ?_
              · intro T wx K hB hF hD hK
                have g139 := get_eqS (hD 18 139 (by simp [Region.binds]) (by kernel_rfl)) s139
                have g141 := get_eqS (hD 20 141 (by simp [Region.binds]) (by kernel_rfl)) s141
                refine ob_yes (wanted_none rfl) ?_
                clear hF hD
                go_simp
                exact hK _ _ (Below.refl _ _) (rt_eqS s142)
              refine obsR_cons ?_ ?_
              · intro T wx K hB hF hD hK
                have g131 := get_eqS (hD 10 131 (by simp [Region.binds]) (by kernel_rfl)) s131
                have g142 := get_eqS (hD 21 142 (by simp [Region.binds]) (by kernel_rfl)) s142
                refine ob_yes (wanted_none rfl) ?_
                clear hF hD
                go_simp
                refine (at_is _ _ _).mono ?_; rintro e w9 ⟨rfl, hb⟩
                exact hK _ _ hb (rt_eqS s143)
              refine obsR_cons ?_ ?_
              · intro T wx K hB hF hD hK
                refine ob_yes (wanted_none rfl) ?_
                clear hF hD
                have hsz := hB.size
                go_simp
                exact hK _ _ (belA (Below.refl _ _) _) (rt_S s19 ⟨_, rfl, by omega, blk_new _ _ _ rfl⟩)
              exact obsR_nil
            · intro T w8 hb hF hs hD
              have g121 := get_eqS (hD 0 121 (by decide) (by kernel_rfl)) s121
              have g122 := get_eqS (hD 1 122 (by decide) (by kernel_rfl)) s122
              have g123 := get_eqS (hD 2 123 (by decide) (by kernel_rfl)) s123
              have g124 := get_eqS (hD 3 124 (by decide) (by kernel_rfl)) s124
              have g125 := get_eqS (hD 4 125 (by decide) (by kernel_rfl)) s125
              have g126 := get_eqS (hD 5 126 (by decide) (by kernel_rfl)) s126
              have g127 := get_eqS (hD 6 127 (by decide) (by kernel_rfl)) s127
              have g128 := get_eqS (hD 7 128 (by decide) (by kernel_rfl)) s128
              have g129 := get_eqS (hD 8 129 (by decide) (by kernel_rfl)) s129
              have g130 := get_eqS (hD 9 130 (by decide) (by kernel_rfl)) s130
              have g131 := get_eqS (hD 10 131 (by decide) (by kernel_rfl)) s131
              have g132 := get_eqS (hD 11 132 (by decide) (by kernel_rfl)) s132
              have g133 := get_eqS (hD 12 133 (by decide) (by kernel_rfl)) s133
              have g134 := get_eqS (hD 13 134 (by decide) (by kernel_rfl)) s134
              have g135 := get_eqS (hD 14 135 (by decide) (by kernel_rfl)) s135
              have g136 := get_eqS (hD 15 136 (by decide) (by kernel_rfl)) s136
              have g137 := get_eqS (hD 16 137 (by decide) (by kernel_rfl)) s137
              have g138 := get_eqS (hD 17 138 (by decide) (by kernel_rfl)) s138
              have g139 := get_eqS (hD 18 139 (by decide) (by kernel_rfl)) s139
              have g140 := get_eqS (hD 19 140 (by decide) (by kernel_rfl)) s140
              have g141 := get_eqS (hD 20 141 (by decide) (by kernel_rfl)) s141
              have g142 := get_eqS (hD 21 142 (by decide) (by kernel_rfl)) s142
              have g143 := get_eqS (hD 22 143 (by decide) (by kernel_rfl)) s143
              obtain ⟨v19, g19, p19⟩ := getS (hD 23 19 (by decide) (by kernel_rfl)) s19
              have hT := conc [(121, .pointer (some ⟨zo, 0, none⟩)), (122, .int .i64 x), (123, .slice (some ⟨p, q, none⟩) u.length pc), (124, .int .i64 (k : Int)), (125, .pointer (some ⟨p, q + k * 2, none⟩)), (126, .pointer (some ⟨p, q + k * 2 + 1, none⟩)), (127, .int .i64 a2), (128, .pointer (some ⟨zo, 1, none⟩)), (129, .int .i64 y), (130, .int .i64 (a2 - y)), (131, .int .i64 (x - (a2 - y))), (132, .pointer (some ⟨zo, 1, none⟩)), (133, .int .i64 y), (134, .slice (some ⟨p, q, none⟩) u.length pc), (135, .int .i64 (k : Int)), (136, .pointer (some ⟨p, q + k * 2, none⟩)), (137, .pointer (some ⟨p, q + k * 2, none⟩)), (138, .int .i64 a1), (139, .int .i64 (y + a1)), (140, .pointer (some ⟨zo, 0, none⟩)), (141, .int .i64 x), (142, .int .i64 (y + a1 - x)), (143, .agg #[.int .i64 (x - (a2 - y)), .int .i64 (y + a1 - x)]), (19, v19)] hs hF (by simp only [List.forall_mem_cons]; exact ⟨g121, g122, g123, g124, g125, g126, g127, g128, g129, g130, g131, g132, g133, g134, g135, g136, g137, g138, g139, g140, g141, g142, g143, g19, fun p hp => absurd hp List.not_mem_nil⟩) (by kernel_rfl)
              simp only [List.foldl, List.setIfInBounds_toArray, List.set_cons_succ, List.set_cons_zero] at hT
              subst hT
              clear hF hD hs g121 g122 g123 g124 g125 g126 g127 g128 g129 g130 g131 g132 g133 g134 g135 g136 g137 g138 g139 g140 g141 g142 g143 g19 s19 s121 s122 s123 s124 s125 s126 s127 s128 s129 s130 s131 s132 s133 s134 s135 s136 s137 s138 s139 s140 s141 s142 s143
              show wpOpsIn _ _ _ _ _ [24] _ _
              obtain ⟨zx, rfl, hzx, hbx⟩ := p19
              have HB8 := Lib.hid (HBX.out.trans (hb.mono HBX.out.size))
              have f0 := blk_cell hbx 0 _ rfl
              have f1 := blk_cell hbx 1 _ rfl
              have f2 := blk_fz hbx 0
              have f3 := blk_fz hbx 1
              have hbx2 := Lib.hid (blk_set (j := 1) (blk_set (j := 0) hbx (.int .i64 (x - (a2 - y)))) (.int .i64 (y + a1 - x)))
              have HB9 := Lib.hid (belS (p := ⟨zx, 1, none⟩) (belS (p := ⟨zx, 0, none⟩) HB8.out (show w31.heap.size ≤ zx by have := HBX.out.size; omega) (.int .i64 (x - (a2 - y)))) (show w31.heap.size ≤ zx by have := HBX.out.size; omega) (.int .i64 (y + a1 - x)))
              clear hb hbx c1 c2 z0 z1 hzx
              simp only [wpOpsIn]
              go_simp
              clear f0 f1 f2 f3
              obtain ⟨w9, hw9⟩ : ∃ W, (w8.setCell ⟨zx, 0, none⟩ (.int .i64 (x - (a2 - y)))).setCell ⟨zx, 1, none⟩ (.int .i64 (y + a1 - x)) = W := ⟨_, rfl⟩
              rw [hw9] at hbx2 HB9
              rw [hw9]
              clear hw9 HB8
              have FX := Lib.hid (show w9.heap[zx]? = some (.cells #[.int .i64 (x - (a2 - y)), .int .i64 (y + a1 - x)] 35 (0, 0)) from hbx2.out)
              obtain ⟨X', hX'⟩ : ∃ z, x - (a2 - y) = z := ⟨_, rfl⟩
              obtain ⟨Y', hY'⟩ : ∃ z, y + a1 - x = z := ⟨_, rfl⟩
              rw [hX', hY'] at FX HME
              go_wp2_with fail
              go_loopw [20, 21] (fun s i wy => ∃ j : Nat, j ≤ r.length ∧ i = .int .i64 j ∧ s = .bool (metB r (X', Y') j) ∧ Below w9.heap.size w9 wy) (fun _ i _ => r.length - (intOf i).toNat)
              case atStart => exact ⟨0, Nat.zero_le _, rfl, rfl, Below.refl _ _⟩
              case round =>
                obtain ⟨j, hj, rfl, rfl, hBx⟩ := hrel
                have HBY := Lib.hid hBx
                clear hBx
                by_cases hjr : j < r.length
                · have hji : (j : Int) < r.length := by omega
                  obtain ⟨p2, q2, rfl, c1, c2⟩ := prow_at (prow_below QR.out (HB9.out.trans (HBY.out.mono (by have := HB9.out.size; omega)))) hjr
                  have X2 := blk_call FX.out HBY.out
                  have z0 := blk_cell X2 0 _ rfl
                  have z1 := blk_cell X2 1 _ rfl
                  have zA := blk_lt X2
                  have zb : p2 < _ := World.block_lt_of_cell? _ _ c1
                  have MS := Lib.hid (metB_succ r (X', Y') j)
                  clear X2
                  generalize cx r j = r1 at *
                  generalize cy r j = r2 at *
                  obtain ⟨s, hs⟩ : ∃ s, metB r (X', Y') j = s := ⟨_, rfl⟩
                  rw [hs] at MS ⊢
                  clear hs
                  have G1 := fun n os => cell_grown (n := n) (os := os) zb c1
                  have G2 := fun n os => cell_grown (n := n) (os := os) zb c2
                  have G3 := fun n os => cell_grown (n := n) (os := os) zA z0
                  have G4 := fun n os => cell_grown (n := n) (os := os) zA z1
                  clear c1 c2 z0 z1
                  cases s with
                  | true =>
                    go_upto_region 23 with fail
                    refine wq_region mixedP (by kernel_rfl) ?_
                    repeat (refine wq_step (fun K hK => ?_); go_simp; first | (refine hK _ ?_; clear hK K) | (apply Exists.intro; refine ⟨fun _ => ?_, hK _ ?_⟩; (fail); clear hK K))
                    refine wq_nil ?_
                    intro _ hw'
                    obtain ⟨⟨nq, osq⟩, hw''⟩ := hw'
                    subst hw''
                    have HBZ := Lib.hid (belT HBY.out (below_gr _ nq osq))
                    clear G1 G2 G3 G4
                    go_wp2
                    go_roundw
                    case rel => exact ⟨j + 1, by omega, by go_num, by rw [MS.out]; rfl, HBZ.out⟩
                    case measure => simp [intOf]; omega
                  | false =>
                    by_cases e1 : r1 = X'
                    · subst e1
                      by_cases e2 : r2 = Y'
                      · subst e2
                        go_upto_region 23 with fail
                        refine wq_region mixedP (by kernel_rfl) ?_
                        repeat (refine wq_step (fun K hK => ?_); go_simp; first | (refine hK _ ?_; clear hK K) | (apply Exists.intro; refine ⟨fun _ => ?_, hK _ ?_⟩; (fail); clear hK K))
                        refine wq_nil ?_
                        intro _ hw'
                        obtain ⟨⟨nq, osq⟩, hw''⟩ := hw'
                        subst hw''
                        have HBZ := Lib.hid (belT HBY.out (below_gr _ nq osq))
                        clear G1 G2 G3 G4
                        go_wp2
                        go_roundw
                        case rel => exact ⟨j + 1, by omega, by go_num, by rw [MS.out]; simp, HBZ.out⟩
                        case measure => simp [intOf]; omega
                      · go_upto_region 23 with fail
                        refine wq_region mixedP (by kernel_rfl) ?_
                        repeat (refine wq_step (fun K hK => ?_); go_simp; first | (refine hK _ ?_; clear hK K) | (apply Exists.intro; refine ⟨fun _ => ?_, hK _ ?_⟩; (fail); clear hK K))
                        refine wq_nil ?_
                        intro _ hw'
                        obtain ⟨⟨nq, osq⟩, hw''⟩ := hw'
                        subst hw''
                        have HBZ := Lib.hid (belT HBY.out (below_gr _ nq osq))
                        clear G1 G2 G3 G4
                        go_wp2
                        go_roundw
                        case rel => exact ⟨j + 1, by omega, by go_num, by rw [MS.out]; simp [e2], HBZ.out⟩
                        case measure => simp [intOf]; omega
                    · go_upto_region 23 with fail
                      refine wq_region mixedP (by kernel_rfl) ?_
                      repeat (refine wq_step (fun K hK => ?_); go_simp; first | (refine hK _ ?_; clear hK K) | (apply Exists.intro; refine ⟨fun _ => ?_, hK _ ?_⟩; (fail); clear hK K))
                      refine wq_nil ?_
                      intro _ hw'
                      obtain ⟨⟨nq, osq⟩, hw''⟩ := hw'
                      subst hw''
                      have HBZ := Lib.hid (belT HBY.out (below_gr _ nq osq))
                      clear G1 G2 G3 G4
                      go_wp2
                      go_roundw
                      case rel => exact ⟨j + 1, by omega, by go_num, by rw [MS.out]; simp [e1], HBZ.out⟩
                      case measure => simp [intOf]; omega
                · have hji : ¬ (j : Int) < r.length := by omega
                  obtain rfl : j = r.length := by omega
                  rw [HME.out]
                  have HB10 := Lib.hid (HB9.out.trans (HBY.out.mono (by have := HB9.out.size; omega)))
                  go_wp2
                  go_roundw
                  case rel => exact ⟨k + 1, by omega, by go_num, HB10.out⟩
                  case measure => simp [intOf]; omega
          · have hki : ¬ (k : Int) < u.length := by omega
            have HB9 := Lib.hid (belT B.out HBX.out)
            go_wp2
            go_ret
            exact ⟨rfl, HB9.out⟩

set_option maxRecDepth 100000 in
theorem lifted (os : Os) (started : os.Started) (H : Type) (enc : TypeId × Value → H) :
    ReturnsInHanded {} Try.checked os 9 .any (Rows.sweepQuarterSpec.pre6 enc Try.prog Try.f9 Rows.sweepQuarterRow.domain false) (Rows.sweepQuarterSpec.post enc Try.prog Try.f9 false true false false) := by
  refine returnsInHanded_of_change (C := Try.checked) HFr.own started (by kernel_rfl) Try.func9
    (ChangeSpec.witness6 (enc := enc) (C := Try.checked) false ⟨#[], #[.agg #[.int .i64 0, .int .i64 0], .slice none 0 0, .slice none 0 0], []⟩ 8 (by kernel_rfl) (by kernel_rfl) (by kernel_rfl) (by kernel_rfl)) ?_
  intro W base args ds gs before hval0 hW hcnd _
  have hval : ∀ (j : Nat) t v, Try.f9.params[j]? = some t → args[j]? = some v → Value.okWide Try.prog W .any base t v := hval0
  have hW' := hW
  obtain ⟨p, q, hA0, hV, rfl, hfz, hnd⟩ := hW
  have hA : DataW.TrodAll enc Try.prog W 0 (fun _ => true) true Try.f9.params.toList args.toList ds p := hA0
  rw [Try.params9] at hA hval
  obtain ⟨v0, vs0, d0, ds0, p0, q0, hargs, rfl, rfl, h0, r0⟩ := trodAll_cons hA
  obtain ⟨v1, vs1, d1, ds1, p1, q1, rfl, rfl, rfl, h1, r1⟩ := trodAll_cons r0
  obtain ⟨v2, vs2, d2, ds2, p2, q2, rfl, rfl, rfl, h2, r2⟩ := trodAll_cons r1
  obtain ⟨rfl, rfl, rfl⟩ := trodAll_nil r2
  obtain rfl : args = #[v0, v1, v2] := by cases args; simp_all
  obtain ⟨rfl, rfl⟩ := trodVars_none hV
  have k0 := h0
  have lt0 : ∀ x ∈ p0, x.block < W.heap.size := by obtain ⟨m, hm⟩ := k0; exact DataW.trod_lt m _ _ _ hm
  obtain ⟨x0, y0, rfl⟩ := HFr.open_pt (hval 0 35 v0 rfl rfl) h0
  have k1 := h1
  have lt1 : ∀ x ∈ p1, x.block < W.heap.size := by obtain ⟨m, hm⟩ := k1; exact DataW.trod_lt m _ _ _ hm
  obtain ⟨a1, cap1, l1, rfl, n1, w1⟩ := HFr.open_pts (hval 1 22 v1 rfl rfl) h1
  have k2 := h2
  have lt2 : ∀ x ∈ p2, x.block < W.heap.size := by obtain ⟨m, hm⟩ := k2; exact DataW.trod_lt m _ _ _ hm
  obtain ⟨a2, cap2, l2, rfl, n2, w2⟩ := HFr.open_pts (hval 2 22 v2 rfl rfl) h2
  clear hA0 hval0
  refine (walk x0 y0 a1 cap1 l1 n1 w1 a2 cap2 l2 n2 w2 W rfl).mono fun e W' ⟨he, bel⟩ => ?_
  subst he
  exact ⟨_, rfl, _, _, _, [], _, [], hW', trodAll_mk1 (shut_bool Try.underlying4 _), (trodAll_cons_mk (Below.trod HFr.laidOut (by kernel_rfl) (of_decide_eq_true (by kernel_rfl)) k0 bel lt0) (trodAll_cons_mk (Below.trod HFr.laidOut (by kernel_rfl) (of_decide_eq_true (by kernel_rfl)) k1 bel lt1) (trodAll_cons_mk (Below.trod HFr.laidOut (by kernel_rfl) (of_decide_eq_true (by kernel_rfl)) k2 bel lt2) trodAll_mk0))), rfl, bel.frame _, fun h => by cases h⟩

/-- THE STATEMENT. -/
theorem holds : Rows.SweepQuarterSaid :=
  OpenClaim.holds_of_wide 9 Try.f9 rfl rfl rfl rfl rfl rfl rfl ⟨rfl, rfl, rfl, rfl, rfl⟩ rfl rfl rfl rfl rfl (by kernel_rfl) Try.func9 (by kernel_rfl)
    (of_decide_eq_true (by kernel_rfl)) (by unfold Func.isWrapper; first | (rw [if_pos (by decide +kernel)]; kernel_rfl) | (rw [if_neg (by decide +kernel)]; exact ⟨rfl, rfl⟩))
    (fun os started H enc _ => lifted os started H enc)
#print axioms holds
end Go.Proofs.Ytnpadblfpaiofaa.sweepQuarter
