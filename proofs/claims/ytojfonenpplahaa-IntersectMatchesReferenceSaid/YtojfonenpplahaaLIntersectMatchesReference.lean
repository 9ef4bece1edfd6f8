/- Proved: FindContact, Polygons, IsSeparating, IsContact and, for convex polygons, SeparatingEdge answer as the reference does (the law IntersectMatchesReference returns true).
Conditions: none on the arguments. -/
import Derived.Test.YtojfonenpplahaaIxK
import Derived.Test.YtojfonenpplahaaIxP
import Derived.Test.YtojfonenpplahaaIxS
import Derived.Test.YtojfonenpplahaaIxH
import Derived.Test.YtojfonenpplahaaHlFr
namespace Go.Proofs.Ytojfonenpplahaa.intersectMatchesReference
open Go.ChangeShapes Go.WideShapes Go.ChangeAt Go.RowKit
set_option linter.unusedVariables false
set_option linter.unusedSimpArgs false

set_option maxRecDepth 100000 in
set_option maxHeartbeats 32000000 in
theorem walk {w : World} (ao : Option Addr) (ca : Nat) (a : List (Int × Int)) (na : a.length ≤ 9223372036854775807) (hA : PRow w ao a) (bo : Option Addr) (cb : Nat) (b : List (Int × Int)) (nb : b.length ≤ 9223372036854775807) (hB : PRow w bo b) (o e : Int) (q i j : Int) (W' : World) (hw : w = W') :
    Calls Try.prog 4 #[.slice ao a.length ca, .slice bo b.length cb, .agg #[.int .i64 o, .int .i64 e], .agg #[.int .i64 q, .int .i64 i, .int .i64 j]] w fun e w' => e = .returned (.bool true) ∧ Below w.heap.size w w' := by
  have PA := Lib.hid hA
  have PB := Lib.hid hB
  clear hA hB hw
  go_enter Try.func4, Try.ntmps4
  go_wp2_with fail
  refine (head5_is _).mono ?_
  rintro e w1 ⟨rfl, hb1⟩
  replace PA := Lib.hid (prow_below (prow_alloc (prow_alloc PA.out (.cells #[.int .i64 o, .int .i64 e] 35)) (.cells #[.int .i64 q, .int .i64 i, .int .i64 j] 37)) hb1)
  replace PB := Lib.hid (prow_below (prow_alloc (prow_alloc PB.out (.cells #[.int .i64 o, .int .i64 e] 35)) (.cells #[.int .i64 q, .int .i64 i, .int .i64 j] 37)) hb1)
  have ZS := Lib.hid (blk_call (blk_alloc (blk_new w (.cells #[.int .i64 o, .int .i64 e] 35) (w.heap.size) rfl) (.cells #[.int .i64 q, .int .i64 i, .int .i64 j] 37)) hb1)
  have ZC := Lib.hid (blk_call (blk_new (w.alloc (.cells #[.int .i64 o, .int .i64 e] 35)) (.cells #[.int .i64 q, .int .i64 i, .int .i64 j] 37) (w.heap.size + 1) (by simp)) hb1)
  have B := Lib.hid (belT (belA (belA (Below.refl _ w) (.cells #[.int .i64 o, .int .i64 e] 35)) (.cells #[.int .i64 q, .int .i64 i, .int .i64 j] 37)) hb1)
  clear hb1
  obtain ⟨ta, ht⟩ : ∃ t, validP a = t := ⟨_, rfl⟩
  have HA := Lib.hid ht
  clear ht
  go_wp2_with fail
  refine (small_is ao _ ca a ta _ rfl HA na PA.out).mono ?_
  rintro e w2 ⟨rfl, hb2⟩
  replace PA := Lib.hid (prow_below PA.out hb2)
  replace PB := Lib.hid (prow_below PB.out hb2)
  replace ZS := Lib.hid (blk_call ZS.out hb2)
  replace ZC := Lib.hid (blk_call ZC.out hb2)
  replace B := Lib.hid (belT B.out hb2)
  clear hb2
  cases ta with
  | false =>
    go_wp2_with fail
    go_ret
    exact ⟨rfl, B.out⟩
  | true =>
  obtain ⟨tb, ht⟩ : ∃ t, validP b = t := ⟨_, rfl⟩
  have HB := Lib.hid ht
  clear ht
  go_wp2_with fail
  refine (small_is bo _ cb b tb _ rfl HB nb PB.out).mono ?_
  rintro e w3 ⟨rfl, hb3⟩
  replace PA := Lib.hid (prow_below PA.out hb3)
  replace PB := Lib.hid (prow_below PB.out hb3)
  replace ZS := Lib.hid (blk_call ZS.out hb3)
  replace ZC := Lib.hid (blk_call ZC.out hb3)
  replace B := Lib.hid (belT B.out hb3)
  clear hb3
  cases tb with
  | false =>
    go_wp2_with fail
    go_ret
    exact ⟨rfl, B.out⟩
  | true =>
  obtain ⟨a3, a12, aV⟩ := vparts HA.out
  have VA := Lib.hid aV
  have RA := Lib.hid aV.r2
  clear aV
  obtain ⟨b3, b12, bV⟩ := vparts HB.out
  have VB := Lib.hid bV
  have RB := Lib.hid bV.r2
  clear bV
  obtain ⟨k1, i1, j1, t, ht⟩ : ∃ k i j t, conT a b = (k, i, j, t) := ⟨_, _, _, _, rfl⟩
  have HCT := Lib.hid ht
  have HP : Hid (touchB a b = t) := Lib.hid (by rw [← conT_touch, ht])
  clear ht
  obtain ⟨s, hs⟩ : ∃ s, isConB a b q i j = s := ⟨_, rfl⟩
  have HC := Lib.hid hs
  clear hs
  obtain ⟨v, hv⟩ : ∃ v, isSepB a b o e = v := ⟨_, rfl⟩
  have HV := Lib.hid hv
  clear hv
  go_wp2_with fail
  refine (contact_is ao bo _ _ ca cb a b k1 i1 j1 t _ rfl rfl HCT (by omega) (by omega) a12 b12 PA.out PB.out RA.out RB.out).mono ?_
  rintro e w4 ⟨rfl, hb4⟩
  replace PA := Lib.hid (prow_below PA.out hb4)
  replace PB := Lib.hid (prow_below PB.out hb4)
  replace ZS := Lib.hid (blk_call ZS.out hb4)
  replace ZC := Lib.hid (blk_call ZC.out hb4)
  replace B := Lib.hid (belT B.out hb4)
  clear hb4
  go_wp2_with fail
  refine (touch_is ao bo _ _ ca cb a b k1 i1 j1 t _ rfl rfl HCT (by omega) (by omega) a12 b12 (prow_alloc PA.out (.cells #[.int .i64 k1, .int .i64 i1, .int .i64 j1] 37)) (prow_alloc PB.out (.cells #[.int .i64 k1, .int .i64 i1, .int .i64 j1] 37)) VA.out VB.out).mono ?_
  rintro e w5 ⟨rfl, hb5⟩
  replace PA := Lib.hid (prow_below (prow_alloc PA.out (.cells #[.int .i64 k1, .int .i64 i1, .int .i64 j1] 37)) hb5)
  replace PB := Lib.hid (prow_below (prow_alloc PB.out (.cells #[.int .i64 k1, .int .i64 i1, .int .i64 j1] 37)) hb5)
  replace ZS := Lib.hid (blk_call (blk_alloc ZS.out (.cells #[.int .i64 k1, .int .i64 i1, .int .i64 j1] 37)) hb5)
  replace ZC := Lib.hid (blk_call (blk_alloc ZC.out (.cells #[.int .i64 k1, .int .i64 i1, .int .i64 j1] 37)) hb5)
  have ZK := Lib.hid (blk_call (blk_new w4 (.cells #[.int .i64 k1, .int .i64 i1, .int .i64 j1] 37) (w4.heap.size) rfl) hb5)
  replace B := Lib.hid (belT (belA B.out (.cells #[.int .i64 k1, .int .i64 i1, .int .i64 j1] 37)) hb5)
  clear hb5
  have c0 := blk_cell ZK.out 0 _ rfl
  have c1 := blk_cell ZK.out 1 _ rfl
  have c2 := blk_cell ZK.out 2 _ rfl
  have cz := blk_lt ZK.out
  go_upto_region 6 with fail
  clear c0 c1 c2 cz
  have hbw : Below w.heap.size w (w5.alloc (.cells #[.int .i64 k1, .int .i64 i1, .int .i64 j1] 37)) := belA B.out _
  have hls := blk_alloc ZS.out (.cells #[.int .i64 k1, .int .i64 i1, .int .i64 j1] 37)
  have hlc := blk_alloc ZC.out (.cells #[.int .i64 k1, .int .i64 i1, .int .i64 j1] 37)
  have hlk := blk_alloc ZK.out (.cells #[.int .i64 k1, .int .i64 i1, .int .i64 j1] 37)
  have hlm := blk_new w5 (.cells #[.int .i64 k1, .int .i64 i1, .int .i64 j1] 37) _ rfl
  have hpa := prow_alloc PA.out (.cells #[.int .i64 k1, .int .i64 i1, .int .i64 j1] 37)
  have hpb := prow_alloc PB.out (.cells #[.int .i64 k1, .int .i64 i1, .int .i64 j1] 37)
  generalize (w5.alloc (.cells #[.int .i64 k1, .int .i64 i1, .int .i64 j1] 37)) = wr at *
  have G0 := fun p => cell_blw (w := wr) (a := ⟨w.heap.size, 0, none⟩) (blk_lt hls) (blk_cell hls 0 _ rfl) p
  have G1 := fun p => cell_blw (w := wr) (a := ⟨w.heap.size, 1, none⟩) (blk_lt hls) (blk_cell hls 1 _ rfl) p
  have L0 := fun p => cell_blw (w := wr) (a := ⟨w.heap.size + 1, 0, none⟩) (blk_lt hlc) (blk_cell hlc 0 _ rfl) p
  have L1 := fun p => cell_blw (w := wr) (a := ⟨w.heap.size + 1, 1, none⟩) (blk_lt hlc) (blk_cell hlc 1 _ rfl) p
  have L2 := fun p => cell_blw (w := wr) (a := ⟨w.heap.size + 1, 2, none⟩) (blk_lt hlc) (blk_cell hlc 2 _ rfl) p
  have K0 := fun p => cell_blw (w := wr) (a := ⟨w4.heap.size, 0, none⟩) (blk_lt hlk) (blk_cell hlk 0 _ rfl) p
  have K1 := fun p => cell_blw (w := wr) (a := ⟨w4.heap.size, 1, none⟩) (blk_lt hlk) (blk_cell hlk 1 _ rfl) p
  have K2 := fun p => cell_blw (w := wr) (a := ⟨w4.heap.size, 2, none⟩) (blk_lt hlk) (blk_cell hlk 2 _ rfl) p
  have M0 := fun p => cell_blw (w := wr) (a := ⟨w5.heap.size, 0, none⟩) (blk_lt hlm) (blk_cell hlm 0 _ rfl) p
  have M1 := fun p => cell_blw (w := wr) (a := ⟨w5.heap.size, 1, none⟩) (blk_lt hlm) (blk_cell hlm 1 _ rfl) p
  have M2 := fun p => cell_blw (w := wr) (a := ⟨w5.heap.size, 2, none⟩) (blk_lt hlm) (blk_cell hlm 2 _ rfl) p
  have HBW := Lib.hid hbw
  have HPA := Lib.hid hpa
  have HPB := Lib.hid hpb
  have P1 := Lib.hid (fun p : BlwBy wr => polygons_is ao bo _ _ ca cb a b t p.x rfl rfl HP (by omega) (by omega) a12 b12 (prow_below HPA.out p.hb) (prow_below HPB.out p.hb) RA.out RB.out)
  have C1 := Lib.hid (fun p : BlwBy wr => issep_is ao bo _ _ ca cb a b o e v p.x rfl rfl HV a12 b12 (prow_below HPA.out p.hb) (prow_below HPB.out p.hb) RA.out RB.out)
  have C2 := Lib.hid (fun p : BlwBy wr => holds_is ao bo _ _ ca cb a b o e v p.x rfl rfl HV a12 b12 (prow_below HPA.out p.hb) (prow_below HPB.out p.hb) VA.out VB.out)
  have I1 := Lib.hid (fun p : BlwBy wr => iscon_is ao bo _ _ ca cb a b q i j s p.x rfl rfl HC (by omega) (by omega) a12 b12 (prow_below HPA.out p.hb) (prow_below HPB.out p.hb) RA.out RB.out)
  have I2 := Lib.hid (fun p : BlwBy wr => shows_is ao bo _ _ ca cb a b q i j s p.x rfl rfl HC a12 b12 (prow_below HPA.out p.hb) (prow_below HPB.out p.hb) VA.out VB.out)
  clear hbw hls hlc hlk hlm hpa hpb B ZS ZC ZK PA PB
  refine wb_region mixedP (by kernel_rfl) ?_
  repeat (refine wq_step (fun K hK => ?_); go_simp; first | (refine hK _ ?_; clear hK K) | (apply Exists.intro; refine ⟨fun _ => ?_, hK _ ?_⟩; (first | (go_at_call 28; refine Calls.blw_of (P1.out _)) | (go_at_call 29; refine Calls.blw_of (C1.out _)) | (go_at_call 30; refine Calls.blw_of (C2.out _)) | (go_at_call 31; refine Calls.blw_of (I1.out _)) | (go_at_call 32; refine Calls.blw_of (I2.out _))); clear hK K))
  refine wq_nil ?_
  intro _ hw'
  obtain ⟨pb, hw''⟩ := hw'
  subst hw''
  have HB6 := Lib.hid (HBW.out.trans (pb.hb.mono HBW.out.size))
  have PA := Lib.hid (prow_below HPA.out pb.hb)
  have PB := Lib.hid (prow_below HPB.out pb.hb)
  clear G0 G1 L0 L1 L2 K0 K1 K2 M0 M1 M2 P1 C1 C2 I1 I2 HBW HPA HPB
  obtain ⟨wx, hbx⟩ := pb
  change Hid (Below w.heap.size w wx) at HB6
  change Hid (PRow wx ao a) at PA
  change Hid (PRow wx bo b) at PB
  dsimp only
  clear hbx
  have B := HB6
  clear HB6
  obtain ⟨fa, ht⟩ : ∃ t, weakB a = t := ⟨_, rfl⟩
  have HWA := Lib.hid ht
  clear ht
  go_wp2_with fail
  refine (cvx_is ao _ ca a fa _ rfl HWA a12 PA.out VA.out).mono ?_
  rintro e w6 ⟨rfl, hb6⟩
  replace PA := Lib.hid (prow_below PA.out hb6)
  replace PB := Lib.hid (prow_below PB.out hb6)
  replace B := Lib.hid (belT B.out hb6)
  clear hb6
  cases fa with
  | false =>
    go_wp2_with fail
    go_ret
    exact ⟨rfl, B.out⟩
  | true =>
  obtain ⟨fb, ht⟩ : ∃ t, weakB b = t := ⟨_, rfl⟩
  have HWB := Lib.hid ht
  clear ht
  go_wp2_with fail
  refine (cvx_is bo _ cb b fb _ rfl HWB b12 PB.out VB.out).mono ?_
  rintro e w7 ⟨rfl, hb7⟩
  replace PA := Lib.hid (prow_below PA.out hb7)
  replace PB := Lib.hid (prow_below PB.out hb7)
  replace B := Lib.hid (belT B.out hb7)
  clear hb7
  cases fb with
  | false =>
    go_wp2_with fail
    go_ret
    exact ⟨rfl, B.out⟩
  | true =>
  obtain ⟨k2, i2, u, ht⟩ : ∃ k i t, sepT a b = (k, i, t) := ⟨_, _, _, rfl⟩
  have HST := Lib.hid ht
  clear ht
  go_wp2_with fail
  refine (sepedge_is ao bo _ _ ca cb a b k2 i2 u _ rfl rfl HST (by omega) (by omega) a12 b12 PA.out PB.out RA.out RB.out).mono ?_
  rintro e w8 ⟨rfl, hb8⟩
  replace PA := Lib.hid (prow_below PA.out hb8)
  replace PB := Lib.hid (prow_below PB.out hb8)
  replace B := Lib.hid (belT B.out hb8)
  clear hb8
  go_wp2_with fail
  refine (apart_is ao bo _ _ ca cb a b k2 i2 u _ rfl rfl HST a12 b12 (prow_alloc PA.out (.cells #[.int .i64 k2, .int .i64 i2] 35)) (prow_alloc PB.out (.cells #[.int .i64 k2, .int .i64 i2] 35)) VA.out VB.out).mono ?_
  rintro e w9 ⟨rfl, hb9⟩
  replace PA := Lib.hid (prow_below (prow_alloc PA.out (.cells #[.int .i64 k2, .int .i64 i2] 35)) hb9)
  replace PB := Lib.hid (prow_below (prow_alloc PB.out (.cells #[.int .i64 k2, .int .i64 i2] 35)) hb9)
  have ZA := Lib.hid (blk_call (blk_new w8 (.cells #[.int .i64 k2, .int .i64 i2] 35) (w8.heap.size) rfl) hb9)
  replace B := Lib.hid (belT (belA B.out (.cells #[.int .i64 k2, .int .i64 i2] 35)) hb9)
  clear hb9
  have c0 := blk_cell ZA.out 0 _ rfl
  have c1 := blk_cell ZA.out 1 _ rfl
  have cz := blk_lt ZA.out
  go_wp2_with fail
  go_ret
  exact ⟨by first | rfl | simp, belA B.out _⟩

set_option maxRecDepth 100000 in
theorem lifted (os : Os) (started : os.Started) (H : Type) (enc : TypeId × Value → H) :
    ReturnsInHanded {} Try.checked os 4 .any (Rows.intersectMatchesReferenceSpec.pre6 enc Try.prog Try.f4 Rows.intersectMatchesReferenceRow.domain false) (Rows.intersectMatchesReferenceSpec.post enc Try.prog Try.f4 false true false false) := by
  refine returnsInHanded_of_change (C := Try.checked) HFr.own started (by kernel_rfl) Try.func4
    (ChangeSpec.witness6 (enc := enc) (C := Try.checked) false ⟨#[], #[.slice none 0 0, .slice none 0 0, .agg #[.int .i64 0, .int .i64 0], .agg #[.int .i64 0, .int .i64 0, .int .i64 0]], []⟩ 8 (by kernel_rfl) (by kernel_rfl) (by kernel_rfl) (by kernel_rfl)) ?_
  intro W base args ds gs before hval0 hW hcnd _
  have hval : ∀ (j : Nat) t v, Try.f4.params[j]? = some t → args[j]? = some v → Value.okWide Try.prog W .any base t v := hval0
  have hW' := hW
  obtain ⟨p, q, hA0, hV, rfl, hfz, hnd⟩ := hW
  have hA : DataW.TrodAll enc Try.prog W 0 (fun _ => true) true Try.f4.params.toList args.toList ds p := hA0
  rw [Try.params4] at hA hval
  obtain ⟨v0, vs0, d0, ds0, p0, q0, hargs, rfl, rfl, h0, r0⟩ := trodAll_cons hA
  obtain ⟨v1, vs1, d1, ds1, p1, q1, rfl, rfl, rfl, h1, r1⟩ := trodAll_cons r0
  obtain ⟨v2, vs2, d2, ds2, p2, q2, rfl, rfl, rfl, h2, r2⟩ := trodAll_cons r1
  obtain ⟨v3, vs3, d3, ds3, p3, q3, rfl, rfl, rfl, h3, r3⟩ := trodAll_cons r2
  obtain ⟨rfl, rfl, rfl⟩ := trodAll_nil r3
  obtain rfl : args = #[v0, v1, v2, v3] := by cases args; simp_all
  obtain ⟨rfl, rfl⟩ := trodVars_none hV
  have k0 := h0
  have lt0 : ∀ x ∈ p0, x.block < W.heap.size := by obtain ⟨m, hm⟩ := k0; exact DataW.trod_lt m _ _ _ hm
  obtain ⟨a0, cap0, l0, rfl, n0, w0⟩ := HFr.open_poly (hval 0 23 v0 rfl rfl) h0
  have k1 := h1
  have lt1 : ∀ x ∈ p1, x.block < W.heap.size := by obtain ⟨m, hm⟩ := k1; exact DataW.trod_lt m _ _ _ hm
  obtain ⟨a1, cap1, l1, rfl, n1, w1⟩ := HFr.open_poly (hval 1 23 v1 rfl rfl) h1
  have k2 := h2
  have lt2 : ∀ x ∈ p2, x.block < W.heap.size := by obtain ⟨m, hm⟩ := k2; exact DataW.trod_lt m _ _ _ hm
  obtain ⟨x2, y2, rfl⟩ := HFr.open_sep (hval 2 35 v2 rfl rfl) h2
  have k3 := h3
  have lt3 : ∀ x ∈ p3, x.block < W.heap.size := by obtain ⟨m, hm⟩ := k3; exact DataW.trod_lt m _ _ _ hm
  obtain ⟨x3, y3, z3, rfl⟩ := HFr.open_con (hval 3 37 v3 rfl rfl) h3
  clear hA0 hval0
  refine (walk a0 cap0 l0 n0 w0 a1 cap1 l1 n1 w1 x2 y2 x3 y3 z3 W rfl).mono fun e W' ⟨he, bel⟩ => ?_
  subst he
  exact ⟨_, rfl, _, _, _, [], _, [], hW', trodAll_mk1 (shut_bool Try.underlying4 _), (trodAll_cons_mk (Below.trod HFr.laidOut (by kernel_rfl) (of_decide_eq_true (by kernel_rfl)) k0 bel lt0) (trodAll_cons_mk (Below.trod HFr.laidOut (by kernel_rfl) (of_decide_eq_true (by kernel_rfl)) k1 bel lt1) (trodAll_cons_mk (Below.trod HFr.laidOut (by kernel_rfl) (of_decide_eq_true (by kernel_rfl)) k2 bel lt2) (trodAll_cons_mk (Below.trod HFr.laidOut (by kernel_rfl) (of_decide_eq_true (by kernel_rfl)) k3 bel lt3) trodAll_mk0)))), rfl, bel.frame _, fun h => by cases h⟩

/-- THE STATEMENT. -/
theorem holds : Rows.IntersectMatchesReferenceSaid :=
  OpenClaim.holds_of_wide 4 Try.f4 rfl rfl rfl rfl rfl rfl rfl ⟨rfl, rfl, rfl, rfl, rfl⟩ rfl rfl rfl rfl rfl (by kernel_rfl) Try.func4 (by kernel_rfl)
    (of_decide_eq_true (by kernel_rfl)) (by unfold Func.isWrapper; first | (rw [if_pos (by decide +kernel)]; kernel_rfl) | (rw [if_neg (by decide +kernel)]; exact ⟨rfl, rfl⟩))
    (fun os started H enc _ => lifted os started H enc)
#print axioms holds
end Go.Proofs.Ytojfonenpplahaa.intersectMatchesReference
