/- Proved: Polygons, IsSeparating and IsContact are symmetric (the law IntersectSymmetric returns true).
Conditions: none on the arguments. -/
import Derived.Test.YtojfonenpplahaaIxH
import Derived.Test.YtojfonenpplahaaIxI
import Derived.Test.YtojfonenpplahaaHlFr
namespace Go.Proofs.Ytojfonenpplahaa.intersectSymmetric
open Go.ChangeShapes Go.WideShapes Go.ChangeAt Go.RowKit
set_option linter.unusedVariables false
set_option linter.unusedSimpArgs false

def kindS (q : Int) : Int := if q = 2 then 3 else if q = 3 then 2 else q
theorem con_sym (a b : List (Int × Int)) (q i j : Int) : isConB b a (kindS q) j i = isConB a b q i j := by
  unfold kindS isConB
  by_cases h2 : q = 2
  · subst h2; simp
  · by_cases h3 : q = 3
    · subst h3; simp
    · by_cases h1 : q = 1
      · subst h1
        simp
        rw [eeB_comm a b i.toNat j.toNat]
        ac_rfl
      · simp [h1, h2, h3]
theorem sep_sym0 (a b : List (Int × Int)) (e : Int) : isSepB b a 1 e = isSepB a b 0 e := by unfold isSepB; simp
theorem sep_sym1 (a b : List (Int × Int)) (e : Int) : isSepB b a 0 e = isSepB a b 1 e := by unfold isSepB; simp

set_option maxRecDepth 100000 in
set_option maxHeartbeats 32000000 in
theorem walk {w : World} (ao : Option Addr) (ca : Nat) (a : List (Int × Int)) (na : a.length ≤ 9223372036854775807) (hA : PRow w ao a) (bo : Option Addr) (cb : Nat) (b : List (Int × Int)) (nb : b.length ≤ 9223372036854775807) (hB : PRow w bo b) (o e : Int) (q i j : Int) (W' : World) (hw : w = W') :
    Calls Try.prog 6 #[.slice ao a.length ca, .slice bo b.length cb, .agg #[.int .i64 o, .int .i64 e], .agg #[.int .i64 q, .int .i64 i, .int .i64 j]] w fun e w' => e = .returned (.bool true) ∧ Below w.heap.size w w' := by
  have PA := Lib.hid hA
  have PB := Lib.hid hB
  clear hA hB hw
  go_enter Try.func6, Try.ntmps6
  go_wp2_with fail
  refine (head5_is _).mono ?_
  rintro e w1 ⟨rfl, hb1⟩
  replace PA := Lib.hid (prow_below (prow_alloc (prow_alloc PA.out (.cells #[.int .i64 o, .int .i64 e] 35)) (.cells #[.int .i64 q, .int .i64 i, .int .i64 j] 37)) hb1)
  replace PB := Lib.hid (prow_below (prow_alloc (prow_alloc PB.out (.cells #[.int .i64 o, .int .i64 e] 35)) (.cells #[.int .i64 q, .int .i64 i, .int .i64 j] 37)) hb1)
  have ZS := Lib.hid (blk_call (blk_alloc (blk_new w (.cells #[.int .i64 o, .int .i64 e] 35) (w.heap.size) rfl) (.cells #[.int .i64 q, .int .i64 i, .int .i64 j] 37)) hb1)
  have ZC := Lib.hid (blk_call (blk_new (w.alloc (.cells #[.int .i64 o, .int .i64 e] 35)) (.cells #[.int .i64 q, .int .i64 i, .int .i64 j] 37) (w.heap.size + 1) (by simp)) hb1)
  have B := Lib.hid (belT (belA (belA (Below.refl _ w) (.cells #[.int .i64 o, .int .i64 e] 35)) (.cells #[.int .i64 q, .int .i64 i, .int .i64 j] 37)) hb1)
  clear hb1
  obtain ⟨ta, ht⟩ : ∃ t, validP a = t := ⟨_, rfl⟩
  have HA := Lib.hid ht
  clear ht
  go_wp2_with fail
  refine (small_is ao _ ca a ta _ rfl HA na PA.out).mono ?_
  rintro e w2 ⟨rfl, hb2⟩
  replace PA := Lib.hid (prow_below PA.out hb2)
  replace PB := Lib.hid (prow_below PB.out hb2)
  replace ZS := Lib.hid (blk_call ZS.out hb2)
  replace ZC := Lib.hid (blk_call ZC.out hb2)
  replace B := Lib.hid (belT B.out hb2)
  clear hb2
  cases ta with
  | false =>
    go_wp2_with fail
    go_ret
    exact ⟨rfl, B.out⟩
  | true =>
  obtain ⟨tb, ht⟩ : ∃ t, validP b = t := ⟨_, rfl⟩
  have HB := Lib.hid ht
  clear ht
  go_wp2_with fail
  refine (small_is bo _ cb b tb _ rfl HB nb PB.out).mono ?_
  rintro e w3 ⟨rfl, hb3⟩
  replace PA := Lib.hid (prow_below PA.out hb3)
  replace PB := Lib.hid (prow_below PB.out hb3)
  replace ZS := Lib.hid (blk_call ZS.out hb3)
  replace ZC := Lib.hid (blk_call ZC.out hb3)
  replace B := Lib.hid (belT B.out hb3)
  clear hb3
  cases tb with
  | false =>
    go_wp2_with fail
    go_ret
    exact ⟨rfl, B.out⟩
  | true =>
  obtain ⟨a3, a12, aV⟩ := vparts HA.out
  have RA := Lib.hid aV.r2
  clear aV
  obtain ⟨b3, b12, bV⟩ := vparts HB.out
  have RB := Lib.hid bV.r2
  clear bV
  obtain ⟨t, ht⟩ : ∃ t, touchB a b = t := ⟨_, rfl⟩
  have HP := Lib.hid ht
  have HP2 : Hid (touchB b a = t) := Lib.hid (by rw [touch_comm]; exact ht)
  clear ht
  obtain ⟨s, hs⟩ : ∃ s, isConB a b q i j = s := ⟨_, rfl⟩
  have HC := Lib.hid hs
  have HC2 : Hid (isConB b a (kindS q) j i = s) := Lib.hid (by rw [con_sym]; exact hs)
  clear hs
  obtain ⟨v, hv⟩ : ∃ v, isSepB a b o e = v := ⟨_, rfl⟩
  have HV := Lib.hid hv
  clear hv
  by_cases o0 : o = 0
  · subst o0
    have HV2 : Hid (isSepB b a 1 e = v) := Lib.hid (by rw [sep_sym0]; exact HV.out)
    by_cases g2 : q = 2
    · subst g2
      have HC2 : Hid (isConB b a 3 j i = s) := Lib.hid HC2.out
      have c0 := blk_cell ZS.out 0 _ rfl
      have c1 := blk_cell ZS.out 1 _ rfl
      have d0 := blk_cell ZC.out 0 _ rfl
      have d1 := blk_cell ZC.out 1 _ rfl
      have d2 := blk_cell ZC.out 2 _ rfl
      have zs := blk_lt ZS.out
      have zc := blk_lt ZC.out
      go_upto_region 10 with fail
      clear c0 c1 d0 d1 d2
      have hbw : Below w.heap.size w ((w3.alloc (.cells #[.int .i64 1, .int .i64 e] 35)).alloc (.cells #[.int .i64 3, .int .i64 j, .int .i64 i] 37)) := belA (belA B.out _) _
      have hls : ((w3.alloc (.cells #[.int .i64 1, .int .i64 e] 35)).alloc (.cells #[.int .i64 3, .int .i64 j, .int .i64 i] 37)).heap[w.heap.size]? = some (.cells #[.int .i64 0, .int .i64 e] 35 (0, 0)) := blk_alloc (blk_alloc ZS.out _) _
      have hlc : ((w3.alloc (.cells #[.int .i64 1, .int .i64 e] 35)).alloc (.cells #[.int .i64 3, .int .i64 j, .int .i64 i] 37)).heap[w.heap.size + 1]? = some (.cells #[.int .i64 2, .int .i64 i, .int .i64 j] 37 (0, 0)) := blk_alloc (blk_alloc ZC.out _) _
      have hlm : ((w3.alloc (.cells #[.int .i64 1, .int .i64 e] 35)).alloc (.cells #[.int .i64 3, .int .i64 j, .int .i64 i] 37)).heap[w3.heap.size]? = some (.cells #[.int .i64 1, .int .i64 e] 35 (0, 0)) := blk_alloc (blk_new _ _ _ rfl) _
      have hlu : ((w3.alloc (.cells #[.int .i64 1, .int .i64 e] 35)).alloc (.cells #[.int .i64 3, .int .i64 j, .int .i64 i] 37)).heap[w3.heap.size + 1]? = some (.cells #[.int .i64 3, .int .i64 j, .int .i64 i] 37 (0, 0)) := blk_new _ _ _ (by simp)
      have hpa := prow_alloc (prow_alloc PA.out (.cells #[.int .i64 1, .int .i64 e] 35)) (.cells #[.int .i64 3, .int .i64 j, .int .i64 i] 37)
      have hpb := prow_alloc (prow_alloc PB.out (.cells #[.int .i64 1, .int .i64 e] 35)) (.cells #[.int .i64 3, .int .i64 j, .int .i64 i] 37)
      generalize (w3.alloc (.cells #[.int .i64 1, .int .i64 e] 35)).alloc (.cells #[.int .i64 3, .int .i64 j, .int .i64 i] 37) = wr at *
      have G0 := fun p => cell_blw (w := wr) (a := ⟨w.heap.size, 0, none⟩) (blk_lt hls) (blk_cell hls 0 _ rfl) p
      have G1 := fun p => cell_blw (w := wr) (a := ⟨w.heap.size, 1, none⟩) (blk_lt hls) (blk_cell hls 1 _ rfl) p
      have M0 := fun p => cell_blw (w := wr) (a := ⟨w3.heap.size, 0, none⟩) (blk_lt hlm) (blk_cell hlm 0 _ rfl) p
      have M1 := fun p => cell_blw (w := wr) (a := ⟨w3.heap.size, 1, none⟩) (blk_lt hlm) (blk_cell hlm 1 _ rfl) p
      have HBW := Lib.hid hbw
      have HLC := Lib.hid hlc
      have HLU := Lib.hid hlu
      have HPA := Lib.hid hpa
      have HPB := Lib.hid hpb
      have C1 := Lib.hid (fun p : BlwBy wr => issep_is ao bo _ _ ca cb a b 0 e v p.x rfl rfl HV a12 b12 (prow_below HPA.out p.hb) (prow_below HPB.out p.hb) RA.out RB.out)
      have C2 := Lib.hid (fun p : BlwBy wr => issep_is bo ao _ _ cb ca b a 1 e v p.x rfl rfl HV2 b12 a12 (prow_below HPB.out p.hb) (prow_below HPA.out p.hb) RB.out RA.out)
      clear hbw hls hlc hlm hlu hpa hpb B ZS ZC PA PB
      refine wb_region mixedP (by kernel_rfl) ?_
      repeat (refine wq_step (fun K hK => ?_); go_simp; first | (refine hK _ ?_; clear hK K) | (apply Exists.intro; refine ⟨fun _ => ?_, hK _ ?_⟩; (first | (go_at_call 29; first | with_reducible refine Calls.blw_of (C1.out _) | with_reducible refine Calls.blw_of (C2.out _))); clear hK K))
      refine wq_nil ?_
      intro _ hw'
      obtain ⟨pb, hw''⟩ := hw'
      subst hw''
      have HB5 := Lib.hid (HBW.out.trans (pb.hb.mono HBW.out.size))
      have HLC5 := Lib.hid (blk_call HLC.out pb.hb)
      have HLU5 := Lib.hid (blk_call HLU.out pb.hb)
      have HPA5 := Lib.hid (prow_below HPA.out pb.hb)
      have HPB5 := Lib.hid (prow_below HPB.out pb.hb)
      clear G0 G1 M0 M1 C1 C2 HBW HLC HLU HPA HPB
      obtain ⟨w5, hb5⟩ := pb
      change Hid (Below w.heap.size w w5) at HB5
      change Hid (w5.heap[w.heap.size + 1]? = _) at HLC5
      change Hid (w5.heap[w3.heap.size + 1]? = _) at HLU5
      change Hid (PRow w5 ao a) at HPA5
      change Hid (PRow w5 bo b) at HPB5
      dsimp only
      clear hb5
      go_upto_region 12 with fail
      have hlc := HLC5.out
      have hlu := HLU5.out
      have G0 := fun p => cell_blw (w := w5) (a := ⟨w.heap.size + 1, 0, none⟩) (blk_lt hlc) (blk_cell hlc 0 _ rfl) p
      have G1 := fun p => cell_blw (w := w5) (a := ⟨w.heap.size + 1, 1, none⟩) (blk_lt hlc) (blk_cell hlc 1 _ rfl) p
      have G2 := fun p => cell_blw (w := w5) (a := ⟨w.heap.size + 1, 2, none⟩) (blk_lt hlc) (blk_cell hlc 2 _ rfl) p
      have M0 := fun p => cell_blw (w := w5) (a := ⟨w3.heap.size + 1, 0, none⟩) (blk_lt hlu) (blk_cell hlu 0 _ rfl) p
      have M1 := fun p => cell_blw (w := w5) (a := ⟨w3.heap.size + 1, 1, none⟩) (blk_lt hlu) (blk_cell hlu 1 _ rfl) p
      have M2 := fun p => cell_blw (w := w5) (a := ⟨w3.heap.size + 1, 2, none⟩) (blk_lt hlu) (blk_cell hlu 2 _ rfl) p
      clear hlc hlu
      have P1 := Lib.hid (fun p : BlwBy w5 => polygons_is ao bo _ _ ca cb a b t p.x rfl rfl HP (by omega) (by omega) a12 b12 (prow_below HPA5.out p.hb) (prow_below HPB5.out p.hb) RA.out RB.out)
      have P2 := Lib.hid (fun p : BlwBy w5 => polygons_is bo ao _ _ cb ca b a t p.x rfl rfl HP2 (by omega) (by omega) b12 a12 (prow_below HPB5.out p.hb) (prow_below HPA5.out p.hb) RB.out RA.out)
      have I1 := Lib.hid (fun p : BlwBy w5 => iscon_is ao bo _ _ ca cb a b 2 i j s p.x rfl rfl HC (by omega) (by omega) a12 b12 (prow_below HPA5.out p.hb) (prow_below HPB5.out p.hb) RA.out RB.out)
      have I2 := Lib.hid (fun p : BlwBy w5 => iscon_is bo ao _ _ cb ca b a 3 j i s p.x rfl rfl HC2 (by omega) (by omega) b12 a12 (prow_below HPB5.out p.hb) (prow_below HPA5.out p.hb) RB.out RA.out)
      refine wb_region mixedP (by kernel_rfl) ?_
      repeat (refine wq_step (fun K hK => ?_); go_simp; first | (refine hK _ ?_; clear hK K) | (apply Exists.intro; refine ⟨fun _ => ?_, hK _ ?_⟩; (first | (go_at_call 28; first | with_reducible refine Calls.blw_of (P1.out _) | with_reducible refine Calls.blw_of (P2.out _)) | (go_at_call 31; first | with_reducible refine Calls.blw_of (I1.out _) | with_reducible refine Calls.blw_of (I2.out _))); clear hK K))
      refine wq_nil ?_
      intro _ hw'
      obtain ⟨pb, hw''⟩ := hw'
      subst hw''
      have HB6 := Lib.hid (HB5.out.trans (pb.hb.mono HB5.out.size))
      clear G0 G1 G2 M0 M1 M2 P1 P2 I1 I2
      go_wp2_with fail
      go_ret
      exact ⟨by simp, HB6.out⟩
    by_cases g3 : q = 3
    · subst g3
      have HC2 : Hid (isConB b a 2 j i = s) := Lib.hid HC2.out
      have c0 := blk_cell ZS.out 0 _ rfl
      have c1 := blk_cell ZS.out 1 _ rfl
      have d0 := blk_cell ZC.out 0 _ rfl
      have d1 := blk_cell ZC.out 1 _ rfl
      have d2 := blk_cell ZC.out 2 _ rfl
      have zs := blk_lt ZS.out
      have zc := blk_lt ZC.out
      go_upto_region 10 with fail
      clear c0 c1 d0 d1 d2
      have hbw : Below w.heap.size w ((w3.alloc (.cells #[.int .i64 1, .int .i64 e] 35)).alloc (.cells #[.int .i64 2, .int .i64 j, .int .i64 i] 37)) := belA (belA B.out _) _
      have hls : ((w3.alloc (.cells #[.int .i64 1, .int .i64 e] 35)).alloc (.cells #[.int .i64 2, .int .i64 j, .int .i64 i] 37)).heap[w.heap.size]? = some (.cells #[.int .i64 0, .int .i64 e] 35 (0, 0)) := blk_alloc (blk_alloc ZS.out _) _
      have hlc : ((w3.alloc (.cells #[.int .i64 1, .int .i64 e] 35)).alloc (.cells #[.int .i64 2, .int .i64 j, .int .i64 i] 37)).heap[w.heap.size + 1]? = some (.cells #[.int .i64 3, .int .i64 i, .int .i64 j] 37 (0, 0)) := blk_alloc (blk_alloc ZC.out _) _
      have hlm : ((w3.alloc (.cells #[.int .i64 1, .int .i64 e] 35)).alloc (.cells #[.int .i64 2, .int .i64 j, .int .i64 i] 37)).heap[w3.heap.size]? = some (.cells #[.int .i64 1, .int .i64 e] 35 (0, 0)) := blk_alloc (blk_new _ _ _ rfl) _
      have hlu : ((w3.alloc (.cells #[.int .i64 1, .int .i64 e] 35)).alloc (.cells #[.int .i64 2, .int .i64 j, .int .i64 i] 37)).heap[w3.heap.size + 1]? = some (.cells #[.int .i64 2, .int .i64 j, .int .i64 i] 37 (0, 0)) := blk_new _ _ _ (by simp)
      have hpa := prow_alloc (prow_alloc PA.out (.cells #[.int .i64 1, .int .i64 e] 35)) (.cells #[.int .i64 2, .int .i64 j, .int .i64 i] 37)
      have hpb := prow_alloc (prow_alloc PB.out (.cells #[.int .i64 1, .int .i64 e] 35)) (.cells #[.int .i64 2, .int .i64 j, .int .i64 i] 37)
      generalize (w3.alloc (.cells #[.int .i64 1, .int .i64 e] 35)).alloc (.cells #[.int .i64 2, .int .i64 j, .int .i64 i] 37) = wr at *
      have G0 := fun p => cell_blw (w := wr) (a := ⟨w.heap.size, 0, none⟩) (blk_lt hls) (blk_cell hls 0 _ rfl) p
      have G1 := fun p => cell_blw (w := wr) (a := ⟨w.heap.size, 1, none⟩) (blk_lt hls) (blk_cell hls 1 _ rfl) p
      have M0 := fun p => cell_blw (w := wr) (a := ⟨w3.heap.size, 0, none⟩) (blk_lt hlm) (blk_cell hlm 0 _ rfl) p
      have M1 := fun p => cell_blw (w := wr) (a := ⟨w3.heap.size, 1, none⟩) (blk_lt hlm) (blk_cell hlm 1 _ rfl) p
      have HBW := Lib.hid hbw
      have HLC := Lib.hid hlc
      have HLU := Lib.hid hlu
      have HPA := Lib.hid hpa
      have HPB := Lib.hid hpb
      have C1 := Lib.hid (fun p : BlwBy wr => issep_is ao bo _ _ ca cb a b 0 e v p.x rfl rfl HV a12 b12 (prow_below HPA.out p.hb) (prow_below HPB.out p.hb) RA.out RB.out)
      have C2 := Lib.hid (fun p : BlwBy wr => issep_is bo ao _ _ cb ca b a 1 e v p.x rfl rfl HV2 b12 a12 (prow_below HPB.out p.hb) (prow_below HPA.out p.hb) RB.out RA.out)
      clear hbw hls hlc hlm hlu hpa hpb B ZS ZC PA PB
      refine wb_region mixedP (by kernel_rfl) ?_
      repeat (refine wq_step (fun K hK => ?_); go_simp; first | (refine hK _ ?_; clear hK K) | (apply Exists.intro; refine ⟨fun _ => ?_, hK _ ?_⟩; (first | (go_at_call 29; first | with_reducible refine Calls.blw_of (C1.out _) | with_reducible refine Calls.blw_of (C2.out _))); clear hK K))
      refine wq_nil ?_
      intro _ hw'
      obtain ⟨pb, hw''⟩ := hw'
      subst hw''
      have HB5 := Lib.hid (HBW.out.trans (pb.hb.mono HBW.out.size))
      have HLC5 := Lib.hid (blk_call HLC.out pb.hb)
      have HLU5 := Lib.hid (blk_call HLU.out pb.hb)
      have HPA5 := Lib.hid (prow_below HPA.out pb.hb)
      have HPB5 := Lib.hid (prow_below HPB.out pb.hb)
      clear G0 G1 M0 M1 C1 C2 HBW HLC HLU HPA HPB
      obtain ⟨w5, hb5⟩ := pb
      change Hid (Below w.heap.size w w5) at HB5
      change Hid (w5.heap[w.heap.size + 1]? = _) at HLC5
      change Hid (w5.heap[w3.heap.size + 1]? = _) at HLU5
      change Hid (PRow w5 ao a) at HPA5
      change Hid (PRow w5 bo b) at HPB5
      dsimp only
      clear hb5
      go_upto_region 12 with fail
      have hlc := HLC5.out
      have hlu := HLU5.out
      have G0 := fun p => cell_blw (w := w5) (a := ⟨w.heap.size + 1, 0, none⟩) (blk_lt hlc) (blk_cell hlc 0 _ rfl) p
      have G1 := fun p => cell_blw (w := w5) (a := ⟨w.heap.size + 1, 1, none⟩) (blk_lt hlc) (blk_cell hlc 1 _ rfl) p
      have G2 := fun p => cell_blw (w := w5) (a := ⟨w.heap.size + 1, 2, none⟩) (blk_lt hlc) (blk_cell hlc 2 _ rfl) p
      have M0 := fun p => cell_blw (w := w5) (a := ⟨w3.heap.size + 1, 0, none⟩) (blk_lt hlu) (blk_cell hlu 0 _ rfl) p
      have M1 := fun p => cell_blw (w := w5) (a := ⟨w3.heap.size + 1, 1, none⟩) (blk_lt hlu) (blk_cell hlu 1 _ rfl) p
      have M2 := fun p => cell_blw (w := w5) (a := ⟨w3.heap.size + 1, 2, none⟩) (blk_lt hlu) (blk_cell hlu 2 _ rfl) p
      clear hlc hlu
      have P1 := Lib.hid (fun p : BlwBy w5 => polygons_is ao bo _ _ ca cb a b t p.x rfl rfl HP (by omega) (by omega) a12 b12 (prow_below HPA5.out p.hb) (prow_below HPB5.out p.hb) RA.out RB.out)
      have P2 := Lib.hid (fun p : BlwBy w5 => polygons_is bo ao _ _ cb ca b a t p.x rfl rfl HP2 (by omega) (by omega) b12 a12 (prow_below HPB5.out p.hb) (prow_below HPA5.out p.hb) RB.out RA.out)
      have I1 := Lib.hid (fun p : BlwBy w5 => iscon_is ao bo _ _ ca cb a b 3 i j s p.x rfl rfl HC (by omega) (by omega) a12 b12 (prow_below HPA5.out p.hb) (prow_below HPB5.out p.hb) RA.out RB.out)
      have I2 := Lib.hid (fun p : BlwBy w5 => iscon_is bo ao _ _ cb ca b a 2 j i s p.x rfl rfl HC2 (by omega) (by omega) b12 a12 (prow_below HPB5.out p.hb) (prow_below HPA5.out p.hb) RB.out RA.out)
      refine wb_region mixedP (by kernel_rfl) ?_
      repeat (refine wq_step (fun K hK => ?_); go_simp; first | (refine hK _ ?_; clear hK K) | (apply Exists.intro; refine ⟨fun _ => ?_, hK _ ?_⟩; (first | (go_at_call 28; first | with_reducible refine Calls.blw_of (P1.out _) | with_reducible refine Calls.blw_of (P2.out _)) | (go_at_call 31; first | with_reducible refine Calls.blw_of (I1.out _) | with_reducible refine Calls.blw_of (I2.out _))); clear hK K))
      refine wq_nil ?_
      intro _ hw'
      obtain ⟨pb, hw''⟩ := hw'
      subst hw''
      have HB6 := Lib.hid (HB5.out.trans (pb.hb.mono HB5.out.size))
      clear G0 G1 G2 M0 M1 M2 P1 P2 I1 I2
      go_wp2_with fail
      go_ret
      exact ⟨by simp, HB6.out⟩
    have HC2 : Hid (isConB b a q j i = s) := Lib.hid (by have := HC2.out; unfold kindS at this; rw [if_neg g2, if_neg g3] at this; exact this)
    have c0 := blk_cell ZS.out 0 _ rfl
    have c1 := blk_cell ZS.out 1 _ rfl
    have d0 := blk_cell ZC.out 0 _ rfl
    have d1 := blk_cell ZC.out 1 _ rfl
    have d2 := blk_cell ZC.out 2 _ rfl
    have zs := blk_lt ZS.out
    have zc := blk_lt ZC.out
    go_upto_region 10 with fail
    clear c0 c1 d0 d1 d2
    have hbw : Below w.heap.size w ((w3.alloc (.cells #[.int .i64 1, .int .i64 e] 35)).alloc (.cells #[.int .i64 q, .int .i64 j, .int .i64 i] 37)) := belA (belA B.out _) _
    have hls : ((w3.alloc (.cells #[.int .i64 1, .int .i64 e] 35)).alloc (.cells #[.int .i64 q, .int .i64 j, .int .i64 i] 37)).heap[w.heap.size]? = some (.cells #[.int .i64 0, .int .i64 e] 35 (0, 0)) := blk_alloc (blk_alloc ZS.out _) _
    have hlc : ((w3.alloc (.cells #[.int .i64 1, .int .i64 e] 35)).alloc (.cells #[.int .i64 q, .int .i64 j, .int .i64 i] 37)).heap[w.heap.size + 1]? = some (.cells #[.int .i64 q, .int .i64 i, .int .i64 j] 37 (0, 0)) := blk_alloc (blk_alloc ZC.out _) _
    have hlm : ((w3.alloc (.cells #[.int .i64 1, .int .i64 e] 35)).alloc (.cells #[.int .i64 q, .int .i64 j, .int .i64 i] 37)).heap[w3.heap.size]? = some (.cells #[.int .i64 1, .int .i64 e] 35 (0, 0)) := blk_alloc (blk_new _ _ _ rfl) _
    have hlu : ((w3.alloc (.cells #[.int .i64 1, .int .i64 e] 35)).alloc (.cells #[.int .i64 q, .int .i64 j, .int .i64 i] 37)).heap[w3.heap.size + 1]? = some (.cells #[.int .i64 q, .int .i64 j, .int .i64 i] 37 (0, 0)) := blk_new _ _ _ (by simp)
    have hpa := prow_alloc (prow_alloc PA.out (.cells #[.int .i64 1, .int .i64 e] 35)) (.cells #[.int .i64 q, .int .i64 j, .int .i64 i] 37)
    have hpb := prow_alloc (prow_alloc PB.out (.cells #[.int .i64 1, .int .i64 e] 35)) (.cells #[.int .i64 q, .int .i64 j, .int .i64 i] 37)
    generalize (w3.alloc (.cells #[.int .i64 1, .int .i64 e] 35)).alloc (.cells #[.int .i64 q, .int .i64 j, .int .i64 i] 37) = wr at *
    have G0 := fun p => cell_blw (w := wr) (a := ⟨w.heap.size, 0, none⟩) (blk_lt hls) (blk_cell hls 0 _ rfl) p
    have G1 := fun p => cell_blw (w := wr) (a := ⟨w.heap.size, 1, none⟩) (blk_lt hls) (blk_cell hls 1 _ rfl) p
    have M0 := fun p => cell_blw (w := wr) (a := ⟨w3.heap.size, 0, none⟩) (blk_lt hlm) (blk_cell hlm 0 _ rfl) p
    have M1 := fun p => cell_blw (w := wr) (a := ⟨w3.heap.size, 1, none⟩) (blk_lt hlm) (blk_cell hlm 1 _ rfl) p
    have HBW := Lib.hid hbw
    have HLC := Lib.hid hlc
    have HLU := Lib.hid hlu
    have HPA := Lib.hid hpa
    have HPB := Lib.hid hpb
    have C1 := Lib.hid (fun p : BlwBy wr => issep_is ao bo _ _ ca cb a b 0 e v p.x rfl rfl HV a12 b12 (prow_below HPA.out p.hb) (prow_below HPB.out p.hb) RA.out RB.out)
    have C2 := Lib.hid (fun p : BlwBy wr => issep_is bo ao _ _ cb ca b a 1 e v p.x rfl rfl HV2 b12 a12 (prow_below HPB.out p.hb) (prow_below HPA.out p.hb) RB.out RA.out)
    clear hbw hls hlc hlm hlu hpa hpb B ZS ZC PA PB
    refine wb_region mixedP (by kernel_rfl) ?_
    repeat (refine wq_step (fun K hK => ?_); go_simp; first | (refine hK _ ?_; clear hK K) | (apply Exists.intro; refine ⟨fun _ => ?_, hK _ ?_⟩; (first | (go_at_call 29; first | with_reducible refine Calls.blw_of (C1.out _) | with_reducible refine Calls.blw_of (C2.out _))); clear hK K))
    refine wq_nil ?_
    intro _ hw'
    obtain ⟨pb, hw''⟩ := hw'
    subst hw''
    have HB5 := Lib.hid (HBW.out.trans (pb.hb.mono HBW.out.size))
    have HLC5 := Lib.hid (blk_call HLC.out pb.hb)
    have HLU5 := Lib.hid (blk_call HLU.out pb.hb)
    have HPA5 := Lib.hid (prow_below HPA.out pb.hb)
    have HPB5 := Lib.hid (prow_below HPB.out pb.hb)
    clear G0 G1 M0 M1 C1 C2 HBW HLC HLU HPA HPB
    obtain ⟨w5, hb5⟩ := pb
    change Hid (Below w.heap.size w w5) at HB5
    change Hid (w5.heap[w.heap.size + 1]? = _) at HLC5
    change Hid (w5.heap[w3.heap.size + 1]? = _) at HLU5
    change Hid (PRow w5 ao a) at HPA5
    change Hid (PRow w5 bo b) at HPB5
    dsimp only
    clear hb5
    go_upto_region 12 with fail
    have hlc := HLC5.out
    have hlu := HLU5.out
    have G0 := fun p => cell_blw (w := w5) (a := ⟨w.heap.size + 1, 0, none⟩) (blk_lt hlc) (blk_cell hlc 0 _ rfl) p
    have G1 := fun p => cell_blw (w := w5) (a := ⟨w.heap.size + 1, 1, none⟩) (blk_lt hlc) (blk_cell hlc 1 _ rfl) p
    have G2 := fun p => cell_blw (w := w5) (a := ⟨w.heap.size + 1, 2, none⟩) (blk_lt hlc) (blk_cell hlc 2 _ rfl) p
    have M0 := fun p => cell_blw (w := w5) (a := ⟨w3.heap.size + 1, 0, none⟩) (blk_lt hlu) (blk_cell hlu 0 _ rfl) p
    have M1 := fun p => cell_blw (w := w5) (a := ⟨w3.heap.size + 1, 1, none⟩) (blk_lt hlu) (blk_cell hlu 1 _ rfl) p
    have M2 := fun p => cell_blw (w := w5) (a := ⟨w3.heap.size + 1, 2, none⟩) (blk_lt hlu) (blk_cell hlu 2 _ rfl) p
    clear hlc hlu
    have P1 := Lib.hid (fun p : BlwBy w5 => polygons_is ao bo _ _ ca cb a b t p.x rfl rfl HP (by omega) (by omega) a12 b12 (prow_below HPA5.out p.hb) (prow_below HPB5.out p.hb) RA.out RB.out)
    have P2 := Lib.hid (fun p : BlwBy w5 => polygons_is bo ao _ _ cb ca b a t p.x rfl rfl HP2 (by omega) (by omega) b12 a12 (prow_below HPB5.out p.hb) (prow_below HPA5.out p.hb) RB.out RA.out)
    have I1 := Lib.hid (fun p : BlwBy w5 => iscon_is ao bo _ _ ca cb a b q i j s p.x rfl rfl HC (by omega) (by omega) a12 b12 (prow_below HPA5.out p.hb) (prow_below HPB5.out p.hb) RA.out RB.out)
    have I2 := Lib.hid (fun p : BlwBy w5 => iscon_is bo ao _ _ cb ca b a q j i s p.x rfl rfl HC2 (by omega) (by omega) b12 a12 (prow_below HPB5.out p.hb) (prow_below HPA5.out p.hb) RB.out RA.out)
    refine wb_region mixedP (by kernel_rfl) ?_
    repeat (refine wq_step (fun K hK => ?_); go_simp; first | (refine hK _ ?_; clear hK K) | (apply Exists.intro; refine ⟨fun _ => ?_, hK _ ?_⟩; (first | (go_at_call 28; first | with_reducible refine Calls.blw_of (P1.out _) | with_reducible refine Calls.blw_of (P2.out _)) | (go_at_call 31; first | with_reducible refine Calls.blw_of (I1.out _) | with_reducible refine Calls.blw_of (I2.out _))); clear hK K))
    refine wq_nil ?_
    intro _ hw'
    obtain ⟨pb, hw''⟩ := hw'
    subst hw''
    have HB6 := Lib.hid (HB5.out.trans (pb.hb.mono HB5.out.size))
    clear G0 G1 G2 M0 M1 M2 P1 P2 I1 I2
    go_wp2_with fail
    go_ret
    exact ⟨by simp, HB6.out⟩
  by_cases o1 : o = 1
  · subst o1
    have HV2 : Hid (isSepB b a 0 e = v) := Lib.hid (by rw [sep_sym1]; exact HV.out)
    by_cases g2 : q = 2
    · subst g2
      have HC2 : Hid (isConB b a 3 j i = s) := Lib.hid HC2.out
      have c0 := blk_cell ZS.out 0 _ rfl
      have c1 := blk_cell ZS.out 1 _ rfl
      have d0 := blk_cell ZC.out 0 _ rfl
      have d1 := blk_cell ZC.out 1 _ rfl
      have d2 := blk_cell ZC.out 2 _ rfl
      have zs := blk_lt ZS.out
      have zc := blk_lt ZC.out
      go_upto_region 10 with fail
      clear c0 c1 d0 d1 d2
      have hbw : Below w.heap.size w ((w3.alloc (.cells #[.int .i64 0, .int .i64 e] 35)).alloc (.cells #[.int .i64 3, .int .i64 j, .int .i64 i] 37)) := belA (belA B.out _) _
      have hls : ((w3.alloc (.cells #[.int .i64 0, .int .i64 e] 35)).alloc (.cells #[.int .i64 3, .int .i64 j, .int .i64 i] 37)).heap[w.heap.size]? = some (.cells #[.int .i64 1, .int .i64 e] 35 (0, 0)) := blk_alloc (blk_alloc ZS.out _) _
      have hlc : ((w3.alloc (.cells #[.int .i64 0, .int .i64 e] 35)).alloc (.cells #[.int .i64 3, .int .i64 j, .int .i64 i] 37)).heap[w.heap.size + 1]? = some (.cells #[.int .i64 2, .int .i64 i, .int .i64 j] 37 (0, 0)) := blk_alloc (blk_alloc ZC.out _) _
      have hlm : ((w3.alloc (.cells #[.int .i64 0, .int .i64 e] 35)).alloc (.cells #[.int .i64 3, .int .i64 j, .int .i64 i] 37)).heap[w3.heap.size]? = some (.cells #[.int .i64 0, .int .i64 e] 35 (0, 0)) := blk_alloc (blk_new _ _ _ rfl) _
      have hlu : ((w3.alloc (.cells #[.int .i64 0, .int .i64 e] 35)).alloc (.cells #[.int .i64 3, .int .i64 j, .int .i64 i] 37)).heap[w3.heap.size + 1]? = some (.cells #[.int .i64 3, .int .i64 j, .int .i64 i] 37 (0, 0)) := blk_new _ _ _ (by simp)
      have hpa := prow_alloc (prow_alloc PA.out (.cells #[.int .i64 0, .int .i64 e] 35)) (.cells #[.int .i64 3, .int .i64 j, .int .i64 i] 37)
      have hpb := prow_alloc (prow_alloc PB.out (.cells #[.int .i64 0, .int .i64 e] 35)) (.cells #[.int .i64 3, .int .i64 j, .int .i64 i] 37)
      generalize (w3.alloc (.cells #[.int .i64 0, .int .i64 e] 35)).alloc (.cells #[.int .i64 3, .int .i64 j, .int .i64 i] 37) = wr at *
      have G0 := fun p => cell_blw (w := wr) (a := ⟨w.heap.size, 0, none⟩) (blk_lt hls) (blk_cell hls 0 _ rfl) p
      have G1 := fun p => cell_blw (w := wr) (a := ⟨w.heap.size, 1, none⟩) (blk_lt hls) (blk_cell hls 1 _ rfl) p
      have M0 := fun p => cell_blw (w := wr) (a := ⟨w3.heap.size, 0, none⟩) (blk_lt hlm) (blk_cell hlm 0 _ rfl) p
      have M1 := fun p => cell_blw (w := wr) (a := ⟨w3.heap.size, 1, none⟩) (blk_lt hlm) (blk_cell hlm 1 _ rfl) p
      have HBW := Lib.hid hbw
      have HLC := Lib.hid hlc
      have HLU := Lib.hid hlu
      have HPA := Lib.hid hpa
      have HPB := Lib.hid hpb
      have C1 := Lib.hid (fun p : BlwBy wr => issep_is ao bo _ _ ca cb a b 1 e v p.x rfl rfl HV a12 b12 (prow_below HPA.out p.hb) (prow_below HPB.out p.hb) RA.out RB.out)
      have C2 := Lib.hid (fun p : BlwBy wr => issep_is bo ao _ _ cb ca b a 0 e v p.x rfl rfl HV2 b12 a12 (prow_below HPB.out p.hb) (prow_below HPA.out p.hb) RB.out RA.out)
      clear hbw hls hlc hlm hlu hpa hpb B ZS ZC PA PB
      refine wb_region mixedP (by kernel_rfl) ?_
      repeat (refine wq_step (fun K hK => ?_); go_simp; first | (refine hK _ ?_; clear hK K) | (apply Exists.intro; refine ⟨fun _ => ?_, hK _ ?_⟩; (first | (go_at_call 29; first | with_reducible refine Calls.blw_of (C1.out _) | with_reducible refine Calls.blw_of (C2.out _))); clear hK K))
      refine wq_nil ?_
      intro _ hw'
      obtain ⟨pb, hw''⟩ := hw'
      subst hw''
      have HB5 := Lib.hid (HBW.out.trans (pb.hb.mono HBW.out.size))
      have HLC5 := Lib.hid (blk_call HLC.out pb.hb)
      have HLU5 := Lib.hid (blk_call HLU.out pb.hb)
      have HPA5 := Lib.hid (prow_below HPA.out pb.hb)
      have HPB5 := Lib.hid (prow_below HPB.out pb.hb)
      clear G0 G1 M0 M1 C1 C2 HBW HLC HLU HPA HPB
      obtain ⟨w5, hb5⟩ := pb
      change Hid (Below w.heap.size w w5) at HB5
      change Hid (w5.heap[w.heap.size + 1]? = _) at HLC5
      change Hid (w5.heap[w3.heap.size + 1]? = _) at HLU5
      change Hid (PRow w5 ao a) at HPA5
      change Hid (PRow w5 bo b) at HPB5
      dsimp only
      clear hb5
      go_upto_region 12 with fail
      have hlc := HLC5.out
      have hlu := HLU5.out
      have G0 := fun p => cell_blw (w := w5) (a := ⟨w.heap.size + 1, 0, none⟩) (blk_lt hlc) (blk_cell hlc 0 _ rfl) p
      have G1 := fun p => cell_blw (w := w5) (a := ⟨w.heap.size + 1, 1, none⟩) (blk_lt hlc) (blk_cell hlc 1 _ rfl) p
      have G2 := fun p => cell_blw (w := w5) (a := ⟨w.heap.size + 1, 2, none⟩) (blk_lt hlc) (blk_cell hlc 2 _ rfl) p
      have M0 := fun p => cell_blw (w := w5) (a := ⟨w3.heap.size + 1, 0, none⟩) (blk_lt hlu) (blk_cell hlu 0 _ rfl) p
      have M1 := fun p => cell_blw (w := w5) (a := ⟨w3.heap.size + 1, 1, none⟩) (blk_lt hlu) (blk_cell hlu 1 _ rfl) p
      have M2 := fun p => cell_blw (w := w5) (a := ⟨w3.heap.size + 1, 2, none⟩) (blk_lt hlu) (blk_cell hlu 2 _ rfl) p
      clear hlc hlu
      have P1 := Lib.hid (fun p : BlwBy w5 => polygons_is ao bo _ _ ca cb a b t p.x rfl rfl HP (by omega) (by omega) a12 b12 (prow_below HPA5.out p.hb) (prow_below HPB5.out p.hb) RA.out RB.out)
      have P2 := Lib.hid (fun p : BlwBy w5 => polygons_is bo ao _ _ cb ca b a t p.x rfl rfl HP2 (by omega) (by omega) b12 a12 (prow_below HPB5.out p.hb) (prow_below HPA5.out p.hb) RB.out RA.out)
      have I1 := Lib.hid (fun p : BlwBy w5 => iscon_is ao bo _ _ ca cb a b 2 i j s p.x rfl rfl HC (by omega) (by omega) a12 b12 (prow_below HPA5.out p.hb) (prow_below HPB5.out p.hb) RA.out RB.out)
      have I2 := Lib.hid (fun p : BlwBy w5 => iscon_is bo ao _ _ cb ca b a 3 j i s p.x rfl rfl HC2 (by omega) (by omega) b12 a12 (prow_below HPB5.out p.hb) (prow_below HPA5.out p.hb) RB.out RA.out)
      refine wb_region mixedP (by kernel_rfl) ?_
      repeat (refine wq_step (fun K hK => ?_); go_simp; first | (refine hK _ ?_; clear hK K) | (apply Exists.intro; refine ⟨fun _ => ?_, hK _ ?_⟩; (first | (go_at_call 28; first | with_reducible refine Calls.blw_of (P1.out _) | with_reducible refine Calls.blw_of (P2.out _)) | (go_at_call 31; first | with_reducible refine Calls.blw_of (I1.out _) | with_reducible refine Calls.blw_of (I2.out _))); clear hK K))
      refine wq_nil ?_
      intro _ hw'
      obtain ⟨pb, hw''⟩ := hw'
      subst hw''
      have HB6 := Lib.hid (HB5.out.trans (pb.hb.mono HB5.out.size))
      clear G0 G1 G2 M0 M1 M2 P1 P2 I1 I2
      go_wp2_with fail
      go_ret
      exact ⟨by simp, HB6.out⟩
    by_cases g3 : q = 3
    · subst g3
      have HC2 : Hid (isConB b a 2 j i = s) := Lib.hid HC2.out
      have c0 := blk_cell ZS.out 0 _ rfl
      have c1 := blk_cell ZS.out 1 _ rfl
      have d0 := blk_cell ZC.out 0 _ rfl
      have d1 := blk_cell ZC.out 1 _ rfl
      have d2 := blk_cell ZC.out 2 _ rfl
      have zs := blk_lt ZS.out
      have zc := blk_lt ZC.out
      go_upto_region 10 with fail
      clear c0 c1 d0 d1 d2
      have hbw : Below w.heap.size w ((w3.alloc (.cells #[.int .i64 0, .int .i64 e] 35)).alloc (.cells #[.int .i64 2, .int .i64 j, .int .i64 i] 37)) := belA (belA B.out _) _
      have hls : ((w3.alloc (.cells #[.int .i64 0, .int .i64 e] 35)).alloc (.cells #[.int .i64 2, .int .i64 j, .int .i64 i] 37)).heap[w.heap.size]? = some (.cells #[.int .i64 1, .int .i64 e] 35 (0, 0)) := blk_alloc (blk_alloc ZS.out _) _
      have hlc : ((w3.alloc (.cells #[.int .i64 0, .int .i64 e] 35)).alloc (.cells #[.int .i64 2, .int .i64 j, .int .i64 i] 37)).heap[w.heap.size + 1]? = some (.cells #[.int .i64 3, .int .i64 i, .int .i64 j] 37 (0, 0)) := blk_alloc (blk_alloc ZC.out _) _
      have hlm : ((w3.alloc (.cells #[.int .i64 0, .int .i64 e] 35)).alloc (.cells #[.int .i64 2, .int .i64 j, .int .i64 i] 37)).heap[w3.heap.size]? = some (.cells #[.int .i64 0, .int .i64 e] 35 (0, 0)) := blk_alloc (blk_new _ _ _ rfl) _
      have hlu : ((w3.alloc (.cells #[.int .i64 0, .int .i64 e] 35)).alloc (.cells #[.int .i64 2, .int .i64 j, .int .i64 i] 37)).heap[w3.heap.size + 1]? = some (.cells #[.int .i64 2, .int .i64 j, .int .i64 i] 37 (0, 0)) := blk_new _ _ _ (by simp)
      have hpa := prow_alloc (prow_alloc PA.out (.cells #[.int .i64 0, .int .i64 e] 35)) (.cells #[.int .i64 2, .int .i64 j, .int .i64 i] 37)
      have hpb := prow_alloc (prow_alloc PB.out (.cells #[.int .i64 0, .int .i64 e] 35)) (.cells #[.int .i64 2, .int .i64 j, .int .i64 i] 37)
      generalize (w3.alloc (.cells #[.int .i64 0, .int .i64 e] 35)).alloc (.cells #[.int .i64 2, .int .i64 j, .int .i64 i] 37) = wr at *
      have G0 := fun p => cell_blw (w := wr) (a := ⟨w.heap.size, 0, none⟩) (blk_lt hls) (blk_cell hls 0 _ rfl) p
      have G1 := fun p => cell_blw (w := wr) (a := ⟨w.heap.size, 1, none⟩) (blk_lt hls) (blk_cell hls 1 _ rfl) p
      have M0 := fun p => cell_blw (w := wr) (a := ⟨w3.heap.size, 0, none⟩) (blk_lt hlm) (blk_cell hlm 0 _ rfl) p
      have M1 := fun p => cell_blw (w := wr) (a := ⟨w3.heap.size, 1, none⟩) (blk_lt hlm) (blk_cell hlm 1 _ rfl) p
      have HBW := Lib.hid hbw
      have HLC := Lib.hid hlc
      have HLU := Lib.hid hlu
      have HPA := Lib.hid hpa
      have HPB := Lib.hid hpb
      have C1 := Lib.hid (fun p : BlwBy wr => issep_is ao bo _ _ ca cb a b 1 e v p.x rfl rfl HV a12 b12 (prow_below HPA.out p.hb) (prow_below HPB.out p.hb) RA.out RB.out)
      have C2 := Lib.hid (fun p : BlwBy wr => issep_is bo ao _ _ cb ca b a 0 e v p.x rfl rfl HV2 b12 a12 (prow_below HPB.out p.hb) (prow_below HPA.out p.hb) RB.out RA.out)
      clear hbw hls hlc hlm hlu hpa hpb B ZS ZC PA PB
      refine wb_region mixedP (by kernel_rfl) ?_
      repeat (refine wq_step (fun K hK => ?_); go_simp; first | (refine hK _ ?_; clear hK K) | (apply Exists.intro; refine ⟨fun _ => ?_, hK _ ?_⟩; (first | (go_at_call 29; first | with_reducible refine Calls.blw_of (C1.out _) | with_reducible refine Calls.blw_of (C2.out _))); clear hK K))
      refine wq_nil ?_
      intro _ hw'
      obtain ⟨pb, hw''⟩ := hw'
      subst hw''
      have HB5 := Lib.hid (HBW.out.trans (pb.hb.mono HBW.out.size))
      have HLC5 := Lib.hid (blk_call HLC.out pb.hb)
      have HLU5 := Lib.hid (blk_call HLU.out pb.hb)
      have HPA5 := Lib.hid (prow_below HPA.out pb.hb)
      have HPB5 := Lib.hid (prow_below HPB.out pb.hb)
      clear G0 G1 M0 M1 C1 C2 HBW HLC HLU HPA HPB
      obtain ⟨w5, hb5⟩ := pb
      change Hid (Below w.heap.size w w5) at HB5
      change Hid (w5.heap[w.heap.size + 1]? = _) at HLC5
      change Hid (w5.heap[w3.heap.size + 1]? = _) at HLU5
      change Hid (PRow w5 ao a) at HPA5
      change Hid (PRow w5 bo b) at HPB5
      dsimp only
      clear hb5
      go_upto_region 12 with fail
      have hlc := HLC5.out
      have hlu := HLU5.out
      have G0 := fun p => cell_blw (w := w5) (a := ⟨w.heap.size + 1, 0, none⟩) (blk_lt hlc) (blk_cell hlc 0 _ rfl) p
      have G1 := fun p => cell_blw (w := w5) (a := ⟨w.heap.size + 1, 1, none⟩) (blk_lt hlc) (blk_cell hlc 1 _ rfl) p
      have G2 := fun p => cell_blw (w := w5) (a := ⟨w.heap.size + 1, 2, none⟩) (blk_lt hlc) (blk_cell hlc 2 _ rfl) p
      have M0 := fun p => cell_blw (w := w5) (a := ⟨w3.heap.size + 1, 0, none⟩) (blk_lt hlu) (blk_cell hlu 0 _ rfl) p
      have M1 := fun p => cell_blw (w := w5) (a := ⟨w3.heap.size + 1, 1, none⟩) (blk_lt hlu) (blk_cell hlu 1 _ rfl) p
      have M2 := fun p => cell_blw (w := w5) (a := ⟨w3.heap.size + 1, 2, none⟩) (blk_lt hlu) (blk_cell hlu 2 _ rfl) p
      clear hlc hlu
      have P1 := Lib.hid (fun p : BlwBy w5 => polygons_is ao bo _ _ ca cb a b t p.x rfl rfl HP (by omega) (by omega) a12 b12 (prow_below HPA5.out p.hb) (prow_below HPB5.out p.hb) RA.out RB.out)
      have P2 := Lib.hid (fun p : BlwBy w5 => polygons_is bo ao _ _ cb ca b a t p.x rfl rfl HP2 (by omega) (by omega) b12 a12 (prow_below HPB5.out p.hb) (prow_below HPA5.out p.hb) RB.out RA.out)
      have I1 := Lib.hid (fun p : BlwBy w5 => iscon_is ao bo _ _ ca cb a b 3 i j s p.x rfl rfl HC (by omega) (by omega) a12 b12 (prow_below HPA5.out p.hb) (prow_below HPB5.out p.hb) RA.out RB.out)
      have I2 := Lib.hid (fun p : BlwBy w5 => iscon_is bo ao _ _ cb ca b a 2 j i s p.x rfl rfl HC2 (by omega) (by omega) b12 a12 (prow_below HPB5.out p.hb) (prow_below HPA5.out p.hb) RB.out RA.out)
      refine wb_region mixedP (by kernel_rfl) ?_
      repeat (refine wq_step (fun K hK => ?_); go_simp; first | (refine hK _ ?_; clear hK K) | (apply Exists.intro; refine ⟨fun _ => ?_, hK _ ?_⟩; (first | (go_at_call 28; first | with_reducible refine Calls.blw_of (P1.out _) | with_reducible refine Calls.blw_of (P2.out _)) | (go_at_call 31; first | with_reducible refine Calls.blw_of (I1.out _) | with_reducible refine Calls.blw_of (I2.out _))); clear hK K))
      refine wq_nil ?_
      intro _ hw'
      obtain ⟨pb, hw''⟩ := hw'
      subst hw''
      have HB6 := Lib.hid (HB5.out.trans (pb.hb.mono HB5.out.size))
      clear G0 G1 G2 M0 M1 M2 P1 P2 I1 I2
      go_wp2_with fail
      go_ret
      exact ⟨by simp, HB6.out⟩
    have HC2 : Hid (isConB b a q j i = s) := Lib.hid (by have := HC2.out; unfold kindS at this; rw [if_neg g2, if_neg g3] at this; exact this)
    have c0 := blk_cell ZS.out 0 _ rfl
    have c1 := blk_cell ZS.out 1 _ rfl
    have d0 := blk_cell ZC.out 0 _ rfl
    have d1 := blk_cell ZC.out 1 _ rfl
    have d2 := blk_cell ZC.out 2 _ rfl
    have zs := blk_lt ZS.out
    have zc := blk_lt ZC.out
    go_upto_region 10 with fail
    clear c0 c1 d0 d1 d2
    have hbw : Below w.heap.size w ((w3.alloc (.cells #[.int .i64 0, .int .i64 e] 35)).alloc (.cells #[.int .i64 q, .int .i64 j, .int .i64 i] 37)) := belA (belA B.out _) _
    have hls : ((w3.alloc (.cells #[.int .i64 0, .int .i64 e] 35)).alloc (.cells #[.int .i64 q, .int .i64 j, .int .i64 i] 37)).heap[w.heap.size]? = some (.cells #[.int .i64 1, .int .i64 e] 35 (0, 0)) := blk_alloc (blk_alloc ZS.out _) _
    have hlc : ((w3.alloc (.cells #[.int .i64 0, .int .i64 e] 35)).alloc (.cells #[.int .i64 q, .int .i64 j, .int .i64 i] 37)).heap[w.heap.size + 1]? = some (.cells #[.int .i64 q, .int .i64 i, .int .i64 j] 37 (0, 0)) := blk_alloc (blk_alloc ZC.out _) _
    have hlm : ((w3.alloc (.cells #[.int .i64 0, .int .i64 e] 35)).alloc (.cells #[.int .i64 q, .int .i64 j, .int .i64 i] 37)).heap[w3.heap.size]? = some (.cells #[.int .i64 0, .int .i64 e] 35 (0, 0)) := blk_alloc (blk_new _ _ _ rfl) _
    have hlu : ((w3.alloc (.cells #[.int .i64 0, .int .i64 e] 35)).alloc (.cells #[.int .i64 q, .int .i64 j, .int .i64 i] 37)).heap[w3.heap.size + 1]? = some (.cells #[.int .i64 q, .int .i64 j, .int .i64 i] 37 (0, 0)) := blk_new _ _ _ (by simp)
    have hpa := prow_alloc (prow_alloc PA.out (.cells #[.int .i64 0, .int .i64 e] 35)) (.cells #[.int .i64 q, .int .i64 j, .int .i64 i] 37)
    have hpb := prow_alloc (prow_alloc PB.out (.cells #[.int .i64 0, .int .i64 e] 35)) (.cells #[.int .i64 q, .int .i64 j, .int .i64 i] 37)
    generalize (w3.alloc (.cells #[.int .i64 0, .int .i64 e] 35)).alloc (.cells #[.int .i64 q, .int .i64 j, .int .i64 i] 37) = wr at *
    have G0 := fun p => cell_blw (w := wr) (a := ⟨w.heap.size, 0, none⟩) (blk_lt hls) (blk_cell hls 0 _ rfl) p
    have G1 := fun p => cell_blw (w := wr) (a := ⟨w.heap.size, 1, none⟩) (blk_lt hls) (blk_cell hls 1 _ rfl) p
    have M0 := fun p => cell_blw (w := wr) (a := ⟨w3.heap.size, 0, none⟩) (blk_lt hlm) (blk_cell hlm 0 _ rfl) p
    have M1 := fun p => cell_blw (w := wr) (a := ⟨w3.heap.size, 1, none⟩) (blk_lt hlm) (blk_cell hlm 1 _ rfl) p
    have HBW := Lib.hid hbw
    have HLC := Lib.hid hlc
    have HLU := Lib.hid hlu
    have HPA := Lib.hid hpa
    have HPB := Lib.hid hpb
    have C1 := Lib.hid (fun p : BlwBy wr => issep_is ao bo _ _ ca cb a b 1 e v p.x rfl rfl HV a12 b12 (prow_below HPA.out p.hb) (prow_below HPB.out p.hb) RA.out RB.out)
    have C2 := Lib.hid (fun p : BlwBy wr => issep_is bo ao _ _ cb ca b a 0 e v p.x rfl rfl HV2 b12 a12 (prow_below HPB.out p.hb) (prow_below HPA.out p.hb) RB.out RA.out)
    clear hbw hls hlc hlm hlu hpa hpb B ZS ZC PA PB
    refine wb_region mixedP (by kernel_rfl) ?_
    repeat (refine wq_step (fun K hK => ?_); go_simp; first | (refine hK _ ?_; clear hK K) | (apply Exists.intro; refine ⟨fun _ => ?_, hK _ ?_⟩; (first | (go_at_call 29; first | with_reducible refine Calls.blw_of (C1.out _) | with_reducible refine Calls.blw_of (C2.out _))); clear hK K))
    refine wq_nil ?_
    intro _ hw'
    obtain ⟨pb, hw''⟩ := hw'
    subst hw''
    have HB5 := Lib.hid (HBW.out.trans (pb.hb.mono HBW.out.size))
    have HLC5 := Lib.hid (blk_call HLC.out pb.hb)
    have HLU5 := Lib.hid (blk_call HLU.out pb.hb)
    have HPA5 := Lib.hid (prow_below HPA.out pb.hb)
    have HPB5 := Lib.hid (prow_below HPB.out pb.hb)
    clear G0 G1 M0 M1 C1 C2 HBW HLC HLU HPA HPB
    obtain ⟨w5, hb5⟩ := pb
    change Hid (Below w.heap.size w w5) at HB5
    change Hid (w5.heap[w.heap.size + 1]? = _) at HLC5
    change Hid (w5.heap[w3.heap.size + 1]? = _) at HLU5
    change Hid (PRow w5 ao a) at HPA5
    change Hid (PRow w5 bo b) at HPB5
    dsimp only
    clear hb5
    go_upto_region 12 with fail
    have hlc := HLC5.out
    have hlu := HLU5.out
    have G0 := fun p => cell_blw (w := w5) (a := ⟨w.heap.size + 1, 0, none⟩) (blk_lt hlc) (blk_cell hlc 0 _ rfl) p
    have G1 := fun p => cell_blw (w := w5) (a := ⟨w.heap.size + 1, 1, none⟩) (blk_lt hlc) (blk_cell hlc 1 _ rfl) p
    have G2 := fun p => cell_blw (w := w5) (a := ⟨w.heap.size + 1, 2, none⟩) (blk_lt hlc) (blk_cell hlc 2 _ rfl) p
    have M0 := fun p => cell_blw (w := w5) (a := ⟨w3.heap.size + 1, 0, none⟩) (blk_lt hlu) (blk_cell hlu 0 _ rfl) p
    have M1 := fun p => cell_blw (w := w5) (a := ⟨w3.heap.size + 1, 1, none⟩) (blk_lt hlu) (blk_cell hlu 1 _ rfl) p
    have M2 := fun p => cell_blw (w := w5) (a := ⟨w3.heap.size + 1, 2, none⟩) (blk_lt hlu) (blk_cell hlu 2 _ rfl) p
    clear hlc hlu
    have P1 := Lib.hid (fun p : BlwBy w5 => polygons_is ao bo _ _ ca cb a b t p.x rfl rfl HP (by omega) (by omega) a12 b12 (prow_below HPA5.out p.hb) (prow_below HPB5.out p.hb) RA.out RB.out)
    have P2 := Lib.hid (fun p : BlwBy w5 => polygons_is bo ao _ _ cb ca b a t p.x rfl rfl HP2 (by omega) (by omega) b12 a12 (prow_below HPB5.out p.hb) (prow_below HPA5.out p.hb) RB.out RA.out)
    have I1 := Lib.hid (fun p : BlwBy w5 => iscon_is ao bo _ _ ca cb a b q i j s p.x rfl rfl HC (by omega) (by omega) a12 b12 (prow_below HPA5.out p.hb) (prow_below HPB5.out p.hb) RA.out RB.out)
    have I2 := Lib.hid (fun p : BlwBy w5 => iscon_is bo ao _ _ cb ca b a q j i s p.x rfl rfl HC2 (by omega) (by omega) b12 a12 (prow_below HPB5.out p.hb) (prow_below HPA5.out p.hb) RB.out RA.out)
    refine wb_region mixedP (by kernel_rfl) ?_
    repeat (refine wq_step (fun K hK => ?_); go_simp; first | (refine hK _ ?_; clear hK K) | (apply Exists.intro; refine ⟨fun _ => ?_, hK _ ?_⟩; (first | (go_at_call 28; first | with_reducible refine Calls.blw_of (P1.out _) | with_reducible refine Calls.blw_of (P2.out _)) | (go_at_call 31; first | with_reducible refine Calls.blw_of (I1.out _) | with_reducible refine Calls.blw_of (I2.out _))); clear hK K))
    refine wq_nil ?_
    intro _ hw'
    obtain ⟨pb, hw''⟩ := hw'
    subst hw''
    have HB6 := Lib.hid (HB5.out.trans (pb.hb.mono HB5.out.size))
    clear G0 G1 G2 M0 M1 M2 P1 P2 I1 I2
    go_wp2_with fail
    go_ret
    exact ⟨by simp, HB6.out⟩
  obtain ⟨m, hm⟩ : ∃ m, IntKind.i64.wrap (1 - o) = m := ⟨_, rfl⟩
  by_cases on : 0 ≤ o
  · have o2 : ¬ o ≤ 1 := by omega
    have o3 : decide (o ≤ 1) = false := decide_eq_false o2
    by_cases g2 : q = 2
    · subst g2
      have HC2 : Hid (isConB b a 3 j i = s) := Lib.hid HC2.out
      have c0 := blk_cell ZS.out 0 _ rfl
      have c1 := blk_cell ZS.out 1 _ rfl
      have d0 := blk_cell ZC.out 0 _ rfl
      have d1 := blk_cell ZC.out 1 _ rfl
      have d2 := blk_cell ZC.out 2 _ rfl
      have zs := blk_lt ZS.out
      have zc := blk_lt ZC.out
      go_upto_region 10 with fail
      clear c0 c1 d0 d1 d2
      have hbw : Below w.heap.size w ((w3.alloc (.cells #[.int .i64 m, .int .i64 e] 35)).alloc (.cells #[.int .i64 3, .int .i64 j, .int .i64 i] 37)) := belA (belA B.out _) _
      have hls : ((w3.alloc (.cells #[.int .i64 m, .int .i64 e] 35)).alloc (.cells #[.int .i64 3, .int .i64 j, .int .i64 i] 37)).heap[w.heap.size]? = some (.cells #[.int .i64 o, .int .i64 e] 35 (0, 0)) := blk_alloc (blk_alloc ZS.out _) _
      have hlc : ((w3.alloc (.cells #[.int .i64 m, .int .i64 e] 35)).alloc (.cells #[.int .i64 3, .int .i64 j, .int .i64 i] 37)).heap[w.heap.size + 1]? = some (.cells #[.int .i64 2, .int .i64 i, .int .i64 j] 37 (0, 0)) := blk_alloc (blk_alloc ZC.out _) _
      have hlm : ((w3.alloc (.cells #[.int .i64 m, .int .i64 e] 35)).alloc (.cells #[.int .i64 3, .int .i64 j, .int .i64 i] 37)).heap[w3.heap.size]? = some (.cells #[.int .i64 m, .int .i64 e] 35 (0, 0)) := blk_alloc (blk_new _ _ _ rfl) _
      have hlu : ((w3.alloc (.cells #[.int .i64 m, .int .i64 e] 35)).alloc (.cells #[.int .i64 3, .int .i64 j, .int .i64 i] 37)).heap[w3.heap.size + 1]? = some (.cells #[.int .i64 3, .int .i64 j, .int .i64 i] 37 (0, 0)) := blk_new _ _ _ (by simp)
      have hpa := prow_alloc (prow_alloc PA.out (.cells #[.int .i64 m, .int .i64 e] 35)) (.cells #[.int .i64 3, .int .i64 j, .int .i64 i] 37)
      have hpb := prow_alloc (prow_alloc PB.out (.cells #[.int .i64 m, .int .i64 e] 35)) (.cells #[.int .i64 3, .int .i64 j, .int .i64 i] 37)
      generalize (w3.alloc (.cells #[.int .i64 m, .int .i64 e] 35)).alloc (.cells #[.int .i64 3, .int .i64 j, .int .i64 i] 37) = wr at *
      have G0 := fun p => cell_blw (w := wr) (a := ⟨w.heap.size, 0, none⟩) (blk_lt hls) (blk_cell hls 0 _ rfl) p
      have G1 := fun p => cell_blw (w := wr) (a := ⟨w.heap.size, 1, none⟩) (blk_lt hls) (blk_cell hls 1 _ rfl) p
      have M0 := fun p => cell_blw (w := wr) (a := ⟨w3.heap.size, 0, none⟩) (blk_lt hlm) (blk_cell hlm 0 _ rfl) p
      have M1 := fun p => cell_blw (w := wr) (a := ⟨w3.heap.size, 1, none⟩) (blk_lt hlm) (blk_cell hlm 1 _ rfl) p
      have HBW := Lib.hid hbw
      have HLC := Lib.hid hlc
      have HLU := Lib.hid hlu
      have HPA := Lib.hid hpa
      have HPB := Lib.hid hpb
      clear hbw hls hlc hlm hlu hpa hpb B ZS ZC PA PB
      refine wb_region mixedP (by kernel_rfl) ?_
      repeat (refine wq_step (fun K hK => ?_); go_simp; first | (refine hK _ ?_; clear hK K) | (apply Exists.intro; refine ⟨fun _ => ?_, hK _ ?_⟩; (fail); clear hK K))
      refine wq_nil ?_
      intro _ hw'
      obtain ⟨pb, hw''⟩ := hw'
      subst hw''
      have HB5 := Lib.hid (HBW.out.trans (pb.hb.mono HBW.out.size))
      have HLC5 := Lib.hid (blk_call HLC.out pb.hb)
      have HLU5 := Lib.hid (blk_call HLU.out pb.hb)
      have HPA5 := Lib.hid (prow_below HPA.out pb.hb)
      have HPB5 := Lib.hid (prow_below HPB.out pb.hb)
      clear G0 G1 M0 M1 HBW HLC HLU HPA HPB
      obtain ⟨w5, hb5⟩ := pb
      change Hid (Below w.heap.size w w5) at HB5
      change Hid (w5.heap[w.heap.size + 1]? = _) at HLC5
      change Hid (w5.heap[w3.heap.size + 1]? = _) at HLU5
      change Hid (PRow w5 ao a) at HPA5
      change Hid (PRow w5 bo b) at HPB5
      dsimp only
      clear hb5
      go_upto_region 12 with fail
      have hlc := HLC5.out
      have hlu := HLU5.out
      have G0 := fun p => cell_blw (w := w5) (a := ⟨w.heap.size + 1, 0, none⟩) (blk_lt hlc) (blk_cell hlc 0 _ rfl) p
      have G1 := fun p => cell_blw (w := w5) (a := ⟨w.heap.size + 1, 1, none⟩) (blk_lt hlc) (blk_cell hlc 1 _ rfl) p
      have G2 := fun p => cell_blw (w := w5) (a := ⟨w.heap.size + 1, 2, none⟩) (blk_lt hlc) (blk_cell hlc 2 _ rfl) p
      have M0 := fun p => cell_blw (w := w5) (a := ⟨w3.heap.size + 1, 0, none⟩) (blk_lt hlu) (blk_cell hlu 0 _ rfl) p
      have M1 := fun p => cell_blw (w := w5) (a := ⟨w3.heap.size + 1, 1, none⟩) (blk_lt hlu) (blk_cell hlu 1 _ rfl) p
      have M2 := fun p => cell_blw (w := w5) (a := ⟨w3.heap.size + 1, 2, none⟩) (blk_lt hlu) (blk_cell hlu 2 _ rfl) p
      clear hlc hlu
      have P1 := Lib.hid (fun p : BlwBy w5 => polygons_is ao bo _ _ ca cb a b t p.x rfl rfl HP (by omega) (by omega) a12 b12 (prow_below HPA5.out p.hb) (prow_below HPB5.out p.hb) RA.out RB.out)
      have P2 := Lib.hid (fun p : BlwBy w5 => polygons_is bo ao _ _ cb ca b a t p.x rfl rfl HP2 (by omega) (by omega) b12 a12 (prow_below HPB5.out p.hb) (prow_below HPA5.out p.hb) RB.out RA.out)
      have I1 := Lib.hid (fun p : BlwBy w5 => iscon_is ao bo _ _ ca cb a b 2 i j s p.x rfl rfl HC (by omega) (by omega) a12 b12 (prow_below HPA5.out p.hb) (prow_below HPB5.out p.hb) RA.out RB.out)
      have I2 := Lib.hid (fun p : BlwBy w5 => iscon_is bo ao _ _ cb ca b a 3 j i s p.x rfl rfl HC2 (by omega) (by omega) b12 a12 (prow_below HPB5.out p.hb) (prow_below HPA5.out p.hb) RB.out RA.out)
      refine wb_region mixedP (by kernel_rfl) ?_
      repeat (refine wq_step (fun K hK => ?_); go_simp; first | (refine hK _ ?_; clear hK K) | (apply Exists.intro; refine ⟨fun _ => ?_, hK _ ?_⟩; (first | (go_at_call 28; first | with_reducible refine Calls.blw_of (P1.out _) | with_reducible refine Calls.blw_of (P2.out _)) | (go_at_call 31; first | with_reducible refine Calls.blw_of (I1.out _) | with_reducible refine Calls.blw_of (I2.out _))); clear hK K))
      refine wq_nil ?_
      intro _ hw'
      obtain ⟨pb, hw''⟩ := hw'
      subst hw''
      have HB6 := Lib.hid (HB5.out.trans (pb.hb.mono HB5.out.size))
      clear G0 G1 G2 M0 M1 M2 P1 P2 I1 I2
      go_wp2_with fail
      go_ret
      exact ⟨by simp, HB6.out⟩
    by_cases g3 : q = 3
    · subst g3
      have HC2 : Hid (isConB b a 2 j i = s) := Lib.hid HC2.out
      have c0 := blk_cell ZS.out 0 _ rfl
      have c1 := blk_cell ZS.out 1 _ rfl
      have d0 := blk_cell ZC.out 0 _ rfl
      have d1 := blk_cell ZC.out 1 _ rfl
      have d2 := blk_cell ZC.out 2 _ rfl
      have zs := blk_lt ZS.out
      have zc := blk_lt ZC.out
      go_upto_region 10 with fail
      clear c0 c1 d0 d1 d2
      have hbw : Below w.heap.size w ((w3.alloc (.cells #[.int .i64 m, .int .i64 e] 35)).alloc (.cells #[.int .i64 2, .int .i64 j, .int .i64 i] 37)) := belA (belA B.out _) _
      have hls : ((w3.alloc (.cells #[.int .i64 m, .int .i64 e] 35)).alloc (.cells #[.int .i64 2, .int .i64 j, .int .i64 i] 37)).heap[w.heap.size]? = some (.cells #[.int .i64 o, .int .i64 e] 35 (0, 0)) := blk_alloc (blk_alloc ZS.out _) _
      have hlc : ((w3.alloc (.cells #[.int .i64 m, .int .i64 e] 35)).alloc (.cells #[.int .i64 2, .int .i64 j, .int .i64 i] 37)).heap[w.heap.size + 1]? = some (.cells #[.int .i64 3, .int .i64 i, .int .i64 j] 37 (0, 0)) := blk_alloc (blk_alloc ZC.out _) _
      have hlm : ((w3.alloc (.cells #[.int .i64 m, .int .i64 e] 35)).alloc (.cells #[.int .i64 2, .int .i64 j, .int .i64 i] 37)).heap[w3.heap.size]? = some (.cells #[.int .i64 m, .int .i64 e] 35 (0, 0)) := blk_alloc (blk_new _ _ _ rfl) _
      have hlu : ((w3.alloc (.cells #[.int .i64 m, .int .i64 e] 35)).alloc (.cells #[.int .i64 2, .int .i64 j, .int .i64 i] 37)).heap[w3.heap.size + 1]? = some (.cells #[.int .i64 2, .int .i64 j, .int .i64 i] 37 (0, 0)) := blk_new _ _ _ (by simp)
      have hpa := prow_alloc (prow_alloc PA.out (.cells #[.int .i64 m, .int .i64 e] 35)) (.cells #[.int .i64 2, .int .i64 j, .int .i64 i] 37)
      have hpb := prow_alloc (prow_alloc PB.out (.cells #[.int .i64 m, .int .i64 e] 35)) (.cells #[.int .i64 2, .int .i64 j, .int .i64 i] 37)
      generalize (w3.alloc (.cells #[.int .i64 m, .int .i64 e] 35)).alloc (.cells #[.int .i64 2, .int .i64 j, .int .i64 i] 37) = wr at *
      have G0 := fun p => cell_blw (w := wr) (a := ⟨w.heap.size, 0, none⟩) (blk_lt hls) (blk_cell hls 0 _ rfl) p
      have G1 := fun p => cell_blw (w := wr) (a := ⟨w.heap.size, 1, none⟩) (blk_lt hls) (blk_cell hls 1 _ rfl) p
      have M0 := fun p => cell_blw (w := wr) (a := ⟨w3.heap.size, 0, none⟩) (blk_lt hlm) (blk_cell hlm 0 _ rfl) p
      have M1 := fun p => cell_blw (w := wr) (a := ⟨w3.heap.size, 1, none⟩) (blk_lt hlm) (blk_cell hlm 1 _ rfl) p
      have HBW := Lib.hid hbw
      have HLC := Lib.hid hlc
      have HLU := Lib.hid hlu
      have HPA := Lib.hid hpa
      have HPB := Lib.hid hpb
      clear hbw hls hlc hlm hlu hpa hpb B ZS ZC PA PB
      refine wb_region mixedP (by kernel_rfl) ?_
      repeat (refine wq_step (fun K hK => ?_); go_simp; first | (refine hK _ ?_; clear hK K) | (apply Exists.intro; refine ⟨fun _ => ?_, hK _ ?_⟩; (fail); clear hK K))
      refine wq_nil ?_
      intro _ hw'
      obtain ⟨pb, hw''⟩ := hw'
      subst hw''
      have HB5 := Lib.hid (HBW.out.trans (pb.hb.mono HBW.out.size))
      have HLC5 := Lib.hid (blk_call HLC.out pb.hb)
      have HLU5 := Lib.hid (blk_call HLU.out pb.hb)
      have HPA5 := Lib.hid (prow_below HPA.out pb.hb)
      have HPB5 := Lib.hid (prow_below HPB.out pb.hb)
      clear G0 G1 M0 M1 HBW HLC HLU HPA HPB
      obtain ⟨w5, hb5⟩ := pb
      change Hid (Below w.heap.size w w5) at HB5
      change Hid (w5.heap[w.heap.size + 1]? = _) at HLC5
      change Hid (w5.heap[w3.heap.size + 1]? = _) at HLU5
      change Hid (PRow w5 ao a) at HPA5
      change Hid (PRow w5 bo b) at HPB5
      dsimp only
      clear hb5
      go_upto_region 12 with fail
      have hlc := HLC5.out
      have hlu := HLU5.out
      have G0 := fun p => cell_blw (w := w5) (a := ⟨w.heap.size + 1, 0, none⟩) (blk_lt hlc) (blk_cell hlc 0 _ rfl) p
      have G1 := fun p => cell_blw (w := w5) (a := ⟨w.heap.size + 1, 1, none⟩) (blk_lt hlc) (blk_cell hlc 1 _ rfl) p
      have G2 := fun p => cell_blw (w := w5) (a := ⟨w.heap.size + 1, 2, none⟩) (blk_lt hlc) (blk_cell hlc 2 _ rfl) p
      have M0 := fun p => cell_blw (w := w5) (a := ⟨w3.heap.size + 1, 0, none⟩) (blk_lt hlu) (blk_cell hlu 0 _ rfl) p
      have M1 := fun p => cell_blw (w := w5) (a := ⟨w3.heap.size + 1, 1, none⟩) (blk_lt hlu) (blk_cell hlu 1 _ rfl) p
      have M2 := fun p => cell_blw (w := w5) (a := ⟨w3.heap.size + 1, 2, none⟩) (blk_lt hlu) (blk_cell hlu 2 _ rfl) p
      clear hlc hlu
      have P1 := Lib.hid (fun p : BlwBy w5 => polygons_is ao bo _ _ ca cb a b t p.x rfl rfl HP (by omega) (by omega) a12 b12 (prow_below HPA5.out p.hb) (prow_below HPB5.out p.hb) RA.out RB.out)
      have P2 := Lib.hid (fun p : BlwBy w5 => polygons_is bo ao _ _ cb ca b a t p.x rfl rfl HP2 (by omega) (by omega) b12 a12 (prow_below HPB5.out p.hb) (prow_below HPA5.out p.hb) RB.out RA.out)
      have I1 := Lib.hid (fun p : BlwBy w5 => iscon_is ao bo _ _ ca cb a b 3 i j s p.x rfl rfl HC (by omega) (by omega) a12 b12 (prow_below HPA5.out p.hb) (prow_below HPB5.out p.hb) RA.out RB.out)
      have I2 := Lib.hid (fun p : BlwBy w5 => iscon_is bo ao _ _ cb ca b a 2 j i s p.x rfl rfl HC2 (by omega) (by omega) b12 a12 (prow_below HPB5.out p.hb) (prow_below HPA5.out p.hb) RB.out RA.out)
      refine wb_region mixedP (by kernel_rfl) ?_
      repeat (refine wq_step (fun K hK => ?_); go_simp; first | (refine hK _ ?_; clear hK K) | (apply Exists.intro; refine ⟨fun _ => ?_, hK _ ?_⟩; (first | (go_at_call 28; first | with_reducible refine Calls.blw_of (P1.out _) | with_reducible refine Calls.blw_of (P2.out _)) | (go_at_call 31; first | with_reducible refine Calls.blw_of (I1.out _) | with_reducible refine Calls.blw_of (I2.out _))); clear hK K))
      refine wq_nil ?_
      intro _ hw'
      obtain ⟨pb, hw''⟩ := hw'
      subst hw''
      have HB6 := Lib.hid (HB5.out.trans (pb.hb.mono HB5.out.size))
      clear G0 G1 G2 M0 M1 M2 P1 P2 I1 I2
      go_wp2_with fail
      go_ret
      exact ⟨by simp, HB6.out⟩
    have HC2 : Hid (isConB b a q j i = s) := Lib.hid (by have := HC2.out; unfold kindS at this; rw [if_neg g2, if_neg g3] at this; exact this)
    have c0 := blk_cell ZS.out 0 _ rfl
    have c1 := blk_cell ZS.out 1 _ rfl
    have d0 := blk_cell ZC.out 0 _ rfl
    have d1 := blk_cell ZC.out 1 _ rfl
    have d2 := blk_cell ZC.out 2 _ rfl
    have zs := blk_lt ZS.out
    have zc := blk_lt ZC.out
    go_upto_region 10 with fail
    clear c0 c1 d0 d1 d2
    have hbw : Below w.heap.size w ((w3.alloc (.cells #[.int .i64 m, .int .i64 e] 35)).alloc (.cells #[.int .i64 q, .int .i64 j, .int .i64 i] 37)) := belA (belA B.out _) _
    have hls : ((w3.alloc (.cells #[.int .i64 m, .int .i64 e] 35)).alloc (.cells #[.int .i64 q, .int .i64 j, .int .i64 i] 37)).heap[w.heap.size]? = some (.cells #[.int .i64 o, .int .i64 e] 35 (0, 0)) := blk_alloc (blk_alloc ZS.out _) _
    have hlc : ((w3.alloc (.cells #[.int .i64 m, .int .i64 e] 35)).alloc (.cells #[.int .i64 q, .int .i64 j, .int .i64 i] 37)).heap[w.heap.size + 1]? = some (.cells #[.int .i64 q, .int .i64 i, .int .i64 j] 37 (0, 0)) := blk_alloc (blk_alloc ZC.out _) _
    have hlm : ((w3.alloc (.cells #[.int .i64 m, .int .i64 e] 35)).alloc (.cells #[.int .i64 q, .int .i64 j, .int .i64 i] 37)).heap[w3.heap.size]? = some (.cells #[.int .i64 m, .int .i64 e] 35 (0, 0)) := blk_alloc (blk_new _ _ _ rfl) _
    have hlu : ((w3.alloc (.cells #[.int .i64 m, .int .i64 e] 35)).alloc (.cells #[.int .i64 q, .int .i64 j, .int .i64 i] 37)).heap[w3.heap.size + 1]? = some (.cells #[.int .i64 q, .int .i64 j, .int .i64 i] 37 (0, 0)) := blk_new _ _ _ (by simp)
    have hpa := prow_alloc (prow_alloc PA.out (.cells #[.int .i64 m, .int .i64 e] 35)) (.cells #[.int .i64 q, .int .i64 j, .int .i64 i] 37)
    have hpb := prow_alloc (prow_alloc PB.out (.cells #[.int .i64 m, .int .i64 e] 35)) (.cells #[.int .i64 q, .int .i64 j, .int .i64 i] 37)
    generalize (w3.alloc (.cells #[.int .i64 m, .int .i64 e] 35)).alloc (.cells #[.int .i64 q, .int .i64 j, .int .i64 i] 37) = wr at *
    have G0 := fun p => cell_blw (w := wr) (a := ⟨w.heap.size, 0, none⟩) (blk_lt hls) (blk_cell hls 0 _ rfl) p
    have G1 := fun p => cell_blw (w := wr) (a := ⟨w.heap.size, 1, none⟩) (blk_lt hls) (blk_cell hls 1 _ rfl) p
    have M0 := fun p => cell_blw (w := wr) (a := ⟨w3.heap.size, 0, none⟩) (blk_lt hlm) (blk_cell hlm 0 _ rfl) p
    have M1 := fun p => cell_blw (w := wr) (a := ⟨w3.heap.size, 1, none⟩) (blk_lt hlm) (blk_cell hlm 1 _ rfl) p
    have HBW := Lib.hid hbw
    have HLC := Lib.hid hlc
    have HLU := Lib.hid hlu
    have HPA := Lib.hid hpa
    have HPB := Lib.hid hpb
    clear hbw hls hlc hlm hlu hpa hpb B ZS ZC PA PB
    refine wb_region mixedP (by kernel_rfl) ?_
    repeat (refine wq_step (fun K hK => ?_); go_simp; first | (refine hK _ ?_; clear hK K) | (apply Exists.intro; refine ⟨fun _ => ?_, hK _ ?_⟩; (fail); clear hK K))
    refine wq_nil ?_
    intro _ hw'
    obtain ⟨pb, hw''⟩ := hw'
    subst hw''
    have HB5 := Lib.hid (HBW.out.trans (pb.hb.mono HBW.out.size))
    have HLC5 := Lib.hid (blk_call HLC.out pb.hb)
    have HLU5 := Lib.hid (blk_call HLU.out pb.hb)
    have HPA5 := Lib.hid (prow_below HPA.out pb.hb)
    have HPB5 := Lib.hid (prow_below HPB.out pb.hb)
    clear G0 G1 M0 M1 HBW HLC HLU HPA HPB
    obtain ⟨w5, hb5⟩ := pb
    change Hid (Below w.heap.size w w5) at HB5
    change Hid (w5.heap[w.heap.size + 1]? = _) at HLC5
    change Hid (w5.heap[w3.heap.size + 1]? = _) at HLU5
    change Hid (PRow w5 ao a) at HPA5
    change Hid (PRow w5 bo b) at HPB5
    dsimp only
    clear hb5
    go_upto_region 12 with fail
    have hlc := HLC5.out
    have hlu := HLU5.out
    have G0 := fun p => cell_blw (w := w5) (a := ⟨w.heap.size + 1, 0, none⟩) (blk_lt hlc) (blk_cell hlc 0 _ rfl) p
    have G1 := fun p => cell_blw (w := w5) (a := ⟨w.heap.size + 1, 1, none⟩) (blk_lt hlc) (blk_cell hlc 1 _ rfl) p
    have G2 := fun p => cell_blw (w := w5) (a := ⟨w.heap.size + 1, 2, none⟩) (blk_lt hlc) (blk_cell hlc 2 _ rfl) p
    have M0 := fun p => cell_blw (w := w5) (a := ⟨w3.heap.size + 1, 0, none⟩) (blk_lt hlu) (blk_cell hlu 0 _ rfl) p
    have M1 := fun p => cell_blw (w := w5) (a := ⟨w3.heap.size + 1, 1, none⟩) (blk_lt hlu) (blk_cell hlu 1 _ rfl) p
    have M2 := fun p => cell_blw (w := w5) (a := ⟨w3.heap.size + 1, 2, none⟩) (blk_lt hlu) (blk_cell hlu 2 _ rfl) p
    clear hlc hlu
    have P1 := Lib.hid (fun p : BlwBy w5 => polygons_is ao bo _ _ ca cb a b t p.x rfl rfl HP (by omega) (by omega) a12 b12 (prow_below HPA5.out p.hb) (prow_below HPB5.out p.hb) RA.out RB.out)
    have P2 := Lib.hid (fun p : BlwBy w5 => polygons_is bo ao _ _ cb ca b a t p.x rfl rfl HP2 (by omega) (by omega) b12 a12 (prow_below HPB5.out p.hb) (prow_below HPA5.out p.hb) RB.out RA.out)
    have I1 := Lib.hid (fun p : BlwBy w5 => iscon_is ao bo _ _ ca cb a b q i j s p.x rfl rfl HC (by omega) (by omega) a12 b12 (prow_below HPA5.out p.hb) (prow_below HPB5.out p.hb) RA.out RB.out)
    have I2 := Lib.hid (fun p : BlwBy w5 => iscon_is bo ao _ _ cb ca b a q j i s p.x rfl rfl HC2 (by omega) (by omega) b12 a12 (prow_below HPB5.out p.hb) (prow_below HPA5.out p.hb) RB.out RA.out)
    refine wb_region mixedP (by kernel_rfl) ?_
    repeat (refine wq_step (fun K hK => ?_); go_simp; first | (refine hK _ ?_; clear hK K) | (apply Exists.intro; refine ⟨fun _ => ?_, hK _ ?_⟩; (first | (go_at_call 28; first | with_reducible refine Calls.blw_of (P1.out _) | with_reducible refine Calls.blw_of (P2.out _)) | (go_at_call 31; first | with_reducible refine Calls.blw_of (I1.out _) | with_reducible refine Calls.blw_of (I2.out _))); clear hK K))
    refine wq_nil ?_
    intro _ hw'
    obtain ⟨pb, hw''⟩ := hw'
    subst hw''
    have HB6 := Lib.hid (HB5.out.trans (pb.hb.mono HB5.out.size))
    clear G0 G1 G2 M0 M1 M2 P1 P2 I1 I2
    go_wp2_with fail
    go_ret
    exact ⟨by simp, HB6.out⟩
  · have o3 : decide (0 ≤ o) = false := decide_eq_false on
    by_cases g2 : q = 2
    · subst g2
      have HC2 : Hid (isConB b a 3 j i = s) := Lib.hid HC2.out
      have c0 := blk_cell ZS.out 0 _ rfl
      have c1 := blk_cell ZS.out 1 _ rfl
      have d0 := blk_cell ZC.out 0 _ rfl
      have d1 := blk_cell ZC.out 1 _ rfl
      have d2 := blk_cell ZC.out 2 _ rfl
      have zs := blk_lt ZS.out
      have zc := blk_lt ZC.out
      go_upto_region 10 with fail
      clear c0 c1 d0 d1 d2
      have hbw : Below w.heap.size w ((w3.alloc (.cells #[.int .i64 m, .int .i64 e] 35)).alloc (.cells #[.int .i64 3, .int .i64 j, .int .i64 i] 37)) := belA (belA B.out _) _
      have hls : ((w3.alloc (.cells #[.int .i64 m, .int .i64 e] 35)).alloc (.cells #[.int .i64 3, .int .i64 j, .int .i64 i] 37)).heap[w.heap.size]? = some (.cells #[.int .i64 o, .int .i64 e] 35 (0, 0)) := blk_alloc (blk_alloc ZS.out _) _
      have hlc : ((w3.alloc (.cells #[.int .i64 m, .int .i64 e] 35)).alloc (.cells #[.int .i64 3, .int .i64 j, .int .i64 i] 37)).heap[w.heap.size + 1]? = some (.cells #[.int .i64 2, .int .i64 i, .int .i64 j] 37 (0, 0)) := blk_alloc (blk_alloc ZC.out _) _
      have hlm : ((w3.alloc (.cells #[.int .i64 m, .int .i64 e] 35)).alloc (.cells #[.int .i64 3, .int .i64 j, .int .i64 i] 37)).heap[w3.heap.size]? = some (.cells #[.int .i64 m, .int .i64 e] 35 (0, 0)) := blk_alloc (blk_new _ _ _ rfl) _
      have hlu : ((w3.alloc (.cells #[.int .i64 m, .int .i64 e] 35)).alloc (.cells #[.int .i64 3, .int .i64 j, .int .i64 i] 37)).heap[w3.heap.size + 1]? = some (.cells #[.int .i64 3, .int .i64 j, .int .i64 i] 37 (0, 0)) := blk_new _ _ _ (by simp)
      have hpa := prow_alloc (prow_alloc PA.out (.cells #[.int .i64 m, .int .i64 e] 35)) (.cells #[.int .i64 3, .int .i64 j, .int .i64 i] 37)
      have hpb := prow_alloc (prow_alloc PB.out (.cells #[.int .i64 m, .int .i64 e] 35)) (.cells #[.int .i64 3, .int .i64 j, .int .i64 i] 37)
      generalize (w3.alloc (.cells #[.int .i64 m, .int .i64 e] 35)).alloc (.cells #[.int .i64 3, .int .i64 j, .int .i64 i] 37) = wr at *
      have G0 := fun p => cell_blw (w := wr) (a := ⟨w.heap.size, 0, none⟩) (blk_lt hls) (blk_cell hls 0 _ rfl) p
      have G1 := fun p => cell_blw (w := wr) (a := ⟨w.heap.size, 1, none⟩) (blk_lt hls) (blk_cell hls 1 _ rfl) p
      have M0 := fun p => cell_blw (w := wr) (a := ⟨w3.heap.size, 0, none⟩) (blk_lt hlm) (blk_cell hlm 0 _ rfl) p
      have M1 := fun p => cell_blw (w := wr) (a := ⟨w3.heap.size, 1, none⟩) (blk_lt hlm) (blk_cell hlm 1 _ rfl) p
      have HBW := Lib.hid hbw
      have HLC := Lib.hid hlc
      have HLU := Lib.hid hlu
      have HPA := Lib.hid hpa
      have HPB := Lib.hid hpb
      clear hbw hls hlc hlm hlu hpa hpb B ZS ZC PA PB
      refine wb_region mixedP (by kernel_rfl) ?_
      repeat (refine wq_step (fun K hK => ?_); go_simp; first | (refine hK _ ?_; clear hK K) | (apply Exists.intro; refine ⟨fun _ => ?_, hK _ ?_⟩; (fail); clear hK K))
      refine wq_nil ?_
      intro _ hw'
      obtain ⟨pb, hw''⟩ := hw'
      subst hw''
      have HB5 := Lib.hid (HBW.out.trans (pb.hb.mono HBW.out.size))
      have HLC5 := Lib.hid (blk_call HLC.out pb.hb)
      have HLU5 := Lib.hid (blk_call HLU.out pb.hb)
      have HPA5 := Lib.hid (prow_below HPA.out pb.hb)
      have HPB5 := Lib.hid (prow_below HPB.out pb.hb)
      clear G0 G1 M0 M1 HBW HLC HLU HPA HPB
      obtain ⟨w5, hb5⟩ := pb
      change Hid (Below w.heap.size w w5) at HB5
      change Hid (w5.heap[w.heap.size + 1]? = _) at HLC5
      change Hid (w5.heap[w3.heap.size + 1]? = _) at HLU5
      change Hid (PRow w5 ao a) at HPA5
      change Hid (PRow w5 bo b) at HPB5
      dsimp only
      clear hb5
      go_upto_region 12 with fail
      have hlc := HLC5.out
      have hlu := HLU5.out
      have G0 := fun p => cell_blw (w := w5) (a := ⟨w.heap.size + 1, 0, none⟩) (blk_lt hlc) (blk_cell hlc 0 _ rfl) p
      have G1 := fun p => cell_blw (w := w5) (a := ⟨w.heap.size + 1, 1, none⟩) (blk_lt hlc) (blk_cell hlc 1 _ rfl) p
      have G2 := fun p => cell_blw (w := w5) (a := ⟨w.heap.size + 1, 2, none⟩) (blk_lt hlc) (blk_cell hlc 2 _ rfl) p
      have M0 := fun p => cell_blw (w := w5) (a := ⟨w3.heap.size + 1, 0, none⟩) (blk_lt hlu) (blk_cell hlu 0 _ rfl) p
      have M1 := fun p => cell_blw (w := w5) (a := ⟨w3.heap.size + 1, 1, none⟩) (blk_lt hlu) (blk_cell hlu 1 _ rfl) p
      have M2 := fun p => cell_blw (w := w5) (a := ⟨w3.heap.size + 1, 2, none⟩) (blk_lt hlu) (blk_cell hlu 2 _ rfl) p
      clear hlc hlu
      have P1 := Lib.hid (fun p : BlwBy w5 => polygons_is ao bo _ _ ca cb a b t p.x rfl rfl HP (by omega) (by omega) a12 b12 (prow_below HPA5.out p.hb) (prow_below HPB5.out p.hb) RA.out RB.out)
      have P2 := Lib.hid (fun p : BlwBy w5 => polygons_is bo ao _ _ cb ca b a t p.x rfl rfl HP2 (by omega) (by omega) b12 a12 (prow_below HPB5.out p.hb) (prow_below HPA5.out p.hb) RB.out RA.out)
      have I1 := Lib.hid (fun p : BlwBy w5 => iscon_is ao bo _ _ ca cb a b 2 i j s p.x rfl rfl HC (by omega) (by omega) a12 b12 (prow_below HPA5.out p.hb) (prow_below HPB5.out p.hb) RA.out RB.out)
      have I2 := Lib.hid (fun p : BlwBy w5 => iscon_is bo ao _ _ cb ca b a 3 j i s p.x rfl rfl HC2 (by omega) (by omega) b12 a12 (prow_below HPB5.out p.hb) (prow_below HPA5.out p.hb) RB.out RA.out)
      refine wb_region mixedP (by kernel_rfl) ?_
      repeat (refine wq_step (fun K hK => ?_); go_simp; first | (refine hK _ ?_; clear hK K) | (apply Exists.intro; refine ⟨fun _ => ?_, hK _ ?_⟩; (first | (go_at_call 28; first | with_reducible refine Calls.blw_of (P1.out _) | with_reducible refine Calls.blw_of (P2.out _)) | (go_at_call 31; first | with_reducible refine Calls.blw_of (I1.out _) | with_reducible refine Calls.blw_of (I2.out _))); clear hK K))
      refine wq_nil ?_
      intro _ hw'
      obtain ⟨pb, hw''⟩ := hw'
      subst hw''
      have HB6 := Lib.hid (HB5.out.trans (pb.hb.mono HB5.out.size))
      clear G0 G1 G2 M0 M1 M2 P1 P2 I1 I2
      go_wp2_with fail
      go_ret
      exact ⟨by simp, HB6.out⟩
    by_cases g3 : q = 3
    · subst g3
      have HC2 : Hid (isConB b a 2 j i = s) := Lib.hid HC2.out
      have c0 := blk_cell ZS.out 0 _ rfl
      have c1 := blk_cell ZS.out 1 _ rfl
      have d0 := blk_cell ZC.out 0 _ rfl
      have d1 := blk_cell ZC.out 1 _ rfl
      have d2 := blk_cell ZC.out 2 _ rfl
      have zs := blk_lt ZS.out
      have zc := blk_lt ZC.out
      go_upto_region 10 with fail
      clear c0 c1 d0 d1 d2
      have hbw : Below w.heap.size w ((w3.alloc (.cells #[.int .i64 m, .int .i64 e] 35)).alloc (.cells #[.int .i64 2, .int .i64 j, .int .i64 i] 37)) := belA (belA B.out _) _
      have hls : ((w3.alloc (.cells #[.int .i64 m, .int .i64 e] 35)).alloc (.cells #[.int .i64 2, .int .i64 j, .int .i64 i] 37)).heap[w.heap.size]? = some (.cells #[.int .i64 o, .int .i64 e] 35 (0, 0)) := blk_alloc (blk_alloc ZS.out _) _
      have hlc : ((w3.alloc (.cells #[.int .i64 m, .int .i64 e] 35)).alloc (.cells #[.int .i64 2, .int .i64 j, .int .i64 i] 37)).heap[w.heap.size + 1]? = some (.cells #[.int .i64 3, .int .i64 i, .int .i64 j] 37 (0, 0)) := blk_alloc (blk_alloc ZC.out _) _
      have hlm : ((w3.alloc (.cells #[.int .i64 m, .int .i64 e] 35)).alloc (.cells #[.int .i64 2, .int .i64 j, .int .i64 i] 37)).heap[w3.heap.size]? = some (.cells #[.int .i64 m, .int .i64 e] 35 (0, 0)) := blk_alloc (blk_new _ _ _ rfl) _
      have hlu : ((w3.alloc (.cells #[.int .i64 m, .int .i64 e] 35)).alloc (.cells #[.int .i64 2, .int .i64 j, .int .i64 i] 37)).heap[w3.heap.size + 1]? = some (.cells #[.int .i64 2, .int .i64 j, .int .i64 i] 37 (0, 0)) := blk_new _ _ _ (by simp)
      have hpa := prow_alloc (prow_alloc PA.out (.cells #[.int .i64 m, .int .i64 e] 35)) (.cells #[.int .i64 2, .int .i64 j, .int .i64 i] 37)
      have hpb := prow_alloc (prow_alloc PB.out (.cells #[.int .i64 m, .int .i64 e] 35)) (.cells #[.int .i64 2, .int .i64 j, .int .i64 i] 37)
      generalize (w3.alloc (.cells #[.int .i64 m, .int .i64 e] 35)).alloc (.cells #[.int .i64 2, .int .i64 j, .int .i64 i] 37) = wr at *
      have G0 := fun p => cell_blw (w := wr) (a := ⟨w.heap.size, 0, none⟩) (blk_lt hls) (blk_cell hls 0 _ rfl) p
      have G1 := fun p => cell_blw (w := wr) (a := ⟨w.heap.size, 1, none⟩) (blk_lt hls) (blk_cell hls 1 _ rfl) p
      have M0 := fun p => cell_blw (w := wr) (a := ⟨w3.heap.size, 0, none⟩) (blk_lt hlm) (blk_cell hlm 0 _ rfl) p
      have M1 := fun p => cell_blw (w := wr) (a := ⟨w3.heap.size, 1, none⟩) (blk_lt hlm) (blk_cell hlm 1 _ rfl) p
      have HBW := Lib.hid hbw
      have HLC := Lib.hid hlc
      have HLU := Lib.hid hlu
      have HPA := Lib.hid hpa
      have HPB := Lib.hid hpb
      clear hbw hls hlc hlm hlu hpa hpb B ZS ZC PA PB
      refine wb_region mixedP (by kernel_rfl) ?_
      repeat (refine wq_step (fun K hK => ?_); go_simp; first | (refine hK _ ?_; clear hK K) | (apply Exists.intro; refine ⟨fun _ => ?_, hK _ ?_⟩; (fail); clear hK K))
      refine wq_nil ?_
      intro _ hw'
      obtain ⟨pb, hw''⟩ := hw'
      subst hw''
      have HB5 := Lib.hid (HBW.out.trans (pb.hb.mono HBW.out.size))
      have HLC5 := Lib.hid (blk_call HLC.out pb.hb)
      have HLU5 := Lib.hid (blk_call HLU.out pb.hb)
      have HPA5 := Lib.hid (prow_below HPA.out pb.hb)
      have HPB5 := Lib.hid (prow_below HPB.out pb.hb)
      clear G0 G1 M0 M1 HBW HLC HLU HPA HPB
      obtain ⟨w5, hb5⟩ := pb
      change Hid (Below w.heap.size w w5) at HB5
      change Hid (w5.heap[w.heap.size + 1]? = _) at HLC5
      change Hid (w5.heap[w3.heap.size + 1]? = _) at HLU5
      change Hid (PRow w5 ao a) at HPA5
      change Hid (PRow w5 bo b) at HPB5
      dsimp only
      clear hb5
      go_upto_region 12 with fail
      have hlc := HLC5.out
      have hlu := HLU5.out
      have G0 := fun p => cell_blw (w := w5) (a := ⟨w.heap.size + 1, 0, none⟩) (blk_lt hlc) (blk_cell hlc 0 _ rfl) p
      have G1 := fun p => cell_blw (w := w5) (a := ⟨w.heap.size + 1, 1, none⟩) (blk_lt hlc) (blk_cell hlc 1 _ rfl) p
      have G2 := fun p => cell_blw (w := w5) (a := ⟨w.heap.size + 1, 2, none⟩) (blk_lt hlc) (blk_cell hlc 2 _ rfl) p
      have M0 := fun p => cell_blw (w := w5) (a := ⟨w3.heap.size + 1, 0, none⟩) (blk_lt hlu) (blk_cell hlu 0 _ rfl) p
      have M1 := fun p => cell_blw (w := w5) (a := ⟨w3.heap.size + 1, 1, none⟩) (blk_lt hlu) (blk_cell hlu 1 _ rfl) p
      have M2 := fun p => cell_blw (w := w5) (a := ⟨w3.heap.size + 1, 2, none⟩) (blk_lt hlu) (blk_cell hlu 2 _ rfl) p
      clear hlc hlu
      have P1 := Lib.hid (fun p : BlwBy w5 => polygons_is ao bo _ _ ca cb a b t p.x rfl rfl HP (by omega) (by omega) a12 b12 (prow_below HPA5.out p.hb) (prow_below HPB5.out p.hb) RA.out RB.out)
      have P2 := Lib.hid (fun p : BlwBy w5 => polygons_is bo ao _ _ cb ca b a t p.x rfl rfl HP2 (by omega) (by omega) b12 a12 (prow_below HPB5.out p.hb) (prow_below HPA5.out p.hb) RB.out RA.out)
      have I1 := Lib.hid (fun p : BlwBy w5 => iscon_is ao bo _ _ ca cb a b 3 i j s p.x rfl rfl HC (by omega) (by omega) a12 b12 (prow_below HPA5.out p.hb) (prow_below HPB5.out p.hb) RA.out RB.out)
      have I2 := Lib.hid (fun p : BlwBy w5 => iscon_is bo ao _ _ cb ca b a 2 j i s p.x rfl rfl HC2 (by omega) (by omega) b12 a12 (prow_below HPB5.out p.hb) (prow_below HPA5.out p.hb) RB.out RA.out)
      refine wb_region mixedP (by kernel_rfl) ?_
      repeat (refine wq_step (fun K hK => ?_); go_simp; first | (refine hK _ ?_; clear hK K) | (apply Exists.intro; refine ⟨fun _ => ?_, hK _ ?_⟩; (first | (go_at_call 28; first | with_reducible refine Calls.blw_of (P1.out _) | with_reducible refine Calls.blw_of (P2.out _)) | (go_at_call 31; first | with_reducible refine Calls.blw_of (I1.out _) | with_reducible refine Calls.blw_of (I2.out _))); clear hK K))
      refine wq_nil ?_
      intro _ hw'
      obtain ⟨pb, hw''⟩ := hw'
      subst hw''
      have HB6 := Lib.hid (HB5.out.trans (pb.hb.mono HB5.out.size))
      clear G0 G1 G2 M0 M1 M2 P1 P2 I1 I2
      go_wp2_with fail
      go_ret
      exact ⟨by simp, HB6.out⟩
    have HC2 : Hid (isConB b a q j i = s) := Lib.hid (by have := HC2.out; unfold kindS at this; rw [if_neg g2, if_neg g3] at this; exact this)
    have c0 := blk_cell ZS.out 0 _ rfl
    have c1 := blk_cell ZS.out 1 _ rfl
    have d0 := blk_cell ZC.out 0 _ rfl
    have d1 := blk_cell ZC.out 1 _ rfl
    have d2 := blk_cell ZC.out 2 _ rfl
    have zs := blk_lt ZS.out
    have zc := blk_lt ZC.out
    go_upto_region 10 with fail
    clear c0 c1 d0 d1 d2
    have hbw : Below w.heap.size w ((w3.alloc (.cells #[.int .i64 m, .int .i64 e] 35)).alloc (.cells #[.int .i64 q, .int .i64 j, .int .i64 i] 37)) := belA (belA B.out _) _
    have hls : ((w3.alloc (.cells #[.int .i64 m, .int .i64 e] 35)).alloc (.cells #[.int .i64 q, .int .i64 j, .int .i64 i] 37)).heap[w.heap.size]? = some (.cells #[.int .i64 o, .int .i64 e] 35 (0, 0)) := blk_alloc (blk_alloc ZS.out _) _
    have hlc : ((w3.alloc (.cells #[.int .i64 m, .int .i64 e] 35)).alloc (.cells #[.int .i64 q, .int .i64 j, .int .i64 i] 37)).heap[w.heap.size + 1]? = some (.cells #[.int .i64 q, .int .i64 i, .int .i64 j] 37 (0, 0)) := blk_alloc (blk_alloc ZC.out _) _
    have hlm : ((w3.alloc (.cells #[.int .i64 m, .int .i64 e] 35)).alloc (.cells #[.int .i64 q, .int .i64 j, .int .i64 i] 37)).heap[w3.heap.size]? = some (.cells #[.int .i64 m, .int .i64 e] 35 (0, 0)) := blk_alloc (blk_new _ _ _ rfl) _
    have hlu : ((w3.alloc (.cells #[.int .i64 m, .int .i64 e] 35)).alloc (.cells #[.int .i64 q, .int .i64 j, .int .i64 i] 37)).heap[w3.heap.size + 1]? = some (.cells #[.int .i64 q, .int .i64 j, .int .i64 i] 37 (0, 0)) := blk_new _ _ _ (by simp)
    have hpa := prow_alloc (prow_alloc PA.out (.cells #[.int .i64 m, .int .i64 e] 35)) (.cells #[.int .i64 q, .int .i64 j, .int .i64 i] 37)
    have hpb := prow_alloc (prow_alloc PB.out (.cells #[.int .i64 m, .int .i64 e] 35)) (.cells #[.int .i64 q, .int .i64 j, .int .i64 i] 37)
    generalize (w3.alloc (.cells #[.int .i64 m, .int .i64 e] 35)).alloc (.cells #[.int .i64 q, .int .i64 j, .int .i64 i] 37) = wr at *
    have G0 := fun p => cell_blw (w := wr) (a := ⟨w.heap.size, 0, none⟩) (blk_lt hls) (blk_cell hls 0 _ rfl) p
    have G1 := fun p => cell_blw (w := wr) (a := ⟨w.heap.size, 1, none⟩) (blk_lt hls) (blk_cell hls 1 _ rfl) p
    have M0 := fun p => cell_blw (w := wr) (a := ⟨w3.heap.size, 0, none⟩) (blk_lt hlm) (blk_cell hlm 0 _ rfl) p
    have M1 := fun p => cell_blw (w := wr) (a := ⟨w3.heap.size, 1, none⟩) (blk_lt hlm) (blk_cell hlm 1 _ rfl) p
    have HBW := Lib.hid hbw
    have HLC := Lib.hid hlc
    have HLU := Lib.hid hlu
    have HPA := Lib.hid hpa
    have HPB := Lib.hid hpb
    clear hbw hls hlc hlm hlu hpa hpb B ZS ZC PA PB
    refine wb_region mixedP (by kernel_rfl) ?_
    repeat (refine wq_step (fun K hK => ?_); go_simp; first | (refine hK _ ?_; clear hK K) | (apply Exists.intro; refine ⟨fun _ => ?_, hK _ ?_⟩; (fail); clear hK K))
    refine wq_nil ?_
    intro _ hw'
    obtain ⟨pb, hw''⟩ := hw'
    subst hw''
    have HB5 := Lib.hid (HBW.out.trans (pb.hb.mono HBW.out.size))
    have HLC5 := Lib.hid (blk_call HLC.out pb.hb)
    have HLU5 := Lib.hid (blk_call HLU.out pb.hb)
    have HPA5 := Lib.hid (prow_below HPA.out pb.hb)
    have HPB5 := Lib.hid (prow_below HPB.out pb.hb)
    clear G0 G1 M0 M1 HBW HLC HLU HPA HPB
    obtain ⟨w5, hb5⟩ := pb
    change Hid (Below w.heap.size w w5) at HB5
    change Hid (w5.heap[w.heap.size + 1]? = _) at HLC5
    change Hid (w5.heap[w3.heap.size + 1]? = _) at HLU5
    change Hid (PRow w5 ao a) at HPA5
    change Hid (PRow w5 bo b) at HPB5
    dsimp only
    clear hb5
    go_upto_region 12 with fail
    have hlc := HLC5.out
    have hlu := HLU5.out
    have G0 := fun p => cell_blw (w := w5) (a := ⟨w.heap.size + 1, 0, none⟩) (blk_lt hlc) (blk_cell hlc 0 _ rfl) p
    have G1 := fun p => cell_blw (w := w5) (a := ⟨w.heap.size + 1, 1, none⟩) (blk_lt hlc) (blk_cell hlc 1 _ rfl) p
    have G2 := fun p => cell_blw (w := w5) (a := ⟨w.heap.size + 1, 2, none⟩) (blk_lt hlc) (blk_cell hlc 2 _ rfl) p
    have M0 := fun p => cell_blw (w := w5) (a := ⟨w3.heap.size + 1, 0, none⟩) (blk_lt hlu) (blk_cell hlu 0 _ rfl) p
    have M1 := fun p => cell_blw (w := w5) (a := ⟨w3.heap.size + 1, 1, none⟩) (blk_lt hlu) (blk_cell hlu 1 _ rfl) p
    have M2 := fun p => cell_blw (w := w5) (a := ⟨w3.heap.size + 1, 2, none⟩) (blk_lt hlu) (blk_cell hlu 2 _ rfl) p
    clear hlc hlu
    have P1 := Lib.hid (fun p : BlwBy w5 => polygons_is ao bo _ _ ca cb a b t p.x rfl rfl HP (by omega) (by omega) a12 b12 (prow_below HPA5.out p.hb) (prow_below HPB5.out p.hb) RA.out RB.out)
    have P2 := Lib.hid (fun p : BlwBy w5 => polygons_is bo ao _ _ cb ca b a t p.x rfl rfl HP2 (by omega) (by omega) b12 a12 (prow_below HPB5.out p.hb) (prow_below HPA5.out p.hb) RB.out RA.out)
    have I1 := Lib.hid (fun p : BlwBy w5 => iscon_is ao bo _ _ ca cb a b q i j s p.x rfl rfl HC (by omega) (by omega) a12 b12 (prow_below HPA5.out p.hb) (prow_below HPB5.out p.hb) RA.out RB.out)
    have I2 := Lib.hid (fun p : BlwBy w5 => iscon_is bo ao _ _ cb ca b a q j i s p.x rfl rfl HC2 (by omega) (by omega) b12 a12 (prow_below HPB5.out p.hb) (prow_below HPA5.out p.hb) RB.out RA.out)
    refine wb_region mixedP (by kernel_rfl) ?_
    repeat (refine wq_step (fun K hK => ?_); go_simp; first | (refine hK _ ?_; clear hK K) | (apply Exists.intro; refine ⟨fun _ => ?_, hK _ ?_⟩; (first | (go_at_call 28; first | with_reducible refine Calls.blw_of (P1.out _) | with_reducible refine Calls.blw_of (P2.out _)) | (go_at_call 31; first | with_reducible refine Calls.blw_of (I1.out _) | with_reducible refine Calls.blw_of (I2.out _))); clear hK K))
    refine wq_nil ?_
    intro _ hw'
    obtain ⟨pb, hw''⟩ := hw'
    subst hw''
    have HB6 := Lib.hid (HB5.out.trans (pb.hb.mono HB5.out.size))
    clear G0 G1 G2 M0 M1 M2 P1 P2 I1 I2
    go_wp2_with fail
    go_ret
    exact ⟨by simp, HB6.out⟩

set_option maxRecDepth 100000 in
theorem lifted (os : Os) (started : os.Started) (H : Type) (enc : TypeId × Value → H) :
    ReturnsInHanded {} Try.checked os 6 .any (Rows.intersectSymmetricSpec.pre6 enc Try.prog Try.f6 Rows.intersectSymmetricRow.domain false) (Rows.intersectSymmetricSpec.post enc Try.prog Try.f6 false true false false) := by
  refine returnsInHanded_of_change (C := Try.checked) HFr.own started (by kernel_rfl) Try.func6
    (ChangeSpec.witness6 (enc := enc) (C := Try.checked) false ⟨#[], #[.slice none 0 0, .slice none 0 0, .agg #[.int .i64 0, .int .i64 0], .agg #[.int .i64 0, .int .i64 0, .int .i64 0]], []⟩ 8 (by kernel_rfl) (by kernel_rfl) (by kernel_rfl) (by kernel_rfl)) ?_
  intro W base args ds gs before hval0 hW hcnd _
  have hval : ∀ (j : Nat) t v, Try.f6.params[j]? = some t → args[j]? = some v → Value.okWide Try.prog W .any base t v := hval0
  have hW' := hW
  obtain ⟨p, q, hA0, hV, rfl, hfz, hnd⟩ := hW
  have hA : DataW.TrodAll enc Try.prog W 0 (fun _ => true) true Try.f6.params.toList args.toList ds p := hA0
  rw [Try.params6] at hA hval
  obtain ⟨v0, vs0, d0, ds0, p0, q0, hargs, rfl, rfl, h0, r0⟩ := trodAll_cons hA
  obtain ⟨v1, vs1, d1, ds1, p1, q1, rfl, rfl, rfl, h1, r1⟩ := trodAll_cons r0
  obtain ⟨v2, vs2, d2, ds2, p2, q2, rfl, rfl, rfl, h2, r2⟩ := trodAll_cons r1
  obtain ⟨v3, vs3, d3, ds3, p3, q3, rfl, rfl, rfl, h3, r3⟩ := trodAll_cons r2
  obtain ⟨rfl, rfl, rfl⟩ := trodAll_nil r3
  obtain rfl : args = #[v0, v1, v2, v3] := by cases args; simp_all
  obtain ⟨rfl, rfl⟩ := trodVars_none hV
  have k0 := h0
  have lt0 : ∀ x ∈ p0, x.block < W.heap.size := by obtain ⟨m, hm⟩ := k0; exact DataW.trod_lt m _ _ _ hm
  obtain ⟨a0, cap0, l0, rfl, n0, w0⟩ := HFr.open_poly (hval 0 23 v0 rfl rfl) h0
  have k1 := h1
  have lt1 : ∀ x ∈ p1, x.block < W.heap.size := by obtain ⟨m, hm⟩ := k1; exact DataW.trod_lt m _ _ _ hm
  obtain ⟨a1, cap1, l1, rfl, n1, w1⟩ := HFr.open_poly (hval 1 23 v1 rfl rfl) h1
  have k2 := h2
  have lt2 : ∀ x ∈ p2, x.block < W.heap.size := by obtain ⟨m, hm⟩ := k2; exact DataW.trod_lt m _ _ _ hm
  obtain ⟨x2, y2, rfl⟩ := HFr.open_sep (hval 2 35 v2 rfl rfl) h2
  have k3 := h3
  have lt3 : ∀ x ∈ p3, x.block < W.heap.size := by obtain ⟨m, hm⟩ := k3; exact DataW.trod_lt m _ _ _ hm
  obtain ⟨x3, y3, z3, rfl⟩ := HFr.open_con (hval 3 37 v3 rfl rfl) h3
  clear hA0 hval0
  refine (walk a0 cap0 l0 n0 w0 a1 cap1 l1 n1 w1 x2 y2 x3 y3 z3 W rfl).mono fun e W' ⟨he, bel⟩ => ?_
  subst he
  exact ⟨_, rfl, _, _, _, [], _, [], hW', trodAll_mk1 (shut_bool Try.underlying4 _), (trodAll_cons_mk (Below.trod HFr.laidOut (by kernel_rfl) (of_decide_eq_true (by kernel_rfl)) k0 bel lt0) (trodAll_cons_mk (Below.trod HFr.laidOut (by kernel_rfl) (of_decide_eq_true (by kernel_rfl)) k1 bel lt1) (trodAll_cons_mk (Below.trod HFr.laidOut (by kernel_rfl) (of_decide_eq_true (by kernel_rfl)) k2 bel lt2) (trodAll_cons_mk (Below.trod HFr.laidOut (by kernel_rfl) (of_decide_eq_true (by kernel_rfl)) k3 bel lt3) trodAll_mk0)))), rfl, bel.frame _, fun h => by cases h⟩

/-- THE STATEMENT. -/
theorem holds : Rows.IntersectSymmetricSaid :=
  OpenClaim.holds_of_wide 6 Try.f6 rfl rfl rfl rfl rfl rfl rfl ⟨rfl, rfl, rfl, rfl, rfl⟩ rfl rfl rfl rfl rfl (by kernel_rfl) Try.func6 (by kernel_rfl)
    (of_decide_eq_true (by kernel_rfl)) (by unfold Func.isWrapper; first | (rw [if_pos (by decide +kernel)]; kernel_rfl) | (rw [if_neg (by decide +kernel)]; exact ⟨rfl, rfl⟩))
    (fun os started H enc _ => lifted os started H enc)
#print axioms holds
end Go.Proofs.Ytojfonenpplahaa.intersectSymmetric
