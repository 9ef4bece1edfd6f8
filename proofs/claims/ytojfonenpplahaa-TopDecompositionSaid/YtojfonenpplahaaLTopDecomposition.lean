/- Proved: two valid polygons meet exactly if some pair of their convex parts meets, and exactly if not every pair of parts has a separating edge (the law TopDecomposition returns true).
Conditions: none on the arguments. -/
import Derived.Test.YtojfonenpplahaaIyB
import Derived.Test.YtojfonenpplahaaHlFr
import Derived.Deep.RegionHeld3
import Derived.Deep.DeepCutAuto
namespace Go.Proofs.Ytojfonenpplahaa.topDecomposition
open Go.ChangeShapes Go.WideShapes Go.ChangeAt Go.RowKit
set_option linter.unusedVariables false
set_option linter.unusedSimpArgs false

set_option maxRecDepth 100000 in
set_option maxHeartbeats 16000000 in
theorem walk {w : World} (ao : Option Addr) (ca : Nat) (a : List (Int × Int)) (na : a.length ≤ 9223372036854775807) (hA : PRow w ao a) (bo : Option Addr) (cb : Nat) (b : List (Int × Int)) (nb : b.length ≤ 9223372036854775807) (hB : PRow w bo b) (W' : World) (hw : w = W') :
    Calls Try.prog 10 #[.slice ao a.length ca, .slice bo b.length cb] w fun e w' => e = .returned (.bool true) ∧ Below w.heap.size w w' := by
  have PA := Lib.hid hA
  have PB := Lib.hid hB
  clear hA hB hw
  go_enter Try.func10, Try.ntmps10
  go_wp2_with fail
  refine (head05_is _).mono ?_
  rintro e w1 ⟨rfl, hb1⟩
  replace PA := Lib.hid (prow_below PA.out hb1)
  replace PB := Lib.hid (prow_below PB.out hb1)
  have B := Lib.hid (belT (Below.refl _ w) hb1)
  clear hb1
  obtain ⟨ta, ht⟩ : ∃ t, validP a = t := ⟨_, rfl⟩
  have HA := Lib.hid ht
  clear ht
  go_wp2_with fail
  refine (right_is ao _ ca a ta _ rfl HA na PA.out).mono ?_
  rintro e w2 ⟨rfl, hb2⟩
  replace PA := Lib.hid (prow_below PA.out hb2)
  replace PB := Lib.hid (prow_below PB.out hb2)
  replace B := Lib.hid (belT B.out hb2)
  clear hb2
  cases ta with
  | false =>
    go_wp2_with fail
    go_ret
    exact ⟨rfl, B.out⟩
  | true =>
  obtain ⟨tb, ht⟩ : ∃ t, validP b = t := ⟨_, rfl⟩
  have HB := Lib.hid ht
  clear ht
  go_wp2_with fail
  refine (right_is bo _ cb b tb _ rfl HB nb PB.out).mono ?_
  rintro e w3 ⟨rfl, hb3⟩
  replace PA := Lib.hid (prow_below PA.out hb3)
  replace PB := Lib.hid (prow_below PB.out hb3)
  replace B := Lib.hid (belT B.out hb3)
  clear hb3
  cases tb with
  | false =>
    go_wp2_with fail
    go_ret
    exact ⟨rfl, B.out⟩
  | true =>
  obtain ⟨a3, a12, aV⟩ := vparts HA.out
  have VA := Lib.hid aV
  have RA := Lib.hid aV.r2
  clear aV
  obtain ⟨b3, b12, bV⟩ := vparts HB.out
  have VB := Lib.hid bV
  have RB := Lib.hid bV.r2
  clear bV
  obtain ⟨us, hus⟩ : ∃ us, decL a = us := ⟨_, rfl⟩
  obtain ⟨vs, hvs⟩ : ∃ vs, decL b = vs := ⟨_, rfl⟩
  have HU := Lib.hid hus
  have HV := Lib.hid hvs
  obtain ⟨u0, u12, up, _⟩ := dec_parts HA.out
  obtain ⟨v0, v12, vp, _⟩ := dec_parts HB.out
  have ht := dec_touch HA.out HB.out
  rw [hus] at u0 u12 up ht
  rw [hvs] at v0 v12 vp ht
  have UP := Lib.hid up
  have VP := Lib.hid vp
  have HT := Lib.hid ht
  clear hus hvs up vp ht
  go_wp2_with fail
  refine (decompose_is ao _ ca a us w3 rfl HU (by omega) (by omega) PA.out VA.out).mono ?_
  rintro e w4 ⟨⟨uo, uc, rfl, hp⟩, hb⟩
  have QU := Lib.hid hp
  replace PA := Lib.hid (prow_below PA.out hb)
  replace PB := Lib.hid (prow_below PB.out hb)
  replace B := Lib.hid (belT B.out hb)
  clear hp hb
  go_wp2_with fail
  refine (decompose_is bo _ cb b vs w4 rfl HV (by omega) (by omega) PB.out VB.out).mono ?_
  rintro e w5 ⟨⟨vo, vc, rfl, hp⟩, hb⟩
  have QV := Lib.hid hp
  replace QU := Lib.hid (prows_below QU.out hb)
  replace PA := Lib.hid (prow_below PA.out hb)
  replace PB := Lib.hid (prow_below PB.out hb)
  replace B := Lib.hid (belT B.out hb)
  clear hp hb
  go_wp2_with fail
  go_loopw [6, 7, 10] (fun s q i wr => ∃ k : Nat, k ≤ us.length ∧ i = .int .i64 k ∧ s = .bool (tR us vs k) ∧ q = .bool (!tR us vs k) ∧ Below w5.heap.size w5 wr) (fun _ _ i _ => us.length - (intOf i).toNat)
  case atStart => exact ⟨0, Nat.zero_le _, rfl, rfl, rfl, Below.refl _ _⟩
  case round =>
    obtain ⟨i, hi, rfl, rfl, rfl, hB⟩ := hrel
    by_cases hlt : i < us.length
    · have hii : (i : Int) < us.length := by omega
      obtain ⟨g, hg⟩ : ∃ g, tR us vs i = g := ⟨_, rfl⟩
      have HG := Lib.hid hg
      rw [hg]
      clear hg
      go_wp2_with fail
      go_loopw [6, 7, 11] (fun s q i' wr => ∃ k : Nat, k ≤ vs.length ∧ i' = .int .i64 k ∧ s = .bool (tJ us vs i k) ∧ q = .bool (!tJ us vs i k) ∧ Below w5.heap.size w5 wr) (fun _ _ i _ => vs.length - (intOf i).toNat)
      case atStart => exact ⟨0, Nat.zero_le _, rfl, by rw [tJ_zero, HG.out], by rw [tJ_zero, HG.out], hB⟩
      case round =>
        obtain ⟨k, hk, rfl, rfl, rfl, hBx⟩ := hrel
        by_cases hkl : k < vs.length
        · have hki : (k : Int) < vs.length := by omega
          obtain ⟨b1, o1, p1, n1, rfl, c1, r1⟩ := QU.out i hlt
          obtain ⟨b2, o2, p2, n2, rfl, c2, r2⟩ := QV.out k hkl
          obtain ⟨cs, s12, sV⟩ := UP.out _ (mem_getD hlt)
          obtain ⟨ct, t12, tV⟩ := VP.out _ (mem_getD hkl)
          obtain ⟨t, ht⟩ : ∃ t, pT us vs i k = t := ⟨_, rfl⟩
          have HS : Hid (tJ us vs i (k + 1) = (tJ us vs i k || t)) := Lib.hid (by rw [tJ_succ, ht])
          unfold pT at ht
          obtain ⟨s, hs⟩ : ∃ s, tJ us vs i k = s := ⟨_, rfl⟩
          rw [hs] at HS ⊢
          generalize us.getD i [] = S at *
          generalize vs.getD k [] = T at *
          have s3 := cs.1
          have t3 := ct.1
          obtain ⟨x, e, q, hq⟩ : ∃ x e q, sepT S T = (x, e, q) := ⟨_, _, _, rfl⟩
          have hqt : q = !t := by
            have e1 := sepT_apart S T
            rw [hq, apart_touch cs ct, ht] at e1
            exact e1
          subst hqt
          have HQ := Lib.hid hq
          have HC := Lib.hid (sep_check (by omega) hq)
          have HP := Lib.hid ht
          have SR := Lib.hid sV.r2
          have TR := Lib.hid tV.r2
          have d1 := (hBx.cell (World.block_lt_of_cell? w5 _ c1)).trans c1
          have d2 := (hBx.cell (World.block_lt_of_cell? w5 _ c2)).trans c2
          have P1 := Lib.hid (prow_below r1 hBx)
          have P2 := Lib.hid (prow_below r2 hBx)
          have z1 := World.block_lt_of_cell? wr ⟨b1, o1 + i, none⟩ d1
          have z2 := World.block_lt_of_cell? wr ⟨b2, o2 + k, none⟩ d2
          have G1 := fun p => cell_blw (w := wr) (a := ⟨b1, o1 + i, none⟩) z1 d1 p
          have G2 := fun p => cell_blw (w := wr) (a := ⟨b2, o2 + k, none⟩) z2 d2 p
          have C := Lib.hid (fun p : BlwBy wr => polygons_is p1 p2 _ _ n1 n2 S T t p.x rfl rfl HP (by omega) (by omega) s12 t12 (prow_below P1.out p.hb) (prow_below P2.out p.hb) SR.out TR.out)
          have D1 := Lib.hid d1
          have D2 := Lib.hid d2
          have HBX := Lib.hid hBx
          clear c1 c2 r1 r2 d1 d2 cs ct sV tV hq ht hs hBx hB
          go_upto_region 14 with fail
          refine wb_region mixedP (by kernel_rfl) ?_
          repeat (refine wq_step (fun K hK => ?_); go_simp; first | (refine hK _ ?_; clear hK K) | (apply Exists.intro; refine ⟨fun _ => ?_, hK _ ?_⟩; (go_at_call 28; refine Calls.blw_of (C.out _)); clear hK K))
          refine wq_nil ?_
          intro _ hw'
          obtain ⟨pb, hw''⟩ := hw'
          subst hw''
          clear G1 G2 C
          have HB6 := Lib.hid (HBX.out.trans (pb.hb.mono HBX.out.size))
          have D16 := cell_call D1.out pb.hb
          have D26 := cell_call D2.out pb.hb
          have P16 := Lib.hid (prow_below P1.out pb.hb)
          have P26 := Lib.hid (prow_below P2.out pb.hb)
          obtain ⟨w6, hb6⟩ := pb
          change Hid (Below w5.heap.size w5 w6) at HB6
          change w6.cell? _ = _ at D16
          change w6.cell? _ = _ at D26
          change Hid (PRow w6 p1 S) at P16
          change Hid (PRow w6 p2 T) at P26
          dsimp only
          clear hb6 HBX D1 D2 P1 P2
          go_upto_region 15 with fail
          have z6 := World.block_lt_of_cell? w6 ⟨b1, o1 + i, none⟩ D16
          have z7 := World.block_lt_of_cell? w6 ⟨b2, o2 + k, none⟩ D26
          have hS : Hid (∀ w', Below w6.heap.size w6 w' → w'.cell? ⟨b1, o1 + i, none⟩ = some (.slice p1 S.length n1) ∧ w'.cell? ⟨b2, o2 + k, none⟩ = some (.slice p2 T.length n2) ∧ Below w6.heap.size w6 w') := Lib.hid (fun w' h => ⟨cell_call D16 h, cell_call D26 h, h⟩)
          have b6 : Below w6.heap.size w6 w6 := Below.refl _ _
          have C := Lib.hid (fun w' (h : Below w6.heap.size w6 w') => sepedge_is p1 p2 _ _ n1 n2 S T x e (!t) w' rfl rfl HQ (by omega) (by omega) s12 t12 (prow_below P16.out h) (prow_below P26.out h) SR.out TR.out)
          go_cut [13, 14] from 37 to 90 (fun s13 s14 wx => ∃ g : Nat, s13 = .pointer (some ⟨g, 0, none⟩) ∧ s14 = .bool (!t) ∧ wx.heap[g]? = some (.cells #[.int .i64 x, .int .i64 e] 35 (0, 0)) ∧ Below w6.heap.size w6 wx)
          case first =>
            go_region_held3 (fun w' => w'.cell? ⟨b1, o1 + i, none⟩ = some (.slice p1 S.length n1) ∧ w'.cell? ⟨b2, o2 + k, none⟩ = some (.slice p2 T.length n2) ∧ Below w6.heap.size w6 w')
              ((go_split_ands; refine hS.out _ ?_; repeat (first | exact hb8 | assumption | apply Below.drew | (with_reducible refine belA ?_ _) | (with_reducible refine belS ?_ (by first | assumption | exact Nat.le_refl _ | exact Nat.le_succ _ | exact Nat.le_succ_of_le (by assumption)) _))))
              (first | (go_at_call 34; refine (C.out _ (by go_split_ands; repeat (first | assumption | apply Below.drew | (with_reducible refine belA ?_ _)))).mono ?_; rintro e9 w9 ⟨rfl, hb9⟩; have hb8 : Below w6.heap.size w6 w9 := belT (by go_split_ands; repeat (first | assumption | apply Below.drew | (with_reducible refine belA ?_ _))) hb9; have hz8 : w6.heap.size ≤ w9.heap.size := hb8.size; obtain ⟨hc9, hf9⟩ := bcell hb9; have hs9 := hb9.size; (try simp at hs9); (try have hs9b := Nat.lt_of_succ_le hs9)) | fail)
            all_goals
              rename_i hH
              obtain ⟨_, _, bz⟩ := hH
              have fin := Lib.hid bz
              clear bz
              go_wp2_with fail
              go_meet
              refine ⟨_, rfl, rfl, ?_, ?_⟩
              all_goals first | exact fin.out | exact blk_new _ _ _ rfl | exact blk_set (blk_set (blk_call (w := (w6.alloc (.cells #[.int .i64 0, .int .i64 0] 35)).drew) (show (w6.alloc (.cells #[.int .i64 0, .int .i64 0] 35)).drew.heap[w6.heap.size]? = some (.cells #[.int .i64 0, .int .i64 0] 35 (0, 0)) from blk_new w6 _ _ rfl) hb9) _) _ | (trace_state; fail)
          case rest =>
            obtain ⟨g, rfl, rfl, hg, hbc⟩ := hcut
            have D17 := cell_call D16 hbc
            have D27 := cell_call D26 hbc
            have G1 := fun p => cell_blw (w := wc) (a := ⟨b1, o1 + i, none⟩) (World.block_lt_of_cell? wc ⟨b1, o1 + i, none⟩ D17) D17 p
            have G2 := fun p => cell_blw (w := wc) (a := ⟨b2, o2 + k, none⟩) (World.block_lt_of_cell? wc ⟨b2, o2 + k, none⟩ D27) D27 p
            have G3 := fun p => cell_blw (w := wc) (a := ⟨g, 0, none⟩) (blk_lt hg) (blk_cell hg 0 _ rfl) p
            have G4 := fun p => cell_blw (w := wc) (a := ⟨g, 1, none⟩) (blk_lt hg) (blk_cell hg 1 _ rfl) p
            have P17 := Lib.hid (prow_below P16.out hbc)
            have P27 := Lib.hid (prow_below P26.out hbc)
            have HB7 := Lib.hid (belT HB6.out hbc)
            clear C hS b6 z6 z7 D16 D26 P16 P26 HB6 D17 D27 hg hbc
            cases t with
            | true =>
              go_upto_region 16 with fail
              refine wb_region mixedP (by kernel_rfl) ?_
              repeat (refine wq_step (fun K hK => ?_); go_simp; first | (refine hK _ ?_; clear hK K) | (apply Exists.intro; refine ⟨fun _ => ?_, hK _ ?_⟩; (fail); clear hK K))
              refine wq_nil ?_
              intro _ hw'
              obtain ⟨pb, hw''⟩ := hw'
              subst hw''
              have HB8 := Lib.hid (HB7.out.trans (pb.hb.mono HB7.out.size))
              clear G1 G2 G3 G4 P17 P27 HB7
              obtain ⟨w8, hb8⟩ := pb
              change Hid (Below w5.heap.size w5 w8) at HB8
              dsimp only
              clear hb8
              cases s with
              | true =>
                go_wp2_with fail
                go_roundw
                case rel => exact ⟨k + 1, by omega, by go_num, by rw [HS.out]; rfl, by rw [HS.out]; rfl, HB8.out⟩
                case measure => simp [intOf]; omega
              | false =>
                go_wp2_with fail
                go_roundw
                case rel => exact ⟨k + 1, by omega, by go_num, by rw [HS.out]; rfl, by rw [HS.out]; rfl, HB8.out⟩
                case measure => simp [intOf]; omega
            | false =>
              go_upto_region 16 with fail
              have C := Lib.hid (fun p : BlwBy wc => issep_is p1 p2 _ _ n1 n2 S T x e true p.x rfl rfl HC s12 t12 (prow_below P17.out p.hb) (prow_below P27.out p.hb) SR.out TR.out)
              refine wb_region mixedP (by kernel_rfl) ?_
              repeat (refine wq_step (fun K hK => ?_); go_simp; first | (refine hK _ ?_; clear hK K) | (apply Exists.intro; refine ⟨fun _ => ?_, hK _ ?_⟩; (go_at_call 29; refine Calls.blw_of (C.out _)); clear hK K))
              refine wq_nil ?_
              intro _ hw'
              obtain ⟨pb, hw''⟩ := hw'
              subst hw''
              have HB8 := Lib.hid (HB7.out.trans (pb.hb.mono HB7.out.size))
              clear G1 G2 G3 G4 P17 P27 HB7 C
              obtain ⟨w8, hb8⟩ := pb
              change Hid (Below w5.heap.size w5 w8) at HB8
              dsimp only
              clear hb8
              cases s with
              | true =>
                go_wp2_with fail
                go_roundw
                case rel => exact ⟨k + 1, by omega, by go_num, by rw [HS.out]; rfl, by rw [HS.out]; rfl, HB8.out⟩
                case measure => simp [intOf]; omega
              | false =>
                go_wp2_with fail
                go_roundw
                case rel => exact ⟨k + 1, by omega, by go_num, by rw [HS.out]; rfl, by rw [HS.out]; rfl, HB8.out⟩
                case measure => simp [intOf]; omega
        · have hkli : ¬ (k : Int) < vs.length := by omega
          obtain rfl : k = vs.length := by omega
          have HB3 := Lib.hid hBx
          rw [tJ_all]
          obtain ⟨s, hs⟩ : ∃ s, tR us vs (i + 1) = s := ⟨_, rfl⟩
          rw [hs]
          have HS := Lib.hid hs
          clear hs hBx hB
          go_wp2_with fail
          go_roundw
          case rel => exact ⟨i + 1, by omega, by go_num, by rw [HS.out], by rw [HS.out], HB3.out⟩
          case measure => simp [intOf]; omega
    · have hili : ¬ (i : Int) < us.length := by omega
      obtain rfl : i = us.length := by omega
      obtain ⟨t, ht⟩ : ∃ t, tR us vs us.length = t := ⟨_, rfl⟩
      rw [ht]
      have HP : Hid (touchB a b = t) := Lib.hid (by rw [HT.out, ht])
      obtain ⟨q, j, l, r, hr⟩ : ∃ q j l t, conT a b = (q, j, l, t) := ⟨_, _, _, _, rfl⟩
      have e2 : t = r := by rw [← HP.out, ← conT_touch, hr]
      subst e2
      have HC1 := Lib.hid hr
      have HC2 := Lib.hid (con_check hr)
      have u0i : (0 : Int) < us.length := by omega
      have v0i : (0 : Int) < vs.length := by omega
      replace PA := Lib.hid (prow_below PA.out hB)
      replace PB := Lib.hid (prow_below PB.out hB)
      replace B := Lib.hid (belT B.out hB)
      clear hB ht hr QU QV HT UP VP
      go_wp2_with fail
      refine (contact_is ao bo _ _ ca cb a b q j l t _ rfl rfl HC1 (by omega) (by omega) a12 b12 PA.out PB.out RA.out RB.out).mono ?_
      rintro e w21 ⟨rfl, hb21⟩
      replace PA := Lib.hid (prow_below PA.out hb21)
      replace PB := Lib.hid (prow_below PB.out hb21)
      replace B := Lib.hid (belT B.out hb21)
      clear hb21
      cases t with
      | false =>
        go_wp2_with fail
        refine (polygons_is ao bo _ _ ca cb a b false _ rfl rfl HP (by omega) (by omega) a12 b12 (prow_alloc PA.out (.cells #[.int .i64 q, .int .i64 j, .int .i64 l] 37)) (prow_alloc PB.out (.cells #[.int .i64 q, .int .i64 j, .int .i64 l] 37)) RA.out RB.out).mono ?_
        rintro e w22 ⟨rfl, hb22⟩
        replace PA := Lib.hid (prow_below (prow_alloc PA.out (.cells #[.int .i64 q, .int .i64 j, .int .i64 l] 37)) hb22)
        replace PB := Lib.hid (prow_below (prow_alloc PB.out (.cells #[.int .i64 q, .int .i64 j, .int .i64 l] 37)) hb22)
        have Z2 := Lib.hid (blk_call (blk_new w21 (.cells #[.int .i64 q, .int .i64 j, .int .i64 l] 37) (w21.heap.size) rfl) hb22)
        replace B := Lib.hid (belT (belA B.out (.cells #[.int .i64 q, .int .i64 j, .int .i64 l] 37)) hb22)
        clear hb22
        go_wp2_with fail
        go_ret
        exact ⟨rfl, B.out⟩
      | true =>
        go_wp2_with fail
        refine (polygons_is ao bo _ _ ca cb a b true _ rfl rfl HP (by omega) (by omega) a12 b12 (prow_alloc PA.out (.cells #[.int .i64 q, .int .i64 j, .int .i64 l] 37)) (prow_alloc PB.out (.cells #[.int .i64 q, .int .i64 j, .int .i64 l] 37)) RA.out RB.out).mono ?_
        rintro e w22 ⟨rfl, hb22⟩
        replace PA := Lib.hid (prow_below (prow_alloc PA.out (.cells #[.int .i64 q, .int .i64 j, .int .i64 l] 37)) hb22)
        replace PB := Lib.hid (prow_below (prow_alloc PB.out (.cells #[.int .i64 q, .int .i64 j, .int .i64 l] 37)) hb22)
        have Z2 := Lib.hid (blk_call (blk_new w21 (.cells #[.int .i64 q, .int .i64 j, .int .i64 l] 37) (w21.heap.size) rfl) hb22)
        replace B := Lib.hid (belT (belA B.out (.cells #[.int .i64 q, .int .i64 j, .int .i64 l] 37)) hb22)
        clear hb22
        have d0 := blk_cell Z2.out 0 _ rfl
        have d1 := blk_cell Z2.out 1 _ rfl
        have d2 := blk_cell Z2.out 2 _ rfl
        go_wp2_with fail
        refine (iscon_is ao bo _ _ ca cb a b q j l true _ rfl rfl HC2 (by omega) (by omega) a12 b12 PA.out PB.out RA.out RB.out).mono ?_
        rintro e w23 ⟨rfl, hb23⟩
        clear d0 d1 d2
        replace PA := Lib.hid (prow_below PA.out hb23)
        replace PB := Lib.hid (prow_below PB.out hb23)
        replace Z2 := Lib.hid (blk_call Z2.out hb23)
        replace B := Lib.hid (belT B.out hb23)
        clear hb23
        go_wp2_with fail
        go_ret
        exact ⟨rfl, B.out⟩

set_option maxRecDepth 100000 in
theorem lifted (os : Os) (started : os.Started) (H : Type) (enc : TypeId × Value → H) :
    ReturnsInHanded {} Try.checked os 10 .any (Rows.topDecompositionSpec.pre6 enc Try.prog Try.f10 Rows.topDecompositionRow.domain false) (Rows.topDecompositionSpec.post enc Try.prog Try.f10 false true false false) := by
  refine returnsInHanded_of_change (C := Try.checked) HFr.own started (by kernel_rfl) Try.func10
    (ChangeSpec.witness6 (enc := enc) (C := Try.checked) false ⟨#[], #[.slice none 0 0, .slice none 0 0], []⟩ 8 (by kernel_rfl) (by kernel_rfl) (by kernel_rfl) (by kernel_rfl)) ?_
  intro W base args ds gs before hval0 hW hcnd _
  have hval : ∀ (j : Nat) t v, Try.f10.params[j]? = some t → args[j]? = some v → Value.okWide Try.prog W .any base t v := hval0
  have hW' := hW
  obtain ⟨p, q, hA0, hV, rfl, hfz, hnd⟩ := hW
  have hA : DataW.TrodAll enc Try.prog W 0 (fun _ => true) true Try.f10.params.toList args.toList ds p := hA0
  rw [Try.params10] at hA hval
  obtain ⟨v0, vs0, d0, ds0, p0, q0, hargs, rfl, rfl, h0, r0⟩ := trodAll_cons hA
  obtain ⟨v1, vs1, d1, ds1, p1, q1, rfl, rfl, rfl, h1, r1⟩ := trodAll_cons r0
  obtain ⟨rfl, rfl, rfl⟩ := trodAll_nil r1
  obtain rfl : args = #[v0, v1] := by cases args; simp_all
  obtain ⟨rfl, rfl⟩ := trodVars_none hV
  have k0 := h0
  have lt0 : ∀ x ∈ p0, x.block < W.heap.size := by obtain ⟨m, hm⟩ := k0; exact DataW.trod_lt m _ _ _ hm
  obtain ⟨a0, cap0, l0, rfl, n0, w0⟩ := HFr.open_poly (hval 0 23 v0 rfl rfl) h0
  have k1 := h1
  have lt1 : ∀ x ∈ p1, x.block < W.heap.size := by obtain ⟨m, hm⟩ := k1; exact DataW.trod_lt m _ _ _ hm
  obtain ⟨a1, cap1, l1, rfl, n1, w1⟩ := HFr.open_poly (hval 1 23 v1 rfl rfl) h1
  clear hA0 hval0
  refine (walk a0 cap0 l0 n0 w0 a1 cap1 l1 n1 w1 W rfl).mono fun e W' ⟨he, bel⟩ => ?_
  subst he
  exact ⟨_, rfl, _, _, _, [], _, [], hW', trodAll_mk1 (shut_bool Try.underlying4 _), (trodAll_cons_mk (Below.trod HFr.laidOut (by kernel_rfl) (of_decide_eq_true (by kernel_rfl)) k0 bel lt0) (trodAll_cons_mk (Below.trod HFr.laidOut (by kernel_rfl) (of_decide_eq_true (by kernel_rfl)) k1 bel lt1) trodAll_mk0)), rfl, bel.frame _, fun h => by cases h⟩

/-- THE STATEMENT. -/
theorem holds : Rows.TopDecompositionSaid :=
  OpenClaim.holds_of_wide 10 Try.f10 rfl rfl rfl rfl rfl rfl rfl ⟨rfl, rfl, rfl, rfl, rfl⟩ rfl rfl rfl rfl rfl (by kernel_rfl) Try.func10 (by kernel_rfl)
    (of_decide_eq_true (by kernel_rfl)) (by unfold Func.isWrapper; first | (rw [if_pos (by decide +kernel)]; kernel_rfl) | (rw [if_neg (by decide +kernel)]; exact ⟨rfl, rfl⟩))
    (fun os started H enc _ => lifted os started H enc)
#print axioms holds
end Go.Proofs.Ytojfonenpplahaa.topDecomposition
