/- Proved: hulls and decompositions are translated with their input (the law HullTranslated returns true).
Conditions: none on the arguments. -/
import Derived.Test.YtjgkipgllpelhaaHlU
import Derived.Test.YtjgkipgllpelhaaHlV
import Derived.Test.YtjgkipgllpelhaaHlN
import Derived.Test.YtjgkipgllpelhaaHuH
import Derived.Test.YtjgkipgllpelhaaHlFr
namespace Go.Proofs.Ytjgkipgllpelhaa.hullTranslated
open Go.ChangeShapes Go.WideShapes Go.ChangeAt Go.RowKit
set_option linter.unusedVariables false
set_option linter.unusedSimpArgs false

theorem hull_allV {l : List (Int × Int)} (h : AllV l) : AllV (hullL l) := by
  rcases hull_cases l with ⟨e, _⟩ | ⟨_, hH⟩
  · rw [e]; intro i hi; simp at hi
  · exact (allV_iff _).2 fun q hq => by
      obtain ⟨j, hj, e⟩ := mem_gp hq
      rw [← e]
      exact (allV_iff l).1 h _ (hH.2.1 j hj)
theorem dec_facts {ps : List (Int × Int)} {us : List (List (Int × Int))} (h : validP ps = true) (hu : decL ps = us) : ∀ k, k < us.length → (us.getD k []).length ≤ 12 ∧ AllV (us.getD k []) := fun k hk => by
  obtain ⟨h3, h12, hV⟩ := valid_parts h
  cases hc : convB ps with
  | true =>
    rw [← hu, dec_conv hc] at hk ⊢
    obtain rfl : k = 0 := by simp at hk; omega
    exact ⟨h12, hV⟩
  | false =>
    have hcl : Clips ps us := by rw [← hu]; exact dec_clips h hc
    obtain ⟨q1, _, q3⟩ := hcl.part (ccw_valid h).good (getD_mem' hk)
    exact ⟨by omega, allV_sub hV q3⟩
theorem dec_len {ps : List (Int × Int)} (h : validP ps = true) : (decL ps).length ≤ 12 := by
  obtain ⟨h3, h12, hV⟩ := valid_parts h
  cases hc : convB ps with
  | true => rw [dec_conv hc]; simp
  | false => have := clips_len (dec_clips h hc); omega
theorem hull_len' {l : List (Int × Int)} (h : l.length ≤ 40) : (hullL l).length ≤ 80 := by
  unfold hullL
  split
  · simp
  · have := hull_len l; omega

set_option maxRecDepth 100000 in
set_option maxHeartbeats 16000000 in
theorem walk_w {w : World} (ao : Option Addr) (cap : Nat) (l : List (Int × Int)) (nl : l.length ≤ 9223372036854775807) (hP : PRow w ao l) (bo : Option Addr) (cb : Nat) (ps : List (Int × Int)) (nb : ps.length ≤ 9223372036854775807) (hQ : PRow w bo ps) (x y : Int) :
    Calls Try.prog 9 #[.slice ao l.length cap, .slice bo ps.length cb, .agg #[.int .i64 x, .int .i64 y]] w fun e w' => e = .returned (.bool true) ∧ Below w.heap.size w w' := by
  have HP := Lib.hid hP
  have HQ := Lib.hid hQ
  clear hP hQ
  go_enter Try.func9, Try.ntmps9
  go_wp2_with fail
  refine (head_is _).mono ?_
  rintro e w1 ⟨rfl, b1⟩
  have B0 := belA (Below.refl _ w) (.cells #[.int .i64 x, .int .i64 y] 35)
  have X1 := blk_call (blk_new w (.cells #[.int .i64 x, .int .i64 y] 35) _ rfl) b1
  have B1 := Lib.hid (belT B0 b1)
  have P1 := Lib.hid (prow_below HP.out B1.out)
  have Q1 := Lib.hid (prow_below HQ.out B1.out)
  clear b1 B0
  generalize hzx : w.heap.size = zx at *
  have HZX := Lib.hid hzx
  have f0 := blk_cell X1 0 _ rfl
  have f1 := blk_cell X1 1 _ rfl
  have zX := blk_lt X1
  have HX1 := Lib.hid X1
  obtain ⟨t1, ht1⟩ : ∃ t, fitsL l = t := ⟨_, rfl⟩
  obtain ⟨t2, ht2⟩ : ∃ t, fitsL ps = t := ⟨_, rfl⟩
  obtain ⟨t3, ht3⟩ : ∃ t, fitsL [(x, y)] = t := ⟨_, rfl⟩
  have T1 := Lib.hid ht1
  have T2 := Lib.hid ht2
  have T3 := Lib.hid ht3
  clear X1 hzx ht1 ht2 ht3
  go_wp2_with fail
  refine (fits_is ao l.length cap l t1 w1 rfl T1 nl P1.out).mono ?_
  rintro e wx ⟨rfl, rfl⟩
  go_wp2_with fail
  refine (fits_is bo ps.length cb ps t2 w1 rfl T2 nb Q1.out).mono ?_
  rintro e wx ⟨rfl, rfl⟩
  go_wp2_with fail
  refine (fits_is (some ⟨w1.heap.size, 0, none⟩) 1 1 [(x, y)] t3 _ rfl T3 (by decide) (prow_one (cbx _ _ _ _ 0 _ rfl rfl) (cbx _ _ _ _ 1 _ rfl rfl))).mono ?_
  rintro e wx ⟨rfl, rfl⟩
  have hba := belA (Below.refl _ w1) (.cells #[.int .i64 x, .int .i64 y] 35)
  have B2 := Lib.hid (B1.out.trans (hba.mono (by have := B1.out.size; have := HZX.out; omega)))
  have P2 := Lib.hid (prow_below P1.out hba)
  have Q2 := Lib.hid (prow_below Q1.out hba)
  have X2 := blk_alloc HX1.out (.cells #[.int .i64 x, .int .i64 y] 35)
  clear f0 f1 zX hba
  generalize w1.alloc (.cells #[.int .i64 x, .int .i64 y] 35) = w2 at *
  have f0 := blk_cell X2 0 _ rfl
  have f1 := blk_cell X2 1 _ rfl
  have zX := blk_lt X2
  have HX2 := Lib.hid X2
  clear X2
  cases t1 with
  | false =>
    go_wp2
    go_ret
    exact ⟨rfl, by rw [HZX.out]; exact B2.out⟩
  | true =>
  cases t2 with
  | false =>
    go_wp2
    go_ret
    exact ⟨rfl, by rw [HZX.out]; exact B2.out⟩
  | true =>
  cases t3 with
  | false =>
    go_wp2
    go_ret
    exact ⟨rfl, by rw [HZX.out]; exact B2.out⟩
  | true =>
  obtain ⟨l40, hV⟩ := (fitsL_iff l).1 T1.out
  obtain ⟨p40, hVp⟩ := (fitsL_iff ps).1 T2.out
  have HXY : Hid (InV x ∧ InV y) := Lib.hid ((((fitsL_iff _).1 T3.out).2) 0 (by simp))
  have HV := Lib.hid hV
  have HVP := Lib.hid hVp
  obtain ⟨ml, hml⟩ : ∃ m, movL l x y = m := ⟨_, rfl⟩
  obtain ⟨mp, hmp⟩ : ∃ m, movL ps x y = m := ⟨_, rfl⟩
  have hmll : ml.length = l.length := by rw [← hml, movL_len]
  have hmpl : mp.length = ps.length := by rw [← hmp, movL_len]
  have HML := Lib.hid hml
  have HMP := Lib.hid hmp
  have HLL := Lib.hid hmll
  have HPL := Lib.hid hmpl
  clear hV hVp hml hmp hmll hmpl
  go_wp2_with fail
  refine (moved_is ao l.length cap l ml x y w2 rfl HML (by omega) P2.out HV.out HXY.out.1 HXY.out.2).mono ?_
  rintro e w3 ⟨⟨ao3, c3, rfl, p3⟩, hb⟩
  have B3 := Lib.hid (B2.out.trans (hb.mono (by have := B2.out.size; have := HZX.out; omega)))
  have P3 := Lib.hid (prow_below P2.out hb)
  have Q3 := Lib.hid (prow_below Q2.out hb)
  have M3 := Lib.hid p3
  have X3 := blk_call HX2.out hb
  clear f0 f1 zX p3 hb
  have f0 := blk_cell X3 0 _ rfl
  have f1 := blk_cell X3 1 _ rfl
  have zX := blk_lt X3
  have HX3 := Lib.hid X3
  clear X3
  go_wp2_with fail
  refine (moved_is bo ps.length cb ps mp x y w3 rfl HMP (by omega) Q3.out HVP.out HXY.out.1 HXY.out.2).mono ?_
  rintro e w4 ⟨⟨ao4, c4, rfl, p4⟩, hb⟩
  have B4 := Lib.hid (B3.out.trans (hb.mono (by have := B3.out.size; have := HZX.out; omega)))
  have P4 := Lib.hid (prow_below P3.out hb)
  have Q4 := Lib.hid (prow_below Q3.out hb)
  have M4 := Lib.hid (prow_below M3.out hb)
  have N4 := Lib.hid p4
  have HX4 := Lib.hid (blk_call HX3.out hb)
  clear f0 f1 zX p4 hb
  obtain ⟨t4, ht4⟩ : ∃ t, fitsL ml = t := ⟨_, rfl⟩
  obtain ⟨t5, ht5⟩ : ∃ t, fitsL mp = t := ⟨_, rfl⟩
  have T4 := Lib.hid ht4
  have T5 := Lib.hid ht5
  clear ht4 ht5
  go_wp2_with fail
  refine (fits_is ao3 l.length c3 ml t4 w4 HLL.out T4 nl M4.out).mono ?_
  rintro e wx ⟨rfl, rfl⟩
  go_wp2_with fail
  refine (fits_is ao4 ps.length c4 mp t5 w4 HPL.out T5 nb N4.out).mono ?_
  rintro e wx ⟨rfl, rfl⟩
  cases t4 with
  | false =>
    go_wp2
    go_ret
    exact ⟨rfl, by rw [HZX.out]; exact B4.out⟩
  | true =>
  cases t5 with
  | false =>
    go_wp2
    go_ret
    exact ⟨rfl, by rw [HZX.out]; exact B4.out⟩
  | true =>
  have HVL := Lib.hid ((fitsL_iff ml).1 T4.out).2
  have HVM := Lib.hid ((fitsL_iff mp).1 T5.out).2
  obtain ⟨H, hH⟩ : ∃ H, hullL l = H := ⟨_, rfl⟩
  obtain ⟨G, hG⟩ : ∃ G, hullL ml = G := ⟨_, rfl⟩
  obtain ⟨t, ht⟩ : ∃ t, decide (H ≠ []) = t := ⟨_, rfl⟩
  have HHL := Lib.hid hH
  have HGL := Lib.hid hG
  have HTT := Lib.hid ht
  have HGM : Hid (movL H x y = G) := Lib.hid (by rw [← hG, ← HML.out, movL_hull, hH])
  have HTG : Hid (decide (G ≠ []) = t) := Lib.hid (by rw [← HGM.out, ← ht]; unfold movL; cases H <;> simp)
  have HGH : Hid (G.length = H.length) := Lib.hid (by rw [← HGM.out, movL_len])
  have HVH : Hid (AllV H) := Lib.hid (by rw [← hH]; exact hull_allV HV.out)
  have h80 : H.length ≤ 80 := by rw [← hH]; exact hull_len' l40
  clear hH hG ht
  go_wp2_with fail
  refine (of_is ao l.length cap l H t w4 rfl HHL HTT (by omega) P4.out HV.out).mono ?_
  rintro e w5 ⟨⟨ho, hc, rfl, hp⟩, hb⟩
  have B5 := Lib.hid (B4.out.trans (hb.mono (by have := B4.out.size; have := HZX.out; omega)))
  have Q5 := Lib.hid (prow_below Q4.out hb)
  have M5 := Lib.hid (prow_below M4.out hb)
  have N5 := Lib.hid (prow_below N4.out hb)
  have HX5 := Lib.hid (blk_call HX4.out hb)
  have H5 := Lib.hid hp
  clear hb hp
  go_wp2_with fail
  refine (of_is ao3 l.length c3 ml G t w5 HLL.out HGL HTG (by omega) M5.out HVL.out).mono ?_
  rintro e w6 ⟨⟨go, gc, rfl, hp⟩, hb⟩
  have B6 := Lib.hid (B5.out.trans (hb.mono (by have := B5.out.size; have := HZX.out; omega)))
  have Q6 := Lib.hid (prow_below Q5.out hb)
  have N6 := Lib.hid (prow_below N5.out hb)
  have H6 := Lib.hid (prow_below H5.out hb)
  have G6 := Lib.hid hp
  have X6 := blk_call HX5.out hb
  have f0 := blk_cell X6 0 _ rfl
  have f1 := blk_cell X6 1 _ rfl
  have zX := blk_lt X6
  have HX6 := Lib.hid X6
  clear hb hp X6
  go_wp2_with fail
  refine (moved_is ho H.length hc H G x y w6 rfl HGM (by omega) H6.out HVH.out HXY.out.1 HXY.out.2).mono ?_
  rintro e w7 ⟨⟨ao7, c7, rfl, p7⟩, hb⟩
  have B7 := Lib.hid (B6.out.trans (hb.mono (by have := B6.out.size; have := HZX.out; omega)))
  have Q7 := Lib.hid (prow_below Q6.out hb)
  have N7 := Lib.hid (prow_below N6.out hb)
  have G7 := Lib.hid (prow_below G6.out hb)
  have HX7 := Lib.hid (blk_call HX6.out hb)
  have K7 := Lib.hid p7
  clear f0 f1 zX hb p7
  go_wp2_with fail
  refine (same_is go ao7 G.length H.length gc c7 G G true w7 rfl HGH.out (Lib.hid (by simp)) (by have := HGH.out; omega) (by have := HGH.out; omega) G7.out K7.out).mono ?_
  rintro e w8 ⟨rfl, hb⟩
  have B8 := Lib.hid (B7.out.trans (hb.mono (by have := B7.out.size; have := HZX.out; omega)))
  have Q8 := Lib.hid (prow_below Q7.out hb)
  have N8 := Lib.hid (prow_below N7.out hb)
  have HX8 := Lib.hid (blk_call HX7.out hb)
  clear hb
  obtain ⟨c, hcc⟩ : ∃ c, convB ps = c := ⟨_, rfl⟩
  have HC := Lib.hid hcc
  have HCM : Hid (convB mp = c) := Lib.hid (by rw [← HMP.out, movL_conv, hcc])
  clear hcc
  have htt : (t != t) = false := by cases t <;> rfl
  go_wp2_with fail
  refine (conv_is bo ps.length cb ps c w8 rfl HC (by omega) Q8.out HVP.out).mono ?_
  rintro e w9 ⟨rfl, hb⟩
  have B9 := Lib.hid (B8.out.trans (hb.mono (by have := B8.out.size; have := HZX.out; omega)))
  have Q9 := Lib.hid (prow_below Q8.out hb)
  have N9 := Lib.hid (prow_below N8.out hb)
  have HX9 := Lib.hid (blk_call HX8.out hb)
  clear hb
  go_wp2_with fail
  refine (conv_is ao4 ps.length c4 mp c w9 HPL.out HCM (by omega) N9.out HVM.out).mono ?_
  rintro e wa ⟨rfl, hb⟩
  have Ba := Lib.hid (B9.out.trans (hb.mono (by have := B9.out.size; have := HZX.out; omega)))
  have Qa := Lib.hid (prow_below Q9.out hb)
  have Na := Lib.hid (prow_below N9.out hb)
  have HXa := Lib.hid (blk_call HX9.out hb)
  clear hb
  have hcc : (c != c) = false := by cases c <;> rfl
  obtain ⟨r, hr⟩ : ∃ r, validP ps = r := ⟨_, rfl⟩
  have HR := Lib.hid hr
  clear hr
  go_wp2_with fail
  refine (right4_is bo ps.length cb ps r wa rfl HR nb Qa.out).mono ?_
  rintro e wb ⟨rfl, hb⟩
  have Bb := Lib.hid (Ba.out.trans (hb.mono (by have := Ba.out.size; have := HZX.out; omega)))
  have Qb := Lib.hid (prow_below Qa.out hb)
  have Nb := Lib.hid (prow_below Na.out hb)
  have HXb := Lib.hid (blk_call HXa.out hb)
  clear hb
  cases r with
  | false =>
    go_wp2
    go_ret
    exact ⟨rfl, by rw [HZX.out]; exact Bb.out⟩
  | true =>
  obtain ⟨p3, p12, _⟩ := valid_parts HR.out
  obtain ⟨us, hus⟩ : ∃ us, decL ps = us := ⟨_, rfl⟩
  obtain ⟨vs, hvs⟩ : ∃ vs, decL mp = vs := ⟨_, rfl⟩
  have HUS := Lib.hid hus
  have HVS := Lib.hid hvs
  have HUV : Hid (vs = us.map fun t => movL t x y) := Lib.hid (by rw [← hvs, ← hus, ← HMP.out, movL_dec])
  have HDF := Lib.hid (dec_facts HR.out hus)
  have hu12 : us.length ≤ 12 := by rw [← hus]; exact dec_len HR.out
  have hvl : vs.length = us.length := by rw [HUV.out, List.length_map]
  have HVL2 := Lib.hid hvl
  clear hus hvs hvl
  go_wp2_with fail
  refine (decompose_is bo ps.length cb ps us wb rfl HUS (by omega) (by omega) Qb.out HVP.out).mono ?_
  rintro e wc ⟨⟨bo1, cb1, rfl, hp⟩, hb⟩
  have Bc := Lib.hid (Bb.out.trans (hb.mono (by have := Bb.out.size; have := HZX.out; omega)))
  have Nc := Lib.hid (prow_below Nb.out hb)
  have HXc := Lib.hid (blk_call HXb.out hb)
  have Uc := Lib.hid hp
  clear hb hp
  go_wp2_with fail
  refine (decompose_is ao4 ps.length c4 mp vs wc HPL.out HVS (by omega) (by omega) Nc.out HVM.out).mono ?_
  rintro e wd ⟨⟨bo2, cb2, rfl, hp⟩, hb⟩
  have Bd := Lib.hid (Bc.out.trans (hb.mono (by have := Bc.out.size; have := HZX.out; omega)))
  have HXd := Lib.hid (blk_call HXc.out hb)
  have Ud := Lib.hid (prows_below Uc.out hb)
  have Vd := Lib.hid hp
  clear hb hp
  rw [HVL2.out]
  have hln : ((us.length : Int) != (us.length : Int)) = false := by simp
  go_wp2
  go_loopw [23] (fun i wr => ∃ k : Nat, k ≤ us.length ∧ i = .int .i64 k ∧ Below wd.heap.size wd wr) (fun i _ => us.length - (intOf i).toNat)
  case atStart => exact ⟨0, Nat.zero_le _, rfl, Below.refl _ _⟩
  case round =>
    obtain ⟨k, hk, rfl, hB⟩ := hrel
    by_cases hlt : k < us.length
    · obtain ⟨q1, q2⟩ := HDF.out k hlt
      obtain ⟨b1, o1, ro1, rc1, rfl, c1, hpr1⟩ := Ud.out k hlt
      obtain ⟨b2, o2, ro2, rc2, rfl, c2, hpr2⟩ := Vd.out k (by rw [HVL2.out]; exact hlt)
      have hg : vs.getD k [] = movL (us.getD k []) x y := by
        rw [HUV.out, List.getD_eq_getElem?_getD, List.getD_eq_getElem?_getD, List.getElem?_map, List.getElem?_eq_getElem hlt]; rfl
      have hgl : (vs.getD k []).length = (us.getD k []).length := by rw [hg, movL_len]
      have hki : (k : Int) < us.length := by omega
      have z1 : b1 < wd.heap.size := World.block_lt_of_cell? wd _ c1
      have z2 : b2 < wd.heap.size := World.block_lt_of_cell? wd _ c2
      have e1 := (hB.cell z1).trans c1
      have e2 := (hB.cell z2).trans c2
      have R1 := Lib.hid (prow_below hpr1 hB)
      have R2 := Lib.hid (prow_below hpr2 hB)
      have X5 := blk_call HXd.out hB
      have f0 := blk_cell X5 0 _ rfl
      have f1 := blk_cell X5 1 _ rfl
      have QV := Lib.hid q2
      have HB := Lib.hid hB
      rw [hgl] at e2
      have HM := Lib.hid hg.symm
      have HML := Lib.hid hgl
      clear hB c1 c2 hpr1 hpr2 q2 hg hgl X5
      generalize us.getD k [] = TL at *
      generalize vs.getD k [] = M at *
      go_upto_region 28 with fail
      obtain ⟨sp, hsp⟩ : ∃ sp : ToldS, sp = [none, none, none, none, none, none, none, none, none, none, none, none, none, none, none, none, none, none, none, none, none, none, none, none, none, none, none, none, none, none, none, none, none, none, none, none, none, none, none, none, none, none, none, none, none, none, none, none, none, none, none, none, none, none, none, none, none, none, none, none, none, none, none, none, none, none, none, none, none, none, none, none, none, none, none, none, none, none, none, none, none, none, none, none, none, none, none, none, none, none, none, none, none, none, none, none, none, none, none, none, none, none, none, none, none, none, none, none, none, none, some (eqS (.slice (some ⟨b2, o2, none⟩) us.length cb2)), some (eqS (.int .i64 (k : Int))), some (eqS (.pointer (some ⟨b2, o2 + k, none⟩))), some (eqS (.slice ro2 TL.length rc2)), some (eqS (.slice (some ⟨b1, o1, none⟩) us.length cb1)), some (eqS (.int .i64 (k : Int))), some (eqS (.pointer (some ⟨b1, o1 + k, none⟩))), some (eqS (.slice ro1 TL.length rc1)), some (eqS (.agg #[.int .i64 x, .int .i64 y])), some (rowS M), some (eqS (.bool true))] := ⟨_, rfl⟩
      have s110 : sp.getD 110 none = some (eqS (.slice (some ⟨b2, o2, none⟩) us.length cb2)) := by rw [hsp]; rfl
      have s111 : sp.getD 111 none = some (eqS (.int .i64 (k : Int))) := by rw [hsp]; rfl
      have s112 : sp.getD 112 none = some (eqS (.pointer (some ⟨b2, o2 + k, none⟩))) := by rw [hsp]; rfl
      have s113 : sp.getD 113 none = some (eqS (.slice ro2 TL.length rc2)) := by rw [hsp]; rfl
      have s114 : sp.getD 114 none = some (eqS (.slice (some ⟨b1, o1, none⟩) us.length cb1)) := by rw [hsp]; rfl
      have s115 : sp.getD 115 none = some (eqS (.int .i64 (k : Int))) := by rw [hsp]; rfl
      have s116 : sp.getD 116 none = some (eqS (.pointer (some ⟨b1, o1 + k, none⟩))) := by rw [hsp]; rfl
      have s117 : sp.getD 117 none = some (eqS (.slice ro1 TL.length rc1)) := by rw [hsp]; rfl
      have s118 : sp.getD 118 none = some (eqS (.agg #[.int .i64 x, .int .i64 y])) := by rw [hsp]; rfl
      have s119 : sp.getD 119 none = some (rowS M) := by rw [hsp]; rfl
      have s120 : sp.getD 120 none = some (eqS (.bool true)) := by rw [hsp]; rfl
      clear hsp
      refine (wpIn_wide (n := 0)).1 (region_headR (RtS sp) (rtS_keep sp) 11 rfl rfl rfl (by kernel_rfl) (by decide) (by kernel_rfl) (by kernel_rfl) (by kernel_rfl) ?_ ?_)
      · intro Q'; show ObsR _ _ _ _ _ _ _ _ (List.take _ _); simp only [List.take_succ_cons, List.take_zero]
        refine obsR_cons ?_ ?_
        · intro T wx K hB hF hD hK
          have g22 : T[22]? = some (.slice (some ⟨b2, o2, none⟩) us.length cb2) := hF 22 (freeM_of (by kernel_rfl))
          refine ob_yes (wanted_none rfl) ?_
          clear hF hD
          go_simp
          exact hK _ _ (Below.refl _ _) (rt_eqS s110)
        refine obsR_cons ?_ ?_
        · intro T wx K hB hF hD hK
          have g23 : T[23]? = some (.int .i64 (k : Int)) := hF 23 (freeM_of (by kernel_rfl))
          refine ob_yes (wanted_none rfl) ?_
          clear hF hD
          go_simp
          exact hK _ _ (Below.refl _ _) (rt_eqS s111)
        refine obsR_cons ?_ ?_
        · intro T wx K hB hF hD hK
          have g110 := get_eqS (hD 0 110 (by simp [Region.binds]) (by kernel_rfl)) s110
          have g111 := get_eqS (hD 1 111 (by simp [Region.binds]) (by kernel_rfl)) s111
          refine ob_yes (wanted_none rfl) ?_
          clear hF hD
          go_simp
          exact hK _ _ (Below.refl _ _) (rt_eqS s112)
        refine obsR_cons ?_ ?_
        · intro T wx K hB hF hD hK
          have g112 := get_eqS (hD 2 112 (by simp [Region.binds]) (by kernel_rfl)) s112
          refine ob_yes (wanted_none rfl) ?_
          clear hF hD
          have c0 := cell_call e2 hB
          go_simp
          exact hK _ _ (Below.refl _ _) (rt_eqS s113)
        refine obsR_cons ?_ ?_
        · intro T wx K hB hF hD hK
          have g21 : T[21]? = some (.slice (some ⟨b1, o1, none⟩) us.length cb1) := hF 21 (freeM_of (by kernel_rfl))
          refine ob_yes (wanted_none rfl) ?_
          clear hF hD
          go_simp
          exact hK _ _ (Below.refl _ _) (rt_eqS s114)
        refine obsR_cons ?_ ?_
        · intro T wx K hB hF hD hK
          have g23 : T[23]? = some (.int .i64 (k : Int)) := hF 23 (freeM_of (by kernel_rfl))
          refine ob_yes (wanted_none rfl) ?_
          clear hF hD
          go_simp
          exact hK _ _ (Below.refl _ _) (rt_eqS s115)
        refine obsR_cons ?_ ?_
        · intro T wx K hB hF hD hK
          have g114 := get_eqS (hD 4 114 (by simp [Region.binds]) (by kernel_rfl)) s114
          have g115 := get_eqS (hD 5 115 (by simp [Region.binds]) (by kernel_rfl)) s115
          refine ob_yes (wanted_none rfl) ?_
          clear hF hD
          go_simp
          exact hK _ _ (Below.refl _ _) (rt_eqS s116)
        refine obsR_cons ?_ ?_
        · intro T wx K hB hF hD hK
          have g116 := get_eqS (hD 6 116 (by simp [Region.binds]) (by kernel_rfl)) s116
          refine ob_yes (wanted_none rfl) ?_
          clear hF hD
          have c0 := cell_call e1 hB
          go_simp
          exact hK _ _ (Below.refl _ _) (rt_eqS s117)
        refine obsR_cons ?_ ?_
        · intro T wx K hB hF hD hK
          have g5 : T[5]? = some (.pointer (some ⟨zx, 0, none⟩)) := hF 5 (freeM_of (by kernel_rfl))
          refine ob_yes (wanted_none rfl) ?_
          clear hF hD
          have c0 := cell_call f0 hB
          have c1 := cell_call f1 hB
          go_simp
          exact hK _ _ (Below.refl _ _) (rt_eqS s118)
        refine obsR_cons ?_ ?_
        · intro T wx K hB hF hD hK
          have g117 := get_eqS (hD 7 117 (by simp [Region.binds]) (by kernel_rfl)) s117
          have g118 := get_eqS (hD 8 118 (by simp [Region.binds]) (by kernel_rfl)) s118
          refine ob_yes (wanted_none rfl) ?_
          clear hF hD
          go_simp
          refine (moved_is ro1 TL.length rc1 TL M x y wx rfl HM (by omega) (prow_below R1.out hB) QV.out HXY.out.1 HXY.out.2).mono ?_
          rintro e w9 ⟨⟨a9, c9, rfl, p9⟩, hb⟩
          exact hK _ _ hb (rt_S s119 ⟨a9, c9, by rw [HML.out], p9⟩)
        refine obsR_cons ?_ ?_
        · intro T wx K hB hF hD hK
          have g113 := get_eqS (hD 3 113 (by simp [Region.binds]) (by kernel_rfl)) s113
          obtain ⟨v119, g119, p119⟩ := getS (hD 9 119 (by simp [Region.binds]) (by kernel_rfl)) s119
          refine ob_yes (wanted_none rfl) ?_
          clear hF hD
          obtain ⟨a9, c9, rfl, p9⟩ := p119
          go_simp
          refine (same_is ro2 a9 TL.length M.length rc2 c9 M M true wx HML.out rfl (Lib.hid (by simp)) (by have := HML.out; omega) (by have := HML.out; omega) (prow_below R2.out hB) p9).mono ?_
          rintro e w9 ⟨rfl, hb⟩
          exact hK _ _ hb (rt_eqS s120)
        exact obsR_nil
      · intro T w8 hb hF hs hD
        have g110 := get_eqS (hD 0 110 (by decide) (by kernel_rfl)) s110
        have g111 := get_eqS (hD 1 111 (by decide) (by kernel_rfl)) s111
        have g112 := get_eqS (hD 2 112 (by decide) (by kernel_rfl)) s112
        have g113 := get_eqS (hD 3 113 (by decide) (by kernel_rfl)) s113
        have g114 := get_eqS (hD 4 114 (by decide) (by kernel_rfl)) s114
        have g115 := get_eqS (hD 5 115 (by decide) (by kernel_rfl)) s115
        have g116 := get_eqS (hD 6 116 (by decide) (by kernel_rfl)) s116
        have g117 := get_eqS (hD 7 117 (by decide) (by kernel_rfl)) s117
        have g118 := get_eqS (hD 8 118 (by decide) (by kernel_rfl)) s118
        obtain ⟨v119, g119, p119⟩ := getS (hD 9 119 (by decide) (by kernel_rfl)) s119
        have g120 := get_eqS (hD 10 120 (by decide) (by kernel_rfl)) s120
        have hT := conc [(110, .slice (some ⟨b2, o2, none⟩) us.length cb2), (111, .int .i64 (k : Int)), (112, .pointer (some ⟨b2, o2 + k, none⟩)), (113, .slice ro2 TL.length rc2), (114, .slice (some ⟨b1, o1, none⟩) us.length cb1), (115, .int .i64 (k : Int)), (116, .pointer (some ⟨b1, o1 + k, none⟩)), (117, .slice ro1 TL.length rc1), (118, .agg #[.int .i64 x, .int .i64 y]), (119, v119), (120, .bool true)] hs hF (by simp only [List.forall_mem_cons]; exact ⟨g110, g111, g112, g113, g114, g115, g116, g117, g118, g119, g120, fun p hp => absurd hp List.not_mem_nil⟩) (by kernel_rfl)
        simp only [List.foldl, List.setIfInBounds_toArray, List.set_cons_succ, List.set_cons_zero] at hT
        subst hT
        clear hF hD hs g110 g111 g112 g113 g114 g115 g116 g117 g118 g119 g120 s110 s111 s112 s113 s114 s115 s116 s117 s118 s119 s120
        show wpOpsIn _ _ _ _ _ [11] _ _
        have HB8 := Lib.hid (HB.out.trans (hb.mono HB.out.size))
        clear hb e1 e2 f0 f1 p119
        simp only [wpOpsIn]
        go_simp
        go_wp2
        go_roundw
        case rel => exact ⟨k + 1, by omega, by go_num, HB8.out⟩
        case measure => simp [intOf]; omega
    · have HB := Lib.hid (Bd.out.trans (hB.mono (by have := Bd.out.size; have := HZX.out; omega)))
      clear hB
      go_wp2
      go_ret
      exact ⟨rfl, by rw [HZX.out]; exact HB.out⟩

theorem walk {W : World} (ao : Option Addr) (cap : Nat) (l : List (Int × Int)) (nl : l.length ≤ 9223372036854775807) (hP : PRow W ao l) (bo : Option Addr) (cb : Nat) (ps : List (Int × Int)) (nb : ps.length ≤ 9223372036854775807) (hQ : PRow W bo ps) (x y : Int) (W' : World) (hw : W = W') :
    Calls Try.prog 9 #[.slice ao l.length cap, .slice bo ps.length cb, .agg #[.int .i64 x, .int .i64 y]] W fun e w' => e = .returned (.bool true) ∧ Below W.heap.size W w' := walk_w ao cap l nl hP bo cb ps nb hQ x y

set_option maxRecDepth 100000 in
theorem lifted (os : Os) (started : os.Started) (H : Type) (enc : TypeId × Value → H) :
    ReturnsInHanded {} Try.checked os 9 .any (Rows.hullTranslatedSpec.pre6 enc Try.prog Try.f9 Rows.hullTranslatedRow.domain false) (Rows.hullTranslatedSpec.post enc Try.prog Try.f9 false true false false) := by
  refine returnsInHanded_of_change (C := Try.checked) HFr.own started (by kernel_rfl) Try.func9
    (ChangeSpec.witness6 (enc := enc) (C := Try.checked) false ⟨#[], #[.slice none 0 0, .slice none 0 0, .agg #[.int .i64 0, .int .i64 0]], []⟩ 8 (by kernel_rfl) (by kernel_rfl) (by kernel_rfl) (by kernel_rfl)) ?_
  intro W base args ds gs before hval0 hW hcnd _
  have hval : ∀ (j : Nat) t v, Try.f9.params[j]? = some t → args[j]? = some v → Value.okWide Try.prog W .any base t v := hval0
  have hW' := hW
  obtain ⟨p, q, hA0, hV, rfl, hfz, hnd⟩ := hW
  have hA : DataW.TrodAll enc Try.prog W 0 (fun _ => true) true Try.f9.params.toList args.toList ds p := hA0
  rw [Try.params9] at hA hval
  obtain ⟨v0, vs0, d0, ds0, p0, q0, hargs, rfl, rfl, h0, r0⟩ := trodAll_cons hA
  obtain ⟨v1, vs1, d1, ds1, p1, q1, rfl, rfl, rfl, h1, r1⟩ := trodAll_cons r0
  obtain ⟨v2, vs2, d2, ds2, p2, q2, rfl, rfl, rfl, h2, r2⟩ := trodAll_cons r1
  obtain ⟨rfl, rfl, rfl⟩ := trodAll_nil r2
  obtain rfl : args = #[v0, v1, v2] := by cases args; simp_all
  obtain ⟨rfl, rfl⟩ := trodVars_none hV
  have k0 := h0
  have lt0 : ∀ x ∈ p0, x.block < W.heap.size := by obtain ⟨m, hm⟩ := k0; exact DataW.trod_lt m _ _ _ hm
  obtain ⟨a0, cap0, l0, rfl, n0, w0⟩ := HFr.open_pts (hval 0 22 v0 rfl rfl) h0
  have k1 := h1
  have lt1 : ∀ x ∈ p1, x.block < W.heap.size := by obtain ⟨m, hm⟩ := k1; exact DataW.trod_lt m _ _ _ hm
  obtain ⟨a1, cap1, l1, rfl, n1, w1⟩ := HFr.open_poly (hval 1 23 v1 rfl rfl) h1
  have k2 := h2
  have lt2 : ∀ x ∈ p2, x.block < W.heap.size := by obtain ⟨m, hm⟩ := k2; exact DataW.trod_lt m _ _ _ hm
  obtain ⟨x2, y2, rfl⟩ := HFr.open_pt (hval 2 35 v2 rfl rfl) h2
  clear hA0 hval0
  refine (walk a0 cap0 l0 n0 w0 a1 cap1 l1 n1 w1 x2 y2 W rfl).mono fun e W' ⟨he, bel⟩ => ?_
  subst he
  exact ⟨_, rfl, _, _, _, [], _, [], hW', trodAll_mk1 (shut_bool Try.underlying4 _), (trodAll_cons_mk (Below.trod HFr.laidOut (by kernel_rfl) (of_decide_eq_true (by kernel_rfl)) k0 bel lt0) (trodAll_cons_mk (Below.trod HFr.laidOut (by kernel_rfl) (of_decide_eq_true (by kernel_rfl)) k1 bel lt1) (trodAll_cons_mk (Below.trod HFr.laidOut (by kernel_rfl) (of_decide_eq_true (by kernel_rfl)) k2 bel lt2) trodAll_mk0))), rfl, bel.frame _, fun h => by cases h⟩

/-- THE STATEMENT. -/
theorem holds : Rows.HullTranslatedSaid :=
  OpenClaim.holds_of_wide 9 Try.f9 rfl rfl rfl rfl rfl rfl rfl ⟨rfl, rfl, rfl, rfl, rfl⟩ rfl rfl rfl rfl rfl (by kernel_rfl) Try.func9 (by kernel_rfl)
    (of_decide_eq_true (by kernel_rfl)) (by unfold Func.isWrapper; first | (rw [if_pos (by decide +kernel)]; kernel_rfl) | (rw [if_neg (by decide +kernel)]; exact ⟨rfl, rfl⟩))
    (fun os started H enc _ => lifted os started H enc)
#print axioms holds
end Go.Proofs.Ytjgkipgllpelhaa.hullTranslated
