/- Proved: the parts of a valid polygon that is cut along a segment between two corners have together its area, and, if both are valid, a point lies in the polygon exactly if it lies in one of them, and inside at most one (the law PolygonCutPreservesArea returns true).
Conditions: none on the arguments: for every polygon, every two indices and every point. The table of package rotation lies as the program text lays it (the card ties it). -/
import Derived.Test.YthmcejeeohlafaaDoorPolW
import Derived.Test.YthmcejeeohlafaaDoorPolX
import Derived.Test.YthmcejeeohlafaaDoorPolK
import Derived.Test.YthmcejeeohlafaaDoorJorI
import Derived.Test.YthmcejeeohlafaaDoorPolFr
import Derived.Test.YthmcejeeohlafaaDoorTie
import Derived.Test.YthmcejeeohlafaaDoorCards
import Derived.SevenTiedAt
import Derived.Deep.DeepCutAuto
import Derived.Deep.AppendLies
import Derived.Deep.RegionLaw
namespace Go.Proofs.YthmcejeeohlafaaDoor.polygonCutPreservesArea
open Go.ChangeShapes Go.WideShapes Go.ChangeAt Go.RowKit
set_option linter.unusedVariables false
set_option linter.unusedSimpArgs false

set_option maxRecDepth 100000 in
set_option maxHeartbeats 16000000 in
theorem walk_main {w : World} (ao : Option Addr) (cap m t : Nat) (ps : List (Int × Int)) (hle : ps.length ≤ 9223372036854775807) (hP : PRow w ao ps) (hm : m ≤ 255) (ht : t ≤ 255) (x1 x2 : Int) (hT : Rot.Tab w) (HV : Hid (validP ps = true)) (hp4 : 4 ≤ ps.length) (jx1 : InV x1) (jx2 : InV x2) :
    Calls Tryd.prog 5 #[.slice ao ps.length cap, .int .u8 (m : Int), .int .u8 (t : Int), .agg #[.int .i64 x1, .int .i64 x2]] w fun e w' => e = .returned (.bool true) ∧ Below w.heap.size w w' := by
  have HM1 : Hid (mayB x1 x2 = true) := Lib.hid ((mayB_iff x1 x2).2 ⟨jx1, jx2⟩)
  obtain ⟨h0, h12, hv⟩ : 0 < ps.length ∧ ps.length ≤ 12 ∧ AllV ps := by
    have hc := HV.out
    unfold validP at hc
    rw [Bool.and_eq_true] at hc
    obtain ⟨a, b, c⟩ := (validC_iff ps).1 hc.1
    exact ⟨by omega, b, c⟩
  have h4f : decide ((ps.length : Int) < 4) = false := decide_eq_false (by omega)
  have hvr := hv.allr2
  have ix1 := jx1.inr
  have ix2 := jx2.inr
  obtain ⟨us, hus⟩ : ∃ us, shL ps m = us := ⟨_, rfl⟩
  have hul : us.length = ps.length := by rw [← hus]; exact shL_len ps m
  have hu4 : 4 ≤ us.length := by omega
  have hu12 : us.length ≤ 12 := by omega
  have huv : AllV us := by rw [← hus]; exact shL_allv hv m
  have hur := huv.allr2
  have HVU : Hid (validP us = true) := Lib.hid (by rw [← hus, shL_valid ps m h0]; exact HV.out)
  have HAU : Hid (area2 us = area2 ps) := Lib.hid (by rw [← hus]; exact shL_area ps m h0)
  have HLU : Hid (locE us x1 x2 = locE ps x1 x2) := Lib.hid (by rw [← hus]; exact shL_loc ps m x1 x2 h0)
  have HUS := Lib.hid hus
  obtain ⟨kk, hkk0⟩ : ∃ r : Nat, t % (us.length - 3) = r := ⟨_, rfl⟩
  have hkl : kk < us.length - 3 := by rw [← hkk0]; exact Nat.mod_lt _ (by omega)
  have htm : (t : Int).tmod ((us.length : Int) - 3) = (kk : Int) := by
    rw [Int.tmod_eq_emod_of_nonneg (by omega), ← hkk0, show (us.length : Int) - 3 = ((us.length - 3 : Nat) : Int) by omega]; simp
  have hne : (us.length : Int) - 3 ≠ 0 := by omega
  have hwt : IntKind.i64.wrap (t : Int) = (t : Int) := wrap_k _ (by omega)
  obtain ⟨k, hk⟩ : ∃ k : Nat, kk + 2 = k := ⟨_, rfl⟩
  have hki : 2 + (kk : Int) = (k : Int) := by omega
  have hk2 : 2 ≤ k := by omega
  have hkn : k + 2 ≤ us.length := by omega
  obtain ⟨i0, hi, hz0, hz1', hz2⟩ := info_parts infoP
  obtain ⟨A1, hA1⟩ : ∃ A, area2 (oneL us k) = A := ⟨_, rfl⟩
  obtain ⟨A2, hA2⟩ : ∃ A, area2 (twoL us k) = A := ⟨_, rfl⟩
  obtain ⟨A, hA⟩ : ∃ A, area2 ps = A := ⟨_, rfl⟩
  have hAA : A1 + A2 = A := by rw [← hA1, ← hA2, ← hA, ← HAU.out]; exact (cut_area (by omega)).symm
  have hwA : IntKind.i64.wrap A = A := by have := area2_bd hv h0 h12; rw [hA] at this; rw [IntKind.wrap_i64]; omega
  have HA1 := Lib.hid hA1
  have HA2 := Lib.hid hA2
  have HA := Lib.hid hA
  have l1 := oneL_len (us := us) (k := k) (by omega)
  have l2 := twoL_len us k
  have h10 : 0 < (oneL us k).length := by omega
  have h112 : (oneL us k).length ≤ 12 := by omega
  have h20 : 0 < (twoL us k).length := by omega
  have h212 : (twoL us k).length ≤ 12 := by omega
  have h1v : AllV (oneL us k) := fun i hi => by
    rw [(oneL_at (us := us) (show i ≤ k by omega)).1, (oneL_at (us := us) (show i ≤ k by omega)).2]
    exact huv i (by omega)
  have h2v : AllV (twoL us k) := fun i hi => by
    cases i with
    | zero => exact huv 0 (by omega)
    | succ i =>
      rw [(twoL_at us k i).1, (twoL_at us k i).2]
      exact huv (k + i) (by omega)
  have h1r := h1v.allr2
  have h2r := h2v.allr2
  obtain ⟨v1, hv1⟩ : ∃ v, validP (oneL us k) = v := ⟨_, rfl⟩
  obtain ⟨v2, hv2⟩ : ∃ v, validP (twoL us k) = v := ⟨_, rfl⟩
  have HV1 := Lib.hid hv1
  have HV2 := Lib.hid hv2
  have HUL := Lib.hid hul
  clear hA1 hA2 hA l1 l2 hv1 hv2
  clear hus hul hkk0 hkl hk jx1 jx2
  have hB : Below w.heap.size w w := Below.refl _ _
  go_enter Tryd.func5, Tryd.ntmps5
  go_wp2_with fail
  refine (head_any _ (hT.alloc _)).mono ?_; rintro e w1 ⟨rfl, hb⟩
  have hXx := blk_call (blk_new w (.cells #[.int .i64 x1, .int .i64 x2] 25) (w.heap.size) (by simp)) hb
  replace hP := prow_below (prow_alloc hP _) hb
  replace hB := belT (belA hB _) hb
  clear hb
  clear hT
  go_wp2_with fail
  refine (valid_is _ _ cap ps true _ rfl HV hle hP).mono ?_; rintro e w2 ⟨rfl, hb⟩
  replace hXx := blk_call hXx hb
  replace hP := prow_below hP hb
  replace hB := belT hB hb
  clear hb
  have fhXx0 := blk_cell hXx 0 _ rfl
  have fhXx1 := blk_cell hXx 1 _ rfl
  have fhXxz := blk_lt hXx
  go_wp2_with fail
  refine (may_any x1 x2 true _ HM1).mono ?_; rintro e w3 ⟨rfl, hb⟩
  replace hXx := blk_call hXx hb
  replace hP := prow_below hP hb
  replace hB := belT hB hb
  clear hb
  clear fhXx0 fhXx1 fhXxz
  go_wp2_with fail
  refine (round_own _ _ cap m ps us _ rfl HUS h0 (by omega) hm hP).mono ?_; rintro e w4 ⟨⟨g, c, rfl, hc1, hc2, hU⟩, hb⟩
  replace hXx := blk_call hXx hb
  replace hP := prow_below hP hb
  replace hB := belT hB hb
  clear hb
  have hcK : k + 1 ≤ c := by omega
  go_wp2_with (at_builtin; refine wpList_append_own _ rfl (.tmp 42) (.tmp 46) 23 rfl w4.heap.size 25 i0 (.agg #[.int .i64 0, .int .i64 0]) 2 16 Tryd.underlying23 hi hz0 hz1' hz2 rfl (by decide) _ _ _ rfl (World.ownsRow_lit w4 #[] 0 (Nat.le_refl _) (by decide) rfl) ⟨g, 0, none⟩ (k + 1) _ (flat (oneL us k)) rfl (by rw [flat_len, oneL_len (by omega)]) (prow_flat (prow_alloc (prow_take hU (k + 1)) _)) (flat_one _) (by unfold maxLen; omega) (by omega) (by simp) ?_)
  intro v1 w5 o3 hg hn
  have hb : Below w4.heap.size w4 w5 := (belA (Below.refl _ _) (.cells #[] 25)).grown hg (by simp) (fun q hq => le_of_own (Nat.le_refl _) hq)
  clear hg hn
  have o3 : w5.ownsRow w4.heap.size 25 2 v1 (oneL us k).length (flat (oneL us k)) := by
    have e := oneL_len (us := us) (k := k) (by omega)
    rw [e]
    simpa using o3
  obtain ⟨g1, c1, rfl, _, _, hO⟩ := prow_own2 (by rw [oneL_len (by omega)]; omega) o3
  clear o3
  replace hXx := blk_call hXx hb
  replace hP := prow_below hP hb
  replace hU := prow_below hU hb
  replace hB := belT hB hb
  clear hb
  obtain ⟨z0, z1⟩ := prow_c hU 0 (by omega) 0 1 rfl rfl
  obtain ⟨a0, ha0⟩ : ∃ a, (us.getD 0 (0, 0)).1 = a := ⟨_, rfl⟩
  obtain ⟨b0, hb0⟩ : ∃ a, (us.getD 0 (0, 0)).2 = a := ⟨_, rfl⟩
  rw [ha0] at z0
  rw [hb0] at z1
  have HA0 := Lib.hid ha0
  have HB0 := Lib.hid hb0
  clear ha0 hb0
  have hck : ¬ c = k := by omega
  have hD := prow_drop hU k
  rw [Nat.zero_add] at hD
  have hDL : (us.drop k).length = us.length - k := by rw [List.length_drop]
  have hu0 : 0 < us.length := by omega
  have hkl : k ≤ us.length := by omega
  have hkc : k ≤ c := by omega
  have hui : (k : Int) ≤ us.length := by omega
  go_upto_region 7 with fail
  have hOwn : World.ownsRow ((w5.alloc (.cells #[.int .i64 a0, .int .i64 b0] 25)).drew) w5.heap.size 25 2 (.slice (some ⟨w5.heap.size, 0, none⟩) 1 1) 1 [.int .i64 a0, .int .i64 b0] := own_below (World.ownsRow_lit w5 #[.int .i64 a0, .int .i64 b0] 1 (Nat.le_refl _) (by decide) rfl) (Below.refl _ _).drew
  have hDD : ∀ j u, (flat (us.drop k))[j]? = some u → World.cell? ((w5.alloc (.cells #[.int .i64 a0, .int .i64 b0] 25)).drew) ((⟨g, k * 2, none⟩ : Addr).add j) = some u := prow_flat (prow_below (prow_alloc hD (.cells #[.int .i64 a0, .int .i64 b0] 25)) (Below.refl _ _).drew)
  go_region_law (refine step_append_lies _ rfl (.tmp 51) (.tmp 54) 23 rfl w5.heap.size 25 i0 (.agg #[.int .i64 0, .int .i64 0]) 2 16 Tryd.underlying23 hi hz0 hz1' hz2 rfl (by decide) (.slice (some ⟨w5.heap.size, 0, none⟩) 1 1) 1 [.int .i64 a0, .int .i64 b0] (by simp [Act.eval, Act.put]) hOwn ⟨g, k * 2, none⟩ (us.length - k) (c - k) (flat (us.drop k)) (by simp [Act.eval, Act.put, hck]) (by rw [flat_len, List.length_drop]) hDD (flat_one _) (by omega) (by unfold maxLen; omega) (by omega) (by simp) _ rfl ?_; intro g2 c2 w6 o4 hg hat hlt)
  have hb : Below w5.heap.size w5 w6 := ((belA (Below.refl w5.heap.size w5) (.cells #[.int .i64 a0, .int .i64 b0] 25)).drew).grown hg (by simp) (fun q hq => le_of_own (Nat.le_refl _) hq)
  have hTw : PRow w6 (some ⟨g2, 0, none⟩) (twoL us k) := by
    have e : flat (twoL us k) = [.int .i64 a0, .int .i64 b0] ++ flat (us.drop k) := by
      show flat (us.getD 0 (0, 0) :: us.drop k) = _
      rw [← HA0.out, ← HB0.out]
      rfl
    have e2 : (twoL us k).length = 1 + (us.length - k) := by rw [twoL_len]; omega
    rw [← e, ← e2] at o4
    obtain ⟨g', c', ev, hR⟩ := prow_own1 (by omega) o4
    cases ev
    exact hR
  clear hg hat hlt o4 hOwn hDD hD z0 z1
  replace hXx := blk_call hXx hb
  replace hP := prow_below hP hb
  replace hU := prow_below hU hb
  replace hO := prow_below hO hb
  replace hB := belT hB hb
  clear hb
  clear hU
  have HTL : (twoL us k).length = 1 + (us.length - k) := by rw [twoL_len]; omega
  have HTL := Lib.hid HTL
  go_wp2_with fail
  refine (area_at (some ⟨g1, 0, none⟩) (oneL us k).length c1 (oneL us k) A1 _ rfl HA1 h10 h112 hO h1v).mono ?_; rintro e w5 ⟨rfl, hb⟩
  replace hXx := blk_call hXx hb
  replace hP := prow_below hP hb
  replace hO := prow_below hO hb
  replace hTw := prow_below hTw hb
  replace hB := belT hB hb
  clear hb
  go_wp2_with fail
  refine (area_at (some ⟨g2, 0, none⟩) (1 + (us.length - k)) c2 (twoL us k) A2 _ HTL.out HA2 h20 h212 hTw h2v).mono ?_; rintro e w6 ⟨rfl, hb⟩
  replace hXx := blk_call hXx hb
  replace hP := prow_below hP hb
  replace hO := prow_below hO hb
  replace hTw := prow_below hTw hb
  replace hB := belT hB hb
  clear hb
  go_wp2_with fail
  refine (area_at _ _ cap ps A _ rfl HA h0 h12 hP hv).mono ?_; rintro e w7 ⟨rfl, hb⟩
  replace hXx := blk_call hXx hb
  replace hP := prow_below hP hb
  replace hO := prow_below hO hb
  replace hTw := prow_below hTw hb
  replace hB := belT hB hb
  clear hb
  cases v1
  · clear HV2
    go_wp2_with fail
    refine (valid_is (some ⟨g1, 0, none⟩) (oneL us k).length c1 (oneL us k) false _ rfl HV1 (by omega) hO).mono ?_; rintro e w8 ⟨rfl, hb⟩
    replace hXx := blk_call hXx hb
    replace hP := prow_below hP hb
    replace hO := prow_below hO hb
    replace hTw := prow_below hTw hb
    replace hB := belT hB hb
    clear hb
    go_wp2_with fail
    go_ret
    exact ⟨rfl, hB⟩
  · go_wp2_with fail
    refine (valid_is (some ⟨g1, 0, none⟩) (oneL us k).length c1 (oneL us k) true _ rfl HV1 (by omega) hO).mono ?_; rintro e w8 ⟨rfl, hb⟩
    replace hXx := blk_call hXx hb
    replace hP := prow_below hP hb
    replace hO := prow_below hO hb
    replace hTw := prow_below hTw hb
    replace hB := belT hB hb
    clear hb
    cases v2
    · go_wp2_with fail
      refine (valid_is (some ⟨g2, 0, none⟩) (1 + (us.length - k)) c2 (twoL us k) false _ HTL.out HV2 (by omega) hTw).mono ?_; rintro e w9 ⟨rfl, hb⟩
      replace hXx := blk_call hXx hb
      replace hP := prow_below hP hb
      replace hO := prow_below hO hb
      replace hTw := prow_below hTw hb
      replace hB := belT hB hb
      clear hb
      go_wp2_with fail
      go_ret
      exact ⟨rfl, hB⟩
    · go_wp2_with fail
      refine (valid_is (some ⟨g2, 0, none⟩) (1 + (us.length - k)) c2 (twoL us k) true _ HTL.out HV2 (by omega) hTw).mono ?_; rintro e w9 ⟨rfl, hb⟩
      replace hXx := blk_call hXx hb
      replace hP := prow_below hP hb
      replace hO := prow_below hO hb
      replace hTw := prow_below hTw hb
      replace hB := belT hB hb
      clear hb
      obtain ⟨II, hI⟩ : ∃ I, locE (oneL us k) x1 x2 = I := ⟨_, rfl⟩
      obtain ⟨JJ, hJ⟩ : ∃ I, locE (twoL us k) x1 x2 = I := ⟨_, rfl⟩
      obtain ⟨HH, hH⟩ : ∃ I, locE ps x1 x2 = I := ⟨_, rfl⟩
      have T1 := loc_three (oneL us k) x1 x2
      have T2 := loc_three (twoL us k) x1 x2
      have T3 := loc_three ps x1 x2
      have CL := cut_loc (us := us) (k := k) (by omega) (by omega) (ccw_valid HVU.out) (ccw_valid HV1.out) (ccw_valid HV2.out) x1 x2
      rw [HLU.out, hI, hJ, hH] at CL
      rw [hI] at T1
      rw [hJ] at T2
      rw [hH] at T3
      have HI := Lib.hid hI
      have HJ := Lib.hid hJ
      have HH' := Lib.hid hH
      have HCL := Lib.hid CL
      clear hI hJ hH CL
      have fhXx0 := blk_cell hXx 0 _ rfl
      have fhXx1 := blk_cell hXx 1 _ rfl
      have fhXxz := blk_lt hXx
      have hPx := hP
      have hOx := hO
      have hTx := hTw
      clear hO hTw hP
      go_upto_region 12 with fail
      obtain ⟨sp, hsp⟩ : ∃ sp : Told, sp = [none, none, none, none, none, none, none, none, none, none, none, none, none, none, some (.inl (.int .i64 II)), some (.inl (.int .i64 JJ)), some (.inl (.int .i64 HH)), none, none, none, none, none, none, none, none, none, none, none, none, none, none, none, none, none, none, none, none, none, none, none, none, none, none, none, none, none, none, none, none, none, none, none, none, none, none, none, none, none, none, none, none, none, none, none, none, none, none, none, none, none, none, none, none, some (.inl (.slice (some ⟨g1, 0, none⟩) (oneL us k).length c1)), some (.inl (.agg #[.int .i64 x1, .int .i64 x2])), some (.inl (.int .i64 II)), some (.inl (.slice (some ⟨g2, 0, none⟩) (1 + (us.length - k)) c2)), some (.inl (.agg #[.int .i64 x1, .int .i64 x2])), some (.inl (.int .i64 JJ)), some (.inl (.slice ao ps.length cap)), some (.inl (.agg #[.int .i64 x1, .int .i64 x2])), some (.inl (.int .i64 HH))] := ⟨_, rfl⟩
      have s14 : sp.getD 14 none = some (.inl (.int .i64 II)) := by rw [hsp]; rfl
      have s15 : sp.getD 15 none = some (.inl (.int .i64 JJ)) := by rw [hsp]; rfl
      have s16 : sp.getD 16 none = some (.inl (.int .i64 HH)) := by rw [hsp]; rfl
      have s73 : sp.getD 73 none = some (.inl (.slice (some ⟨g1, 0, none⟩) (oneL us k).length c1)) := by rw [hsp]; rfl
      have s74 : sp.getD 74 none = some (.inl (.agg #[.int .i64 x1, .int .i64 x2])) := by rw [hsp]; rfl
      have s75 : sp.getD 75 none = some (.inl (.int .i64 II)) := by rw [hsp]; rfl
      have s76 : sp.getD 76 none = some (.inl (.slice (some ⟨g2, 0, none⟩) (1 + (us.length - k)) c2)) := by rw [hsp]; rfl
      have s77 : sp.getD 77 none = some (.inl (.agg #[.int .i64 x1, .int .i64 x2])) := by rw [hsp]; rfl
      have s78 : sp.getD 78 none = some (.inl (.int .i64 JJ)) := by rw [hsp]; rfl
      have s79 : sp.getD 79 none = some (.inl (.slice ao ps.length cap)) := by rw [hsp]; rfl
      have s80 : sp.getD 80 none = some (.inl (.agg #[.int .i64 x1, .int .i64 x2])) := by rw [hsp]; rfl
      have s81 : sp.getD 81 none = some (.inl (.int .i64 HH)) := by rw [hsp]; rfl
      clear hsp
      refine region_obs sp (by kernel_rfl) (by kernel_rfl) ?_ ?_
      · rw [List.toList_toArray]
        refine obs_cons ?_ ?_
        · intro T wx K hB hF hD hK
          have g12 : T[12]? = some (.slice (some ⟨g1, 0, none⟩) (oneL us k).length c1) := hF 12 (free_of (by kernel_rfl))
          refine ob_yes (wanted_none rfl) ?_
          clear hF hD
          go_simp
          exact hK _ _ (Below.refl _ _) (rt_eq s73)
        refine obs_cons ?_ ?_
        · intro T wx K hB hF hD hK
          have g7 : T[7]? = some (.pointer (some ⟨w.heap.size, 0, none⟩)) := hF 7 (free_of (by kernel_rfl))
          refine ob_yes (wanted_none rfl) ?_
          clear hF hD
          have c0 := cell_call fhXx0 hB
          have c1 := cell_call fhXx1 hB
          go_simp
          exact hK _ _ (Below.refl _ _) (rt_eq s74)
        refine obs_cons ?_ ?_
        · intro T wx K hB hF hD hK
          have g73 := get_eq (hD 0 73 (by simp [Region.binds]) (by kernel_rfl)) s73
          have g74 := get_eq (hD 1 74 (by simp [Region.binds]) (by kernel_rfl)) s74
          refine ob_yes (wanted_none rfl) ?_
          clear hF hD
          go_simp
          refine (locate_at (some ⟨g1, 0, none⟩) (oneL us k).length c1 (oneL us k) x1 x2 II _ rfl HI h10 h112 (prow_below hOx hB) h1r ix1 ix2).mono ?_; rintro e w9 ⟨rfl, hb⟩
          exact hK _ _ hb (rt_eq s75)
        refine obs_cons ?_ ?_
        · intro T wx K hB hF hD hK
          have g13 : T[13]? = some (.slice (some ⟨g2, 0, none⟩) (1 + (us.length - k)) c2) := hF 13 (free_of (by kernel_rfl))
          refine ob_yes (wanted_none rfl) ?_
          clear hF hD
          go_simp
          exact hK _ _ (Below.refl _ _) (rt_eq s76)
        refine obs_cons ?_ ?_
        · intro T wx K hB hF hD hK
          have g7 : T[7]? = some (.pointer (some ⟨w.heap.size, 0, none⟩)) := hF 7 (free_of (by kernel_rfl))
          refine ob_yes (wanted_none rfl) ?_
          clear hF hD
          have c0 := cell_call fhXx0 hB
          have c1 := cell_call fhXx1 hB
          go_simp
          exact hK _ _ (Below.refl _ _) (rt_eq s77)
        refine obs_cons ?_ ?_
        · intro T wx K hB hF hD hK
          have g76 := get_eq (hD 3 76 (by simp [Region.binds]) (by kernel_rfl)) s76
          have g77 := get_eq (hD 4 77 (by simp [Region.binds]) (by kernel_rfl)) s77
          refine ob_yes (wanted_none rfl) ?_
          clear hF hD
          go_simp
          refine (locate_at (some ⟨g2, 0, none⟩) (1 + (us.length - k)) c2 (twoL us k) x1 x2 JJ _ HTL.out HJ h20 h212 (prow_below hTx hB) h2r ix1 ix2).mono ?_; rintro e w9 ⟨rfl, hb⟩
          exact hK _ _ hb (rt_eq s78)
        refine obs_cons ?_ ?_
        · intro T wx K hB hF hD hK
          have g0 : T[0]? = some (.slice ao ps.length cap) := hF 0 (free_of (by kernel_rfl))
          refine ob_yes (wanted_none rfl) ?_
          clear hF hD
          go_simp
          exact hK _ _ (Below.refl _ _) (rt_eq s79)
        refine obs_cons ?_ ?_
        · intro T wx K hB hF hD hK
          have g7 : T[7]? = some (.pointer (some ⟨w.heap.size, 0, none⟩)) := hF 7 (free_of (by kernel_rfl))
          refine ob_yes (wanted_none rfl) ?_
          clear hF hD
          have c0 := cell_call fhXx0 hB
          have c1 := cell_call fhXx1 hB
          go_simp
          exact hK _ _ (Below.refl _ _) (rt_eq s80)
        refine obs_cons ?_ ?_
        · intro T wx K hB hF hD hK
          have g79 := get_eq (hD 6 79 (by simp [Region.binds]) (by kernel_rfl)) s79
          have g80 := get_eq (hD 7 80 (by simp [Region.binds]) (by kernel_rfl)) s80
          refine ob_yes (wanted_none rfl) ?_
          clear hF hD
          go_simp
          refine (locate_at ao ps.length cap ps x1 x2 HH _ rfl HH' h0 h12 (prow_below hPx hB) hvr ix1 ix2).mono ?_; rintro e w9 ⟨rfl, hb⟩
          exact hK _ _ hb (rt_eq s81)
        refine obs_cons ?_ ?_
        · intro T wx K hB hF hD hK
          have g75 := get_eq (hD 2 75 (by simp [Region.binds]) (by kernel_rfl)) s75
          refine ob_yes (wanted_none rfl) ?_
          clear hF hD
          go_simp
          exact hK _ _ (Below.refl _ _) (rt_eq s14)
        refine obs_cons ?_ ?_
        · intro T wx K hB hF hD hK
          have g78 := get_eq (hD 5 78 (by simp [Region.binds]) (by kernel_rfl)) s78
          refine ob_yes (wanted_none rfl) ?_
          clear hF hD
          go_simp
          exact hK _ _ (Below.refl _ _) (rt_eq s15)
        refine obs_cons ?_ ?_
        · intro T wx K hB hF hD hK
          have g81 := get_eq (hD 8 81 (by simp [Region.binds]) (by kernel_rfl)) s81
          refine ob_yes (wanted_none rfl) ?_
          clear hF hD
          go_simp
          exact hK _ _ (Below.refl _ _) (rt_eq s16)
        exact obs_nil
      · intro T w30 hb hF hs hD
        have g73 := get_eq (hD 0 73 (by kernel_rfl)) s73
        have g74 := get_eq (hD 1 74 (by kernel_rfl)) s74
        have g75 := get_eq (hD 2 75 (by kernel_rfl)) s75
        have g76 := get_eq (hD 3 76 (by kernel_rfl)) s76
        have g77 := get_eq (hD 4 77 (by kernel_rfl)) s77
        have g78 := get_eq (hD 5 78 (by kernel_rfl)) s78
        have g79 := get_eq (hD 6 79 (by kernel_rfl)) s79
        have g80 := get_eq (hD 7 80 (by kernel_rfl)) s80
        have g81 := get_eq (hD 8 81 (by kernel_rfl)) s81
        have g14 := get_eq (hD 9 14 (by kernel_rfl)) s14
        have g15 := get_eq (hD 10 15 (by kernel_rfl)) s15
        have g16 := get_eq (hD 11 16 (by kernel_rfl)) s16
        have hT := concF [(73, .slice (some ⟨g1, 0, none⟩) (oneL us k).length c1), (74, .agg #[.int .i64 x1, .int .i64 x2]), (75, .int .i64 II), (76, .slice (some ⟨g2, 0, none⟩) (1 + (us.length - k)) c2), (77, .agg #[.int .i64 x1, .int .i64 x2]), (78, .int .i64 JJ), (79, .slice ao ps.length cap), (80, .agg #[.int .i64 x1, .int .i64 x2]), (81, .int .i64 HH), (14, .int .i64 II), (15, .int .i64 JJ), (16, .int .i64 HH)] hs hF (by simp only [List.forall_mem_cons]; exact ⟨g73, g74, g75, g76, g77, g78, g79, g80, g81, g14, g15, g16, fun p hp => absurd hp List.not_mem_nil⟩) (by kernel_rfl)
        simp only [List.foldl, List.setIfInBounds_toArray, List.set_cons_succ, List.set_cons_zero] at hT
        subst hT
        clear hF hD hs g73 g74 g75 g76 g77 g78 g79 g80 g81 g14 g15 g16 s73 s74 s75 s76 s77 s78 s79 s80 s81 s14 s15 s16
        clear fhXx0 fhXx1 fhXxz
        clear hPx hOx hTx
        replace hXx := blk_call hXx hb
        replace hB := belT hB hb
        clear hb
        clear hXx
        have d0 : HH = -1 ∨ HH = 0 ∨ HH = 1 := by omega
        clear T3
        rcases T1 with rfl | rfl | rfl <;> rcases T2 with rfl | rfl | rfl <;> rcases d0 with rfl | rfl | rfl
        all_goals first
          | (exfalso; have := HCL.out; omega)
          | (go_wp2_with fail
             go_ret
             exact ⟨rfl, hB⟩)


set_option maxRecDepth 100000 in
set_option maxHeartbeats 4000000 in
theorem walk {w : World} (ao : Option Addr) (cap : Nat) (ps : List (Int × Int)) (hle : ps.length ≤ 9223372036854775807) (hP : PRow w ao ps) (a : Int) (ha : (Lit.int .u8 a).wf = true) (b : Int) (hb' : (Lit.int .u8 b).wf = true) (x1 x2 : Int) (hT : Rot.Tab w) :
    Calls Tryd.prog 5 #[.slice ao ps.length cap, .int .u8 a, .int .u8 b, .agg #[.int .i64 x1, .int .i64 x2]] w fun e w' => e = .returned (.bool true) ∧ Below w.heap.size w w' := by
  have u8 : ∀ a : Int, (Lit.int .u8 a).wf = true → ∃ m : Nat, m ≤ 255 ∧ a = (m : Int) := fun a ha => by
    have hh : IntKind.u8.min ≤ a ∧ a ≤ IntKind.u8.max := by simpa [Lit.wf] using ha
    have e1 : IntKind.u8.min = 0 := by decide
    have e2 : IntKind.u8.max = 255 := by decide
    rw [e1, e2] at hh
    exact ⟨a.toNat, by omega, by omega⟩
  obtain ⟨m, hm, rfl⟩ := u8 a ha
  obtain ⟨t, ht, rfl⟩ := u8 b hb'
  clear u8 ha hb'
  by_cases hl : validP ps = true
  · have HV := Lib.hid hl
    by_cases h4 : 4 ≤ ps.length
    · by_cases hm1 : mayB x1 x2 = true
      · obtain ⟨k1, k2⟩ := (mayB_iff x1 x2).1 hm1
        exact walk_main ao cap m t ps hle hP hm ht x1 x2 hT HV h4 k1 k2
      · have HM1 : Hid (mayB x1 x2 = false) := Lib.hid (by simpa using hm1)
        have h4f : decide ((ps.length : Int) < 4) = false := decide_eq_false (by omega)
        clear hm1 hl
        have hB : Below w.heap.size w w := Below.refl _ _
        go_enter Tryd.func5, Tryd.ntmps5
        go_wp2_with fail
        refine (head_any _ (hT.alloc _)).mono ?_; rintro e w1 ⟨rfl, hb⟩
        have hXx := blk_call (blk_new w (.cells #[.int .i64 x1, .int .i64 x2] 25) (w.heap.size) (by simp)) hb
        replace hP := prow_below (prow_alloc hP _) hb
        replace hB := belT (belA hB _) hb
        clear hb
        clear hT
        go_wp2_with fail
        refine (valid_is _ _ cap ps true _ rfl HV hle hP).mono ?_; rintro e w2 ⟨rfl, hb⟩
        replace hXx := blk_call hXx hb
        replace hP := prow_below hP hb
        replace hB := belT hB hb
        clear hb
        have fhXx0 := blk_cell hXx 0 _ rfl
        have fhXx1 := blk_cell hXx 1 _ rfl
        have fhXxz := blk_lt hXx
        go_wp2_with fail
        refine (may_any x1 x2 false _ HM1).mono ?_; rintro e w3 ⟨rfl, hb⟩
        replace hXx := blk_call hXx hb
        replace hP := prow_below hP hb
        replace hB := belT hB hb
        clear hb
        clear fhXx0 fhXx1 fhXxz
        go_wp2_with fail
        go_ret
        exact ⟨rfl, hB⟩
    · have h4f : (ps.length : Int) < 4 := by omega
      clear hl
      have hB : Below w.heap.size w w := Below.refl _ _
      go_enter Tryd.func5, Tryd.ntmps5
      go_wp2_with fail
      refine (head_any _ (hT.alloc _)).mono ?_; rintro e w1 ⟨rfl, hb⟩
      have hXx := blk_call (blk_new w (.cells #[.int .i64 x1, .int .i64 x2] 25) (w.heap.size) (by simp)) hb
      replace hP := prow_below (prow_alloc hP _) hb
      replace hB := belT (belA hB _) hb
      clear hb
      clear hT
      go_wp2_with fail
      refine (valid_is _ _ cap ps true _ rfl HV hle hP).mono ?_; rintro e w2 ⟨rfl, hb⟩
      replace hXx := blk_call hXx hb
      replace hP := prow_below hP hb
      replace hB := belT hB hb
      clear hb
      go_wp2_with fail
      go_ret
      exact ⟨rfl, hB⟩
  · have HV : Hid (validP ps = false) := Lib.hid (by simpa using hl)
    clear hl
    have hB : Below w.heap.size w w := Below.refl _ _
    go_enter Tryd.func5, Tryd.ntmps5
    go_wp2_with fail
    refine (head_any _ (hT.alloc _)).mono ?_; rintro e w1 ⟨rfl, hb⟩
    have hXx := blk_call (blk_new w (.cells #[.int .i64 x1, .int .i64 x2] 25) (w.heap.size) (by simp)) hb
    replace hP := prow_below (prow_alloc hP _) hb
    replace hB := belT (belA hB _) hb
    clear hb
    clear hT
    go_wp2_with fail
    refine (valid_is _ _ cap ps false _ rfl HV hle hP).mono ?_; rintro e w2 ⟨rfl, hb⟩
    replace hXx := blk_call hXx hb
    replace hP := prow_below hP hb
    replace hB := belT hB hb
    clear hb
    go_wp2_with fail
    go_ret
    exact ⟨rfl, hB⟩

set_option maxRecDepth 100000 in
theorem lifted (os : Os) (started : os.Started) (H : Type) (enc : TypeId × Value → H) :
    ReturnsInHanded {} Tryd.checked os 5 .any (fun w args => (Rows.polygonCutPreservesAreaSpec.pre enc Tryd.prog Tryd.f5 [] false w args ∧ laidMetH Tryd.prog Rows.polygonCutPreservesAreaRow.laid w) ∧ sizedMet enc Tryd.prog Tryd.f5 (OpenSpec.ofChange Rows.polygonCutPreservesAreaSpec) false w args)
      (Rows.polygonCutPreservesAreaSpec.post enc Tryd.prog Tryd.f5 false true false false) := by
  refine returnsInHanded_of_change_and (C := Tryd.checked) (X := fun w _ => laidMetH Tryd.prog Rows.polygonCutPreservesAreaRow.laid w) (fun _ _ _ hh h => h.of_heap hh) Rot.own started (by kernel_rfl) Tryd.func5
    (ChangeSpec.witness_shaped (enc := enc) (C := Tryd.checked) (os := os) (X := fun w _ => laidMetH Tryd.prog Rows.polygonCutPreservesAreaRow.laid w) false (World.doorLaid Tryd.prog 600 os) #[.slice none 0 0, .int .u8 0, .int .u8 0, .agg #[.int .i64 0, .int .i64 0]] 8 rfl (World.shaped_of_RefB (by kernel_rfl) (by kernel_rfl)) (by kernel_rfl) (by kernel_rfl) (by kernel_rfl) (show laidMetH Tryd.prog [(Rot.qn, Rows.laid_ambidexter_rotation_quadrant)] _ from Rot.door_met os _)) ?_
  intro W base args ds gs before hval0 hW _ _ hL _
  have hval : ∀ (j : Nat) t v, Tryd.f5.params[j]? = some t → args[j]? = some v → Value.okWide Tryd.prog W .any base t v := hval0
  have hW' := hW
  obtain ⟨p, q, hA0, hV, rfl, hfz, hnd⟩ := hW
  have hA : DataW.TrodAll enc Tryd.prog W 0 (fun _ => true) true Tryd.f5.params.toList args.toList ds p := hA0
  rw [Tryd.params5] at hA hval
  obtain ⟨v0, vs0, d0, ds0, p0, q0, hargs, rfl, rfl, h0, r0⟩ := trodAll_cons hA
  obtain ⟨v1, vs1, d1, ds1, p1, q1, rfl, rfl, rfl, h1, r1⟩ := trodAll_cons r0
  obtain ⟨v2, vs2, d2, ds2, p2, q2, rfl, rfl, rfl, h2, r2⟩ := trodAll_cons r1
  obtain ⟨v3, vs3, d3, ds3, p3, q3, rfl, rfl, rfl, h3, r3⟩ := trodAll_cons r2
  obtain ⟨rfl, rfl, rfl⟩ := trodAll_nil r3
  obtain rfl : args = #[v0, v1, v2, v3] := by cases args; simp_all
  obtain ⟨rfl, rfl⟩ := trodVars_none hV
  have k0 := h0
  have lt0 : ∀ x ∈ p0, x.block < W.heap.size := by obtain ⟨m, hm⟩ := k0; exact DataW.trod_lt m _ _ _ hm
  obtain ⟨a0, cap0, l0, rfl, n0, w0⟩ := Fr.open_pts (hval 0 23 v0 rfl rfl) h0
  obtain ⟨a1, rfl, rfl, rfl, w1⟩ := open_int Tryd.underlying5 (hval 1 5 v1 rfl rfl) h1
  obtain ⟨a2, rfl, rfl, rfl, w2⟩ := open_int Tryd.underlying5 (hval 2 5 v2 rfl rfl) h2
  have k3 := h3
  have lt3 : ∀ x ∈ p3, x.block < W.heap.size := by obtain ⟨m, hm⟩ := k3; exact DataW.trod_lt m _ _ _ hm
  obtain ⟨x3, y3, rfl⟩ := Fr.open_pt (hval 3 25 v3 rfl rfl) h3
  clear hA0 hval0
  simp only [List.append_nil] at hW'
  refine (walk a0 cap0 l0 n0 w0 a1 w1 a2 w2 x3 y3 (Rot.tab_of_laid hL)).mono fun e W' ⟨he, bel⟩ => ?_
  subst he
  exact ⟨_, rfl, _, _, _, [], _, [], hW', trodAll_mk1 (shut_bool Tryd.underlying4 _), (trodAll_cons_mk (Below.trod Fr.laidOut (by kernel_rfl) (of_decide_eq_true (by kernel_rfl)) k0 bel lt0) (trodAll_cons_mk (shut_int Tryd.underlying5 w1) (trodAll_cons_mk (shut_int Tryd.underlying5 w2) (trodAll_cons_mk (Below.trod Fr.laidOut (by kernel_rfl) (of_decide_eq_true (by kernel_rfl)) k3 bel lt3) trodAll_mk0)))), rfl, bel.frame _, fun h => by cases h⟩

theorem holds : Rows.PolygonCutPreservesAreaSaid :=
  OpenClaim.holds_of_wide 5 Tryd.f5 rfl rfl rfl rfl rfl rfl rfl ⟨rfl, rfl, rfl, rfl, rfl⟩ rfl rfl rfl rfl rfl (by kernel_rfl) Tryd.func5 (by kernel_rfl)
    (of_decide_eq_true (by kernel_rfl)) (by unfold Func.isWrapper; first | (rw [if_pos (by decide +kernel)]; kernel_rfl) | (rw [if_neg (by decide +kernel)]; exact ⟨rfl, rfl⟩))
    (fun os started H enc _ => lifted os started H enc)

/-- THE STATEMENT: the tied card. -/
theorem card_holds : Rows.PolygonCutPreservesAreaCardSaid :=
  Claim7.holds_tied_plain_at .later [] [.data] true Rows.polygonCutPreservesAreaCard.stood.harness false
    holds (fun _ h => by cases h) (by kernel_rfl) (fun _ h => by cases h) polygonCutPreservesArea_row_tie rfl ⟨rfl, rfl⟩ (by kernel_rfl) rfl
    (fun f fn hf hfn => by
      obtain rfl : f = 5 := Option.some.inj ((show Tryd.prog.funcNamed Rows.polygonCutPreservesAreaRow.func = some 5 by kernel_rfl).symm.trans hf) |>.symm
      obtain rfl : fn = Tryd.f5 := (Option.some.inj (Tryd.func5.symm.trans hfn)).symm
      exact ⟨by kernel_rfl, fun j t ht => by
        rw [Tryd.params5] at ht
        have hm : t ∈ [23, 5, 25] := by have := Array.mem_of_getElem? ht; simp only [List.mem_toArray, List.mem_cons, List.not_mem_nil, or_false] at this ⊢; grind
        have hall : ([23, 5, 25].all fun u => !Tryd.prog.wantsStandIn u) = true := by kernel_rfl
        exact (show Tryd.prog.wantsStandIn t = false by simpa using List.all_eq_true.1 hall t hm)⟩)
    (by kernel_rfl)
#print axioms card_holds
end Go.Proofs.YthmcejeeohlafaaDoor.polygonCutPreservesArea
