/- Proved: removing the same corners from both polygons never enlarges the result, and no corner of the result is farther from the pivot than 9/8 times the farthest corner (the law SweepMonotonic returns true).
Conditions: none on the arguments. -/
import Derived.Test.YtnpadblfpaiofaaSwK
import Derived.Test.YtnpadblfpaiofaaSwL
namespace Go.Proofs.Ytnpadblfpaiofaa.sweepMonotonic
open Go.ChangeShapes Go.WideShapes Go.ChangeAt Go.RowKit
set_option linter.unusedVariables false
set_option linter.unusedSimpArgs false

def tupS (us : List (Int × Int)) (t : Bool) : StP := ⟨fun v w => ∃ a c, v = .tuple #[.slice a us.length c, .bool t] ∧ PRow w a us, fun _ _ _ ⟨a, c, h, p⟩ hb => ⟨a, c, h, prow_below p hb⟩⟩
theorem run_max3 (a b c n : Int) (h : n = max (max a b) c) (w : World) : (Builtin.max_ #[3, 3, 3] 3 #[.int .i64 a, .int .i64 b, .int .i64 c]).run Try.prog w = .ok (.int .i64 n) w := by
  obtain ⟨m, hm⟩ : ∃ m : Int, (Builtin.max_ #[3, 3, 3] 3 #[.int .i64 a, .int .i64 b, .int .i64 c]).run Try.prog w = .ok (.int .i64 m) w ∧ m = n := by
    refine ⟨_, by simp [Builtin.max_, Builtin.max2]; rfl, ?_⟩
    split <;> split <;> omega
  rw [hm.1, hm.2]

set_option maxRecDepth 100000 in
set_option maxHeartbeats 16000000 in
theorem walk {w : World} (X Y : Int) (ao : Option Addr) (ca : Nat) (l : List (Int × Int)) (nl : l.length ≤ 9223372036854775807) (hA : PRow w ao l) (bo : Option Addr) (cb : Nat) (m : List (Int × Int)) (nm : m.length ≤ 9223372036854775807) (hB : PRow w bo m) (za : Int) (wa : (Lit.int .u8 za).wf = true) (W' : World) (hw : w = W') :
    Calls Try.prog 8 #[.agg #[.int .i64 X, .int .i64 Y], .slice ao l.length ca, .slice bo m.length cb, .int .u8 za] w fun e w' => e = .returned (.bool true) ∧ Below w.heap.size w w' := by
  have PA := Lib.hid hA
  have PB := Lib.hid hB
  clear hA hB hw
  obtain ⟨x, hx⟩ : ∃ x, fitI X = x := ⟨_, rfl⟩
  obtain ⟨y, hy⟩ : ∃ y, fitI Y = y := ⟨_, rfl⟩
  have HX := Lib.hid hx
  have HY := Lib.hid hy
  have BX := Lib.hid (show -10000000 ≤ x ∧ x ≤ 10000000 by rw [← hx]; exact fit_bd X)
  have BY := Lib.hid (show -10000000 ≤ y ∧ y ≤ 10000000 by rw [← hy]; exact fit_bd Y)
  have EX := Lib.hid (show In8 x by rw [← hx]; exact fit_in8 X)
  have EY := Lib.hid (show In8 y by rw [← hy]; exact fit_in8 Y)
  obtain ⟨a, ha⟩ : ∃ a, sameL l m = a := ⟨_, rfl⟩
  obtain ⟨b, hb⟩ : ∃ b, sameR l m = b := ⟨_, rfl⟩
  obtain ⟨n, hn⟩ : ∃ n, sameN l m = n := ⟨_, rfl⟩
  have HA := Lib.hid ha
  have HB := Lib.hid hb
  have HN := Lib.hid hn
  have TA := Lib.hid (show Small7 a by rw [← ha]; exact (same_small l m).1)
  have TB := Lib.hid (show Small7 b by rw [← hb]; exact (same_small l m).2)
  have SA := Lib.hid (small78 TA.out)
  have SB := Lib.hid (small78 TB.out)
  have LA := Lib.hid (show a.length = n by rw [← ha, ← hn]; exact (same_len l m).1)
  have LB := Lib.hid (show b.length = n by rw [← hb, ← hn]; exact (same_len l m).2.1)
  have n12 : n ≤ 12 := by rw [← hn]; exact (same_len l m).2.2
  clear hx hy ha hb hn
  obtain ⟨za1, za2⟩ := bounds_u8 wa
  obtain ⟨yb, rfl⟩ : ∃ y : Nat, za = (y : Int) := ⟨za.toNat, by omega⟩
  obtain ⟨N, hN⟩ : ∃ N, yb % (n + 1) = N := ⟨_, rfl⟩
  have hNn : N ≤ n := by have := Nat.mod_lt yb (show 0 < n + 1 by omega); omega
  have q1 : IntKind.i64.wrap (yb : Int) = (yb : Int) := wrap_k _ (by omega)
  have q2 : IntKind.i64.wrap ((n : Int) + 1) = (n : Int) + 1 := wrap_k _ (by omega)
  have q3 : (yb : Int).tmod ((n : Int) + 1) = (N : Int) := by rw [← hN, Int.tmod_eq_emod_of_nonneg (by omega)]; simp
  have q4 : IntKind.i64.wrap (N : Int) = (N : Int) := wrap_k _ (by omega)
  have q5 : ¬ (n : Int) + 1 = 0 := by omega
  have q6 : (((n : Int) + 1) == 0) = false := by simp; omega
  clear hN wa
  go_enter Try.func8, Try.ntmps8
  go_wp2_with fail
  refine (head6_is _).mono ?_
  rintro e w1 ⟨rfl, hb1⟩
  replace PA := Lib.hid (prow_below (prow_alloc PA.out (.cells #[.int .i64 X, .int .i64 Y] 35)) hb1)
  replace PB := Lib.hid (prow_below (prow_alloc PB.out (.cells #[.int .i64 X, .int .i64 Y] 35)) hb1)
  have ZB := Lib.hid (blk_call (blk_new w (.cells #[.int .i64 X, .int .i64 Y] 35) (w.heap.size) rfl) hb1)
  have B := Lib.hid (belT (belA (Below.refl _ w) (.cells #[.int .i64 X, .int .i64 Y] 35)) hb1)
  clear hb1
  have z0 := blk_cell ZB.out 0 _ rfl
  have z1 := blk_cell ZB.out 1 _ rfl
  go_wp2_with fail
  refine (fit_is X Y x y _ HX HY).mono ?_
  rintro e w2 ⟨rfl, hb2⟩
  clear z0 z1
  replace PA := Lib.hid (prow_below PA.out hb2)
  replace PB := Lib.hid (prow_below PB.out hb2)
  replace ZB := Lib.hid (blk_call ZB.out hb2)
  replace B := Lib.hid (belT B.out hb2)
  clear hb2
  clear ZB
  go_wp2_with fail
  refine (same6_is ao bo _ _ ca cb l m a b n _ rfl rfl HA HB HN nl nm (prow_alloc PA.out (.cells #[.int .i64 x, .int .i64 y] 35)) (prow_alloc PB.out (.cells #[.int .i64 x, .int .i64 y] 35))).mono ?_
  rintro e w3 ⟨⟨ao1, bo1, ca1, cb1, rfl, hca, hcb, hp, hq⟩, hb3⟩
  replace PA := Lib.hid (prow_below (prow_alloc PA.out (.cells #[.int .i64 x, .int .i64 y] 35)) hb3)
  replace PB := Lib.hid (prow_below (prow_alloc PB.out (.cells #[.int .i64 x, .int .i64 y] 35)) hb3)
  have ZO := Lib.hid (blk_call (blk_new w2 (.cells #[.int .i64 x, .int .i64 y] 35) (w2.heap.size) rfl) hb3)
  replace B := Lib.hid (belT (belA B.out (.cells #[.int .i64 x, .int .i64 y] 35)) hb3)
  clear hb3
  have QA := Lib.hid hp
  have QB := Lib.hid hq
  clear hp hq PA PB HA HB
  generalize hzo : w2.heap.size = zo at *
  obtain ⟨u, hu⟩ : ∃ u, hullL (ptsL (x, y) a b) = u := ⟨_, rfl⟩
  have HU : Hid (regL (x, y) a b = u) := Lib.hid (by rw [← hu]; exact if_pos ⟨by rw [LA.out, LB.out], by rw [LA.out]; exact n12⟩)
  obtain ⟨t, ht⟩ : ∃ t, decide (u ≠ []) = t := ⟨_, rfl⟩
  have HT := Lib.hid ht
  have hul : u.length ≤ 36 := by rw [← HU.out]; exact reg_len
  have VU := Lib.hid (show AllV u by rw [← HU.out]; exact reg_allV (o := (x, y)) EX.out EY.out SA.out SB.out)
  have VO := Lib.hid (out_allV (o := (x, y)) EX.out EY.out SA.out SB.out)
  have VP := Lib.hid (pts_allV (o := (x, y)) EX.out EY.out SA.out SB.out)
  have HC : Hid ((u = [] ∧ ∀ p ∈ ptsL (x, y) a b, ∀ q ∈ ptsL (x, y) a b, ∀ r ∈ ptsL (x, y) a b, dt p q r = 0) ∨ (u ≠ [] ∧ IsHull (ptsL (x, y) a b) u)) := Lib.hid (by rw [← hu]; exact hull_cases _)
  clear hu ht
  have z0 := blk_cell ZO.out 0 _ rfl
  have z1 := blk_cell ZO.out 1 _ rfl
  go_wp2_with fail
  refine (region_is ao1 bo1 _ _ ca1 cb1 x y a b u t _ LA.out LB.out HU HT (by omega) (by omega) QA.out QB.out (small8_V SA.out) (small8_V SB.out) (in8_V EX.out) (in8_V EY.out) VO.out).mono ?_
  rintro e w4 ⟨⟨po, pc, rfl, hp⟩, hb4⟩
  clear z0 z1
  replace ZO := Lib.hid (blk_call ZO.out hb4)
  replace QA := Lib.hid (prow_below QA.out hb4)
  replace QB := Lib.hid (prow_below QB.out hb4)
  replace B := Lib.hid (belT B.out hb4)
  clear hb4
  have QP := Lib.hid hp
  clear hp
  go_upto_region 6 with fail
  obtain ⟨v, hv⟩ : ∃ v, hullL (ptsL (x, y) (a.take N) (b.take N)) = v := ⟨_, rfl⟩
  have MA : Hid ((a.take N).length = N) := Lib.hid (by rw [List.length_take, LA.out]; omega)
  have MB : Hid ((b.take N).length = N) := Lib.hid (by rw [List.length_take, LB.out]; omega)
  have HV : Hid (regL (x, y) (a.take N) (b.take N) = v) := Lib.hid (by rw [← hv]; exact if_pos ⟨by rw [MA.out, MB.out], by rw [MA.out]; omega⟩)
  obtain ⟨t2, ht2⟩ : ∃ t, decide (v ≠ []) = t := ⟨_, rfl⟩
  have HT2 := Lib.hid ht2
  have SA2 : Hid (Small8 (a.take N)) := Lib.hid (fun q hq => SA.out q (List.mem_of_mem_take hq))
  have SB2 : Hid (Small8 (b.take N)) := Lib.hid (fun q hq => SB.out q (List.mem_of_mem_take hq))
  have hvl : v.length ≤ 36 := by rw [← HV.out]; exact reg_len
  have VV := Lib.hid (show AllV v by rw [← HV.out]; exact reg_allV (o := (x, y)) EX.out EY.out SA2.out SB2.out)
  have VO2 := Lib.hid (out_allV (o := (x, y)) EX.out EY.out SA2.out SB2.out)
  have HS : Hid (v ≠ [] → u ≠ [] ∧ ∀ q, q ∈ v → inAll u q) := Lib.hid (fun h => by
    have := hull_sub (l := ptsL (x, y) (a.take N) (b.take N)) (m := ptsL (x, y) a b) (fun q hq => pts_take hq) (by rw [hv]; exact h)
    rw [hv, HU.out.symm.trans (if_pos ⟨by rw [LA.out, LB.out], by rw [LA.out]; exact n12⟩) |>.symm] at this
    exact this)
  clear hv ht2
  have r1 : (N : Int) ≤ (ca1 : Int) := by omega
  have r2 : (N : Int) ≤ (cb1 : Int) := by omega
  have r3 : (0 : Int) ≤ (N : Int) := by omega
  have r4 : N ≤ ca1 := by omega
  have r5 : N ≤ cb1 := by omega
  have z0 := blk_cell ZO.out 0 _ rfl
  have z1 := blk_cell ZO.out 1 _ rfl
  obtain ⟨sp, hsp⟩ : ∃ sp : ToldS, sp = [none, none, none, none, none, none, none, none, none, none, none, none, none, none, none, none, some (rowS v), some (eqS (.bool t2)), none, none, none, none, none, none, none, none, none, none, none, none, none, none, none, none, none, none, none, none, none, none, none, none, none, none, some (tupS v t2), some (eqS (.agg #[.int .i64 x, .int .i64 y])), some (eqS (.slice ao1 n ca1)), some (eqS (.int .i64 (N : Int))), some (eqS (.slice ao1 N ca1)), some (eqS (.slice bo1 n cb1)), some (eqS (.int .i64 (N : Int))), some (eqS (.slice bo1 N cb1)), some (tupS v t2), some (rowS v), some (eqS (.bool t2))] := ⟨_, rfl⟩
  have s16 : sp.getD 16 none = some (rowS v) := by rw [hsp]; rfl
  have s17 : sp.getD 17 none = some (eqS (.bool t2)) := by rw [hsp]; rfl
  have s44 : sp.getD 44 none = some (tupS v t2) := by rw [hsp]; rfl
  have s45 : sp.getD 45 none = some (eqS (.agg #[.int .i64 x, .int .i64 y])) := by rw [hsp]; rfl
  have s46 : sp.getD 46 none = some (eqS (.slice ao1 n ca1)) := by rw [hsp]; rfl
  have s47 : sp.getD 47 none = some (eqS (.int .i64 (N : Int))) := by rw [hsp]; rfl
  have s48 : sp.getD 48 none = some (eqS (.slice ao1 N ca1)) := by rw [hsp]; rfl
  have s49 : sp.getD 49 none = some (eqS (.slice bo1 n cb1)) := by rw [hsp]; rfl
  have s50 : sp.getD 50 none = some (eqS (.int .i64 (N : Int))) := by rw [hsp]; rfl
  have s51 : sp.getD 51 none = some (eqS (.slice bo1 N cb1)) := by rw [hsp]; rfl
  have s52 : sp.getD 52 none = some (tupS v t2) := by rw [hsp]; rfl
  have s53 : sp.getD 53 none = some (rowS v) := by rw [hsp]; rfl
  have s54 : sp.getD 54 none = some (eqS (.bool t2)) := by rw [hsp]; rfl
  clear hsp
  refine (wpIn_wide (n := 0)).1 (region_allR (RtS sp) (rtS_keep sp) rfl rfl rfl (by kernel_rfl) (by kernel_rfl) (by kernel_rfl) ?_ ?_)
  · intro Q'
    refine obsR_cons ?_ ?_
    · intro T wx K hB hF hD hK
      have g10 : T[10]? = some (.pointer (some ⟨zo, 0, none⟩)) := hF 10 (freeM_of (by kernel_rfl))
      refine ob_yes (wanted_none rfl) ?_
      clear hF hD
      have d1 := cell_call z0 hB
      have d2 := cell_call z1 hB
      go_simp
      exact hK _ _ (Below.refl _ _) (rt_eqS s45)
    refine obsR_cons ?_ ?_
    · intro T wx K hB hF hD hK
      have g11 : T[11]? = some (.slice ao1 n ca1) := hF 11 (freeM_of (by kernel_rfl))
      refine ob_yes (wanted_none rfl) ?_
      clear hF hD
      go_simp
      exact hK _ _ (Below.refl _ _) (rt_eqS s46)
    refine obsR_cons ?_ ?_
    · intro T wx K hB hF hD hK
      have g13 : T[13]? = some (.int .i64 (N : Int)) := hF 13 (freeM_of (by kernel_rfl))
      refine ob_yes (wanted_none rfl) ?_
      clear hF hD
      go_simp
      exact hK _ _ (Below.refl _ _) (rt_eqS s47)
    refine obsR_cons ?_ ?_
    · intro T wx K hB hF hD hK
      have g46 := get_eqS (hD 1 46 (by simp [Region.binds]) (by kernel_rfl)) s46
      have g47 := get_eqS (hD 2 47 (by simp [Region.binds]) (by kernel_rfl)) s47
      refine ob_yes (wanted_none rfl) ?_
      clear hF hD
      go_simp
      exact hK _ _ (Below.refl _ _) (rt_eqS s48)
    refine obsR_cons ?_ ?_
    · intro T wx K hB hF hD hK
      have g12 : T[12]? = some (.slice bo1 n cb1) := hF 12 (freeM_of (by kernel_rfl))
      refine ob_yes (wanted_none rfl) ?_
      clear hF hD
      go_simp
      exact hK _ _ (Below.refl _ _) (rt_eqS s49)
    refine obsR_cons ?_ ?_
    · intro T wx K hB hF hD hK
      have g13 : T[13]? = some (.int .i64 (N : Int)) := hF 13 (freeM_of (by kernel_rfl))
      refine ob_yes (wanted_none rfl) ?_
      clear hF hD
      go_simp
      exact hK _ _ (Below.refl _ _) (rt_eqS s50)
    refine obsR_cons ?_ ?_
    · intro T wx K hB hF hD hK
      have g49 := get_eqS (hD 4 49 (by simp [Region.binds]) (by kernel_rfl)) s49
      have g50 := get_eqS (hD 5 50 (by simp [Region.binds]) (by kernel_rfl)) s50
      refine ob_yes (wanted_none rfl) ?_
      clear hF hD
      go_simp
      exact hK _ _ (Below.refl _ _) (rt_eqS s51)
    refine obsR_cons ?_ ?_
    · intro T wx K hB hF hD hK
      have g45 := get_eqS (hD 0 45 (by simp [Region.binds]) (by kernel_rfl)) s45
      have g48 := get_eqS (hD 3 48 (by simp [Region.binds]) (by kernel_rfl)) s48
      have g51 := get_eqS (hD 6 51 (by simp [Region.binds]) (by kernel_rfl)) s51
      refine ob_yes (wanted_none rfl) ?_
      clear hF hD
      go_simp
      refine (region_is ao1 bo1 N N ca1 cb1 x y (a.take N) (b.take N) v t2 _ MA.out MB.out HV HT2 (by omega) (by omega) (prow_below (prow_take QA.out N) hB) (prow_below (prow_take QB.out N) hB) (small8_V SA2.out) (small8_V SB2.out) (in8_V EX.out) (in8_V EY.out) VO2.out).mono ?_; rintro e w9 ⟨⟨a9, c9, rfl, p9⟩, hb⟩
      exact hK _ _ hb (rt_S s52 ⟨_, _, rfl, p9⟩)
    refine obsR_cons ?_ ?_
    · intro T wx K hB hF hD hK
      obtain ⟨v52, g52, p52⟩ := getS (hD 7 52 (by simp [Region.binds]) (by kernel_rfl)) s52
      refine ob_yes (wanted_none rfl) ?_
      clear hF hD
      go_simp
      exact hK _ _ (Below.refl _ _) (rt_S s44 p52)
    refine obsR_cons ?_ ?_
    · intro T wx K hB hF hD hK
      obtain ⟨v44, g44, p44⟩ := getS (hD 8 44 (by simp [Region.binds]) (by kernel_rfl)) s44
      refine ob_yes (wanted_none rfl) ?_
      clear hF hD
      obtain ⟨a9, c9, rfl, p9⟩ := p44
      go_simp
      exact hK _ _ (Below.refl _ _) (rt_S s53 ⟨_, _, rfl, p9⟩)
    refine obsR_cons ?_ ?_
    · intro T wx K hB hF hD hK
      obtain ⟨v44, g44, p44⟩ := getS (hD 8 44 (by simp [Region.binds]) (by kernel_rfl)) s44
      refine ob_yes (wanted_none rfl) ?_
      clear hF hD
      obtain ⟨a9, c9, rfl, p9⟩ := p44
      go_simp
      exact hK _ _ (Below.refl _ _) (rt_eqS s54)
    refine obsR_cons ?_ ?_
    · intro T wx K hB hF hD hK
      obtain ⟨v53, g53, p53⟩ := getS (hD 9 53 (by simp [Region.binds]) (by kernel_rfl)) s53
      refine ob_yes (wanted_none rfl) ?_
      clear hF hD
      go_simp
      exact hK _ _ (Below.refl _ _) (rt_S s16 p53)
    refine obsR_cons ?_ ?_
    · intro T wx K hB hF hD hK
      have g54 := get_eqS (hD 10 54 (by simp [Region.binds]) (by kernel_rfl)) s54
      refine ob_yes (wanted_none rfl) ?_
      clear hF hD
      go_simp
      exact hK _ _ (Below.refl _ _) (rt_eqS s17)
    exact obsR_nil
  · intro T w8 hb hF hs hD
    have g45 := get_eqS (hD 0 45 (by decide) (by kernel_rfl)) s45
    have g46 := get_eqS (hD 1 46 (by decide) (by kernel_rfl)) s46
    have g47 := get_eqS (hD 2 47 (by decide) (by kernel_rfl)) s47
    have g48 := get_eqS (hD 3 48 (by decide) (by kernel_rfl)) s48
    have g49 := get_eqS (hD 4 49 (by decide) (by kernel_rfl)) s49
    have g50 := get_eqS (hD 5 50 (by decide) (by kernel_rfl)) s50
    have g51 := get_eqS (hD 6 51 (by decide) (by kernel_rfl)) s51
    obtain ⟨v52, g52, p52⟩ := getS (hD 7 52 (by decide) (by kernel_rfl)) s52
    obtain ⟨v44, g44, p44⟩ := getS (hD 8 44 (by decide) (by kernel_rfl)) s44
    obtain ⟨v53, g53, p53⟩ := getS (hD 9 53 (by decide) (by kernel_rfl)) s53
    have g54 := get_eqS (hD 10 54 (by decide) (by kernel_rfl)) s54
    obtain ⟨v16, g16, p16⟩ := getS (hD 11 16 (by decide) (by kernel_rfl)) s16
    have g17 := get_eqS (hD 12 17 (by decide) (by kernel_rfl)) s17
    have hT := conc [(45, .agg #[.int .i64 x, .int .i64 y]), (46, .slice ao1 n ca1), (47, .int .i64 (N : Int)), (48, .slice ao1 N ca1), (49, .slice bo1 n cb1), (50, .int .i64 (N : Int)), (51, .slice bo1 N cb1), (52, v52), (44, v44), (53, v53), (54, .bool t2), (16, v16), (17, .bool t2)] hs hF (by simp only [List.forall_mem_cons]; exact ⟨g45, g46, g47, g48, g49, g50, g51, g52, g44, g53, g54, g16, g17, fun p hp => absurd hp List.not_mem_nil⟩) (by kernel_rfl)
    simp only [List.foldl, List.setIfInBounds_toArray, List.set_cons_succ, List.set_cons_zero] at hT
    subst hT
    clear hF hD hs g45 g46 g47 g48 g49 g50 g51 g52 g44 g53 g54 g16 g17 s16 s17 s44 s45 s46 s47 s48 s49 s50 s51 s52 s53 s54
    obtain ⟨vo, vc, rfl, p9⟩ := p16
    clear p52 p44 p53
    have QV := Lib.hid p9
    replace QA := Lib.hid (prow_below QA.out hb)
    replace QB := Lib.hid (prow_below QB.out hb)
    replace QP := Lib.hid (prow_below QP.out hb)
    replace ZO := Lib.hid (blk_call ZO.out hb)
    replace B := Lib.hid (belT B.out hb)
    clear hb p9 z0 z1 r1 r2 r3 r4 r5 SA2 SB2 VO2 MA MB
    have HTT : Hid (t2 = true → t = true) := Lib.hid (fun h => by
      have h1 : v ≠ [] := by rw [← HT2.out] at h; exact of_decide_eq_true h
      rw [← HT.out]; exact decide_eq_true (HS.out h1).1)
    have HQ : Hid (∀ i, i < v.length → 0 < u.length ∧ inAll u (cx v i, cy v i)) := Lib.hid (fun i hi => by
      have h1 : v ≠ [] := fun e => by rw [e] at hi; simp at hi
      obtain ⟨h2, h3⟩ := HS.out h1
      exact ⟨List.length_pos_iff.2 h2, h3 _ (gp_mem hi)⟩)
    cases t2 with
    | true =>
      have htt : t = true := HTT.out rfl
      subst htt
      have go1 : Hid True := Lib.hid trivial
      go_wp2
      go_loopw [18] (fun i wr => ∃ k : Nat, k ≤ v.length ∧ i = .int .i64 k ∧ Below w8.heap.size w8 wr) (fun i _ => v.length - (intOf i).toNat)
      case atStart => exact ⟨0, Nat.zero_le _, rfl, Below.refl _ _⟩
      case round =>
        obtain ⟨i, hi, rfl, hBx⟩ := hrel
        have HBX := Lib.hid hBx
        clear hBx
        by_cases hil : i < v.length
        · have hili : (i : Int) < v.length := by omega
          obtain ⟨b1, o1, rfl, c1, c2⟩ := prow_at (prow_below QV.out HBX.out) hil
          have V1 := Lib.hid (VV.out i hil)
          obtain ⟨hu0, hIN⟩ := HQ.out i hil
          have HIN := Lib.hid hIN
          clear hIN
          generalize cx v i = p1 at *
          generalize cy v i = p2 at *
          go_wp2_with fail
          refine (in6_is po _ pc u p1 p2 wr rfl hu0 (by omega) (prow_below QP.out HBX.out) VU.out V1.out.1 V1.out.2 HIN).mono ?_
          rintro e w9 ⟨rfl, hb⟩
          have HB8 := Lib.hid (belT HBX.out hb)
          clear hb c1 c2
          go_wp2
          go_roundw
          case rel => exact ⟨i + 1, by omega, by go_num, HB8.out⟩
          case measure => simp [intOf]; omega
        · have hili : ¬ (i : Int) < v.length := by omega
          replace QA := Lib.hid (prow_below QA.out HBX.out)
          replace QB := Lib.hid (prow_below QB.out HBX.out)
          replace QP := Lib.hid (prow_below QP.out HBX.out)
          replace ZO := Lib.hid (blk_call ZO.out HBX.out)
          replace B := Lib.hid (belT B.out HBX.out)
          clear HBX QV
          generalize wr = w10 at *
          go_wp2
          go_loopw [19, 20] (fun s i wx => ∃ (k : Nat) (M : Int), k ≤ n ∧ i = .int .i64 k ∧ s = .int .i64 M ∧ 0 ≤ M ∧ M ≤ 4000000000000000 ∧ Hid (∀ j, j < k → farI (cx a j) (cy a j) x y ≤ M ∧ farI (cx b j) (cy b j) x y ≤ M) ∧ Below w10.heap.size w10 wx) (fun _ i _ => n - (intOf i).toNat)
          case atStart => exact ⟨0, 0, Nat.zero_le _, rfl, rfl, by omega, by omega, Lib.hid (fun j hj => by omega), Below.refl _ _⟩
          case round =>
            obtain ⟨k, M, hk, rfl, rfl, M0, M1, HM, hBx⟩ := hrel
            have HBX := Lib.hid hBx
            clear hBx
            by_cases hkn : k < n
            · have hki : (k : Int) < n := by omega
              have hka : k < a.length := by rw [LA.out]; exact hkn
              have hkb : k < b.length := by rw [LB.out]; exact hkn
              obtain ⟨p, q, rfl, c1, c2⟩ := prow_at (prow_below QA.out HBX.out) hka
              obtain ⟨p', q', rfl, c3, c4⟩ := prow_at (prow_below QB.out HBX.out) hkb
              have va := small8_V SA.out k hka
              have vb := small8_V SB.out k hkb
              have b1 := far_bd (SA.out _ (gp_mem hka)).1 (SA.out _ (gp_mem hka)).2 EX.out EY.out
              have b2 := far_bd (SB.out _ (gp_mem hkb)).1 (SB.out _ (gp_mem hkb)).2 EX.out EY.out
              obtain ⟨f1, hf1⟩ : ∃ f, farI (cx a k) (cy a k) x y = f := ⟨_, rfl⟩
              obtain ⟨f2, hf2⟩ : ∃ f, farI (cx b k) (cy b k) x y = f := ⟨_, rfl⟩
              change 0 ≤ farI (cx a k) (cy a k) x y ∧ farI (cx a k) (cy a k) x y ≤ _ at b1
              change 0 ≤ farI (cx b k) (cy b k) x y ∧ farI (cx b k) (cy b k) x y ≤ _ at b2
              rw [hf1] at b1
              rw [hf2] at b2
              obtain ⟨M', hM'⟩ : ∃ M', M' = max (max M f1) f2 := ⟨_, rfl⟩
              have mb : 0 ≤ M' ∧ M' ≤ 4000000000000000 := by omega
              have HM' : Hid (∀ j, j < k + 1 → farI (cx a j) (cy a j) x y ≤ M' ∧ farI (cx b j) (cy b j) x y ≤ M') := Lib.hid (fun j hj => by
                by_cases e : j = k
                · subst e; rw [hf1, hf2]; omega
                · have := HM.out j (by omega); omega)
              have MX := Lib.hid (fun W => run_max3 M f1 f2 M' hM' W)
              have C1 := Lib.hid (fun W => far_is (cx a k) (cy a k) x y f1 W va.1 va.2 (in8_V EX.out) (in8_V EY.out) (Lib.hid hf1))
              have C2 := Lib.hid (fun W => far_is (cx b k) (cy b k) x y f2 W vb.1 vb.2 (in8_V EX.out) (in8_V EY.out) (Lib.hid hf2))
              have X2 := blk_call ZO.out HBX.out
              have x0 := blk_cell X2 0 _ rfl
              have x1 := blk_cell X2 1 _ rfl
              clear hf1 hf2 b1 b2 va vb hM' X2 HM
              generalize cx a k = x1' at *
              generalize cy a k = x2' at *
              generalize cx b k = y1' at *
              generalize cy b k = y2' at *
              go_upto_region 18 with fail
              obtain ⟨sp, hsp⟩ : ∃ sp : ToldS, sp = [none, none, none, none, none, none, none, none, none, none, none, none, none, none, none, none, none, none, none, none, none, none, none, none, none, none, none, none, none, none, none, none, none, none, none, none, none, none, none, none, none, none, none, none, none, none, none, none, none, none, none, none, none, none, none, none, none, none, none, none, none, none, none, none, none, none, none, none, none, none, none, none, none, none, none, none, none, none, none, some (eqS (.int .i64 M)), some (eqS (.slice (some ⟨p, q, none⟩) n ca1)), some (eqS (.int .i64 (k : Int))), some (eqS (.pointer (some ⟨p, q + k * 2, none⟩))), some (eqS (.agg #[.int .i64 x1', .int .i64 x2'])), some (eqS (.agg #[.int .i64 x, .int .i64 y])), some (eqS (.int .i64 f1)), some (eqS (.slice (some ⟨p', q', none⟩) n cb1)), some (eqS (.int .i64 (k : Int))), some (eqS (.pointer (some ⟨p', q' + k * 2, none⟩))), some (eqS (.agg #[.int .i64 y1', .int .i64 y2'])), some (eqS (.agg #[.int .i64 x, .int .i64 y])), some (eqS (.int .i64 f2))] := ⟨_, rfl⟩
              have s79 : sp.getD 79 none = some (eqS (.int .i64 M)) := by rw [hsp]; rfl
              have s80 : sp.getD 80 none = some (eqS (.slice (some ⟨p, q, none⟩) n ca1)) := by rw [hsp]; rfl
              have s81 : sp.getD 81 none = some (eqS (.int .i64 (k : Int))) := by rw [hsp]; rfl
              have s82 : sp.getD 82 none = some (eqS (.pointer (some ⟨p, q + k * 2, none⟩))) := by rw [hsp]; rfl
              have s83 : sp.getD 83 none = some (eqS (.agg #[.int .i64 x1', .int .i64 x2'])) := by rw [hsp]; rfl
              have s84 : sp.getD 84 none = some (eqS (.agg #[.int .i64 x, .int .i64 y])) := by rw [hsp]; rfl
              have s85 : sp.getD 85 none = some (eqS (.int .i64 f1)) := by rw [hsp]; rfl
              have s86 : sp.getD 86 none = some (eqS (.slice (some ⟨p', q', none⟩) n cb1)) := by rw [hsp]; rfl
              have s87 : sp.getD 87 none = some (eqS (.int .i64 (k : Int))) := by rw [hsp]; rfl
              have s88 : sp.getD 88 none = some (eqS (.pointer (some ⟨p', q' + k * 2, none⟩))) := by rw [hsp]; rfl
              have s89 : sp.getD 89 none = some (eqS (.agg #[.int .i64 y1', .int .i64 y2'])) := by rw [hsp]; rfl
              have s90 : sp.getD 90 none = some (eqS (.agg #[.int .i64 x, .int .i64 y])) := by rw [hsp]; rfl
              have s91 : sp.getD 91 none = some (eqS (.int .i64 f2)) := by rw [hsp]; rfl
              clear hsp
              refine (wpIn_wide (n := 0)).1 (region_headR (RtS sp) (rtS_keep sp) 13 rfl rfl rfl (by kernel_rfl) (by decide) (by kernel_rfl) (by kernel_rfl) (by kernel_rfl) ?_ ?_)
              · intro Q'; show ObsR _ _ _ _ _ _ _ _ (List.take _ _); simp only [List.take_succ_cons, List.take_zero]
                refine obsR_cons ?_ ?_
                · intro T wx K hB hF hD hK
                  have g19 : T[19]? = some (.int .i64 M) := hF 19 (freeM_of (by kernel_rfl))
                  refine ob_yes (wanted_none rfl) ?_
                  clear hF hD
                  go_simp
                  exact hK _ _ (Below.refl _ _) (rt_eqS s79)
                refine obsR_cons ?_ ?_
                · intro T wx K hB hF hD hK
                  have g11 : T[11]? = some (.slice (some ⟨p, q, none⟩) n ca1) := hF 11 (freeM_of (by kernel_rfl))
                  refine ob_yes (wanted_none rfl) ?_
                  clear hF hD
                  go_simp
                  exact hK _ _ (Below.refl _ _) (rt_eqS s80)
                refine obsR_cons ?_ ?_
                · intro T wx K hB hF hD hK
                  have g20 : T[20]? = some (.int .i64 (k : Int)) := hF 20 (freeM_of (by kernel_rfl))
                  refine ob_yes (wanted_none rfl) ?_
                  clear hF hD
                  go_simp
                  exact hK _ _ (Below.refl _ _) (rt_eqS s81)
                refine obsR_cons ?_ ?_
                · intro T wx K hB hF hD hK
                  have g80 := get_eqS (hD 1 80 (by simp [Region.binds]) (by kernel_rfl)) s80
                  have g81 := get_eqS (hD 2 81 (by simp [Region.binds]) (by kernel_rfl)) s81
                  refine ob_yes (wanted_none rfl) ?_
                  clear hF hD
                  go_simp
                  exact hK _ _ (Below.refl _ _) (rt_eqS s82)
                refine obsR_cons ?_ ?_
                · intro T wx K hB hF hD hK
                  have g82 := get_eqS (hD 3 82 (by simp [Region.binds]) (by kernel_rfl)) s82
                  refine ob_yes (wanted_none rfl) ?_
                  clear hF hD
                  have d1 := cell_call c1 hB
                  have d2 := cell_call c2 hB
                  go_simp
                  exact hK _ _ (Below.refl _ _) (rt_eqS s83)
                refine obsR_cons ?_ ?_
                · intro T wx K hB hF hD hK
                  have g10 : T[10]? = some (.pointer (some ⟨zo, 0, none⟩)) := hF 10 (freeM_of (by kernel_rfl))
                  refine ob_yes (wanted_none rfl) ?_
                  clear hF hD
                  have d1 := cell_call x0 hB
                  have d2 := cell_call x1 hB
                  go_simp
                  exact hK _ _ (Below.refl _ _) (rt_eqS s84)
                refine obsR_cons ?_ ?_
                · intro T wx K hB hF hD hK
                  have g83 := get_eqS (hD 4 83 (by simp [Region.binds]) (by kernel_rfl)) s83
                  have g84 := get_eqS (hD 5 84 (by simp [Region.binds]) (by kernel_rfl)) s84
                  refine ob_yes (wanted_none rfl) ?_
                  clear hF hD
                  go_simp
                  refine (C1.out _).mono ?_; rintro e w9 ⟨rfl, hb⟩
                  exact hK _ _ hb (rt_eqS s85)
                refine obsR_cons ?_ ?_
                · intro T wx K hB hF hD hK
                  have g12 : T[12]? = some (.slice (some ⟨p', q', none⟩) n cb1) := hF 12 (freeM_of (by kernel_rfl))
                  refine ob_yes (wanted_none rfl) ?_
                  clear hF hD
                  go_simp
                  exact hK _ _ (Below.refl _ _) (rt_eqS s86)
                refine obsR_cons ?_ ?_
                · intro T wx K hB hF hD hK
                  have g20 : T[20]? = some (.int .i64 (k : Int)) := hF 20 (freeM_of (by kernel_rfl))
                  refine ob_yes (wanted_none rfl) ?_
                  clear hF hD
                  go_simp
                  exact hK _ _ (Below.refl _ _) (rt_eqS s87)
                refine obsR_cons ?_ ?_
                · intro T wx K hB hF hD hK
                  have g86 := get_eqS (hD 7 86 (by simp [Region.binds]) (by kernel_rfl)) s86
                  have g87 := get_eqS (hD 8 87 (by simp [Region.binds]) (by kernel_rfl)) s87
                  refine ob_yes (wanted_none rfl) ?_
                  clear hF hD
                  go_simp
                  exact hK _ _ (Below.refl _ _) (rt_eqS s88)
                refine obsR_cons ?_ ?_
                · intro T wx K hB hF hD hK
                  have g88 := get_eqS (hD 9 88 (by simp [Region.binds]) (by kernel_rfl)) s88
                  refine ob_yes (wanted_none rfl) ?_
                  clear hF hD
                  have d1 := cell_call c3 hB
                  have d2 := cell_call c4 hB
                  go_simp
                  exact hK _ _ (Below.refl _ _) (rt_eqS s89)
                refine obsR_cons ?_ ?_
                · intro T wx K hB hF hD hK
                  have g10 : T[10]? = some (.pointer (some ⟨zo, 0, none⟩)) := hF 10 (freeM_of (by kernel_rfl))
                  refine ob_yes (wanted_none rfl) ?_
                  clear hF hD
                  have d1 := cell_call x0 hB
                  have d2 := cell_call x1 hB
                  go_simp
                  exact hK _ _ (Below.refl _ _) (rt_eqS s90)
                refine obsR_cons ?_ ?_
                · intro T wx K hB hF hD hK
                  have g89 := get_eqS (hD 10 89 (by simp [Region.binds]) (by kernel_rfl)) s89
                  have g90 := get_eqS (hD 11 90 (by simp [Region.binds]) (by kernel_rfl)) s90
                  refine ob_yes (wanted_none rfl) ?_
                  clear hF hD
                  go_simp
                  refine (C2.out _).mono ?_; rintro e w9 ⟨rfl, hb⟩
                  exact hK _ _ hb (rt_eqS s91)
                exact obsR_nil
              · intro T w8' hb hF hs hD
                have g79 := get_eqS (hD 0 79 (by decide) (by kernel_rfl)) s79
                have g80 := get_eqS (hD 1 80 (by decide) (by kernel_rfl)) s80
                have g81 := get_eqS (hD 2 81 (by decide) (by kernel_rfl)) s81
                have g82 := get_eqS (hD 3 82 (by decide) (by kernel_rfl)) s82
                have g83 := get_eqS (hD 4 83 (by decide) (by kernel_rfl)) s83
                have g84 := get_eqS (hD 5 84 (by decide) (by kernel_rfl)) s84
                have g85 := get_eqS (hD 6 85 (by decide) (by kernel_rfl)) s85
                have g86 := get_eqS (hD 7 86 (by decide) (by kernel_rfl)) s86
                have g87 := get_eqS (hD 8 87 (by decide) (by kernel_rfl)) s87
                have g88 := get_eqS (hD 9 88 (by decide) (by kernel_rfl)) s88
                have g89 := get_eqS (hD 10 89 (by decide) (by kernel_rfl)) s89
                have g90 := get_eqS (hD 11 90 (by decide) (by kernel_rfl)) s90
                have g91 := get_eqS (hD 12 91 (by decide) (by kernel_rfl)) s91
                have hT := conc [(79, .int .i64 M), (80, .slice (some ⟨p, q, none⟩) n ca1), (81, .int .i64 (k : Int)), (82, .pointer (some ⟨p, q + k * 2, none⟩)), (83, .agg #[.int .i64 x1', .int .i64 x2']), (84, .agg #[.int .i64 x, .int .i64 y]), (85, .int .i64 f1), (86, .slice (some ⟨p', q', none⟩) n cb1), (87, .int .i64 (k : Int)), (88, .pointer (some ⟨p', q' + k * 2, none⟩)), (89, .agg #[.int .i64 y1', .int .i64 y2']), (90, .agg #[.int .i64 x, .int .i64 y]), (91, .int .i64 f2)] hs hF (by simp only [List.forall_mem_cons]; exact ⟨g79, g80, g81, g82, g83, g84, g85, g86, g87, g88, g89, g90, g91, fun p hp => absurd hp List.not_mem_nil⟩) (by kernel_rfl)
                simp only [List.foldl, List.setIfInBounds_toArray, List.set_cons_succ, List.set_cons_zero] at hT
                subst hT
                clear hF hD hs g79 g80 g81 g82 g83 g84 g85 g86 g87 g88 g89 g90 g91 s79 s80 s81 s82 s83 s84 s85 s86 s87 s88 s89 s90 s91
                show wpOpsIn _ _ _ _ _ [13, 14] _ _
                have HB8 := Lib.hid (belT HBX.out hb)
                have mx := MX.out w8'
                clear hb c1 c2 c3 c4 x0 x1
                simp only [wpOpsIn]
                go_simp
                go_wp2
                go_roundw
                case rel => exact ⟨k + 1, M', by omega, by go_num, by first | rfl | trivial, mb.1, mb.2, HM', HB8.out⟩
                case measure => simp [intOf]; omega
            · have hki : ¬ (k : Int) < n := by omega
              have FAR : Hid (∀ q, q ∈ ptsL (x, y) a b → 64 * farI q.1 q.2 x y ≤ 81 * M) := Lib.hid (out_far (o := (x, y)) (by rw [LA.out, LB.out]) M0 (fun i hi => HM.out i (by rw [LA.out] at hi; omega)))
              have FU : Hid (∀ i, i < u.length → 0 ≤ farI (cx u i) (cy u i) x y ∧ 64 * farI (cx u i) (cy u i) x y ≤ 81 * M) := Lib.hid (fun i hi => by
                have hm : gp u i ∈ ptsL (x, y) a b := by
                  rcases HC.out with ⟨e, _⟩ | ⟨_, h⟩
                  · rw [e] at hi; simp at hi
                  · exact h.2.1 i hi
                refine ⟨?_, FAR.out _ hm⟩
                unfold farI
                have := sq_nn (cx u i - x)
                have := sq_nn (cy u i - y)
                omega)
              replace QP := Lib.hid (prow_below QP.out HBX.out)
              replace ZO := Lib.hid (blk_call ZO.out HBX.out)
              replace B := Lib.hid (belT B.out HBX.out)
              clear HBX QA QB HM FAR
              generalize wr = w11 at *
              go_wp2
              go_loopw [21] (fun i wy => ∃ k : Nat, k ≤ u.length ∧ i = .int .i64 k ∧ Below w11.heap.size w11 wy) (fun i _ => u.length - (intOf i).toNat)
              case atStart => exact ⟨0, Nat.zero_le _, rfl, Below.refl _ _⟩
              case round =>
                obtain ⟨j, hj, rfl, hBx⟩ := hrel
                have HBX := Lib.hid hBx
                clear hBx
                by_cases hju : j < u.length
                · have hjui : (j : Int) < u.length := by omega
                  obtain ⟨p, q, rfl, c1, c2⟩ := prow_at (prow_below QP.out HBX.out) hju
                  have va := VU.out j hju
                  obtain ⟨b1, b2⟩ := FU.out j hju
                  obtain ⟨f, hf⟩ : ∃ f, farI (cx u j) (cy u j) x y = f := ⟨_, rfl⟩
                  rw [hf] at b1 b2
                  have C := Lib.hid (fun P : BlwBy wr => far_is (cx u j) (cy u j) x y f P.x va.1 va.2 (in8_V EX.out) (in8_V EY.out) (Lib.hid hf))
                  have X2 := blk_call ZO.out HBX.out
                  have x0 := blk_cell X2 0 _ rfl
                  have x1 := blk_cell X2 1 _ rfl
                  have s1 : IntKind.i64.wrap (64 * f) = 64 * f := by rw [IntKind.wrap_i64]; omega
                  have s2 : IntKind.i64.wrap (81 * M) = 81 * M := by rw [IntKind.wrap_i64]; omega
                  have s3 : ¬ 81 * M < 64 * f := by omega
                  have z1 : p < wr.heap.size := World.block_lt_of_cell? wr _ c1
                  have z3 := blk_lt X2
                  clear hf va X2 b1 b2
                  generalize cx u j = x1' at *
                  generalize cy u j = x2' at *
                  have G1 := fun P => cell_blw (w := wr) (a := ⟨p, q + j * 2, none⟩) z1 c1 P
                  have G2 := fun P => cell_blw (w := wr) (a := ⟨p, q + j * 2 + 1, none⟩) z1 c2 P
                  have G5 := fun P => cell_blw (w := wr) (a := ⟨zo, 0, none⟩) z3 x0 P
                  have G6 := fun P => cell_blw (w := wr) (a := ⟨zo, 1, none⟩) z3 x1 P
                  clear c1 c2 x0 x1
                  go_upto_region 22 with fail
                  refine wb_region mixedP (by kernel_rfl) ?_
                  repeat (refine wq_step (fun K hK => ?_); go_simp; first | (refine hK _ ?_; clear hK K) | (apply Exists.intro; refine ⟨fun _ => ?_, hK _ ?_⟩; (first | (go_at_call 37; refine Calls.blw_of (C.out _))); clear hK K))
                  refine wq_nil ?_
                  intro _ hw'
                  obtain ⟨pb, hw''⟩ := hw'
                  subst hw''
                  clear G1 G2 G5 G6 C
                  have HB6 := Lib.hid (HBX.out.trans (pb.hb.mono HBX.out.size))
                  obtain ⟨w6, hb6⟩ := pb
                  change Hid (Below w11.heap.size w11 w6) at HB6
                  dsimp only
                  clear hb6 z1 z3
                  go_wp2
                  go_roundw
                  case rel => exact ⟨j + 1, by omega, by go_num, HB6.out⟩
                  case measure => simp [intOf]; omega
                · have hjui : ¬ (j : Int) < u.length := by omega
                  have HB9 := Lib.hid (belT B.out HBX.out)
                  go_wp2
                  go_ret
                  exact ⟨rfl, HB9.out⟩
    | false =>
      cases t with
      | true =>
        have go1 : Hid True := Lib.hid trivial
        go_wp2
        go_loopw [18] (fun i wr => ∃ k : Nat, k ≤ v.length ∧ i = .int .i64 k ∧ Below w8.heap.size w8 wr) (fun i _ => v.length - (intOf i).toNat)
        case atStart => exact ⟨0, Nat.zero_le _, rfl, Below.refl _ _⟩
        case round =>
          obtain ⟨i, hi, rfl, hBx⟩ := hrel
          have HBX := Lib.hid hBx
          clear hBx
          by_cases hil : i < v.length
          · have hili : (i : Int) < v.length := by omega
            obtain ⟨b1, o1, rfl, c1, c2⟩ := prow_at (prow_below QV.out HBX.out) hil
            have V1 := Lib.hid (VV.out i hil)
            obtain ⟨hu0, hIN⟩ := HQ.out i hil
            have HIN := Lib.hid hIN
            clear hIN
            generalize cx v i = p1 at *
            generalize cy v i = p2 at *
            go_wp2_with fail
            refine (in6_is po _ pc u p1 p2 wr rfl hu0 (by omega) (prow_below QP.out HBX.out) VU.out V1.out.1 V1.out.2 HIN).mono ?_
            rintro e w9 ⟨rfl, hb⟩
            have HB8 := Lib.hid (belT HBX.out hb)
            clear hb c1 c2
            go_wp2
            go_roundw
            case rel => exact ⟨i + 1, by omega, by go_num, HB8.out⟩
            case measure => simp [intOf]; omega
          · have hili : ¬ (i : Int) < v.length := by omega
            replace QA := Lib.hid (prow_below QA.out HBX.out)
            replace QB := Lib.hid (prow_below QB.out HBX.out)
            replace QP := Lib.hid (prow_below QP.out HBX.out)
            replace ZO := Lib.hid (blk_call ZO.out HBX.out)
            replace B := Lib.hid (belT B.out HBX.out)
            clear HBX QV
            generalize wr = w10 at *
            go_wp2
            go_loopw [19, 20] (fun s i wx => ∃ (k : Nat) (M : Int), k ≤ n ∧ i = .int .i64 k ∧ s = .int .i64 M ∧ 0 ≤ M ∧ M ≤ 4000000000000000 ∧ Hid (∀ j, j < k → farI (cx a j) (cy a j) x y ≤ M ∧ farI (cx b j) (cy b j) x y ≤ M) ∧ Below w10.heap.size w10 wx) (fun _ i _ => n - (intOf i).toNat)
            case atStart => exact ⟨0, 0, Nat.zero_le _, rfl, rfl, by omega, by omega, Lib.hid (fun j hj => by omega), Below.refl _ _⟩
            case round =>
              obtain ⟨k, M, hk, rfl, rfl, M0, M1, HM, hBx⟩ := hrel
              have HBX := Lib.hid hBx
              clear hBx
              by_cases hkn : k < n
              · have hki : (k : Int) < n := by omega
                have hka : k < a.length := by rw [LA.out]; exact hkn
                have hkb : k < b.length := by rw [LB.out]; exact hkn
                obtain ⟨p, q, rfl, c1, c2⟩ := prow_at (prow_below QA.out HBX.out) hka
                obtain ⟨p', q', rfl, c3, c4⟩ := prow_at (prow_below QB.out HBX.out) hkb
                have va := small8_V SA.out k hka
                have vb := small8_V SB.out k hkb
                have b1 := far_bd (SA.out _ (gp_mem hka)).1 (SA.out _ (gp_mem hka)).2 EX.out EY.out
                have b2 := far_bd (SB.out _ (gp_mem hkb)).1 (SB.out _ (gp_mem hkb)).2 EX.out EY.out
                obtain ⟨f1, hf1⟩ : ∃ f, farI (cx a k) (cy a k) x y = f := ⟨_, rfl⟩
                obtain ⟨f2, hf2⟩ : ∃ f, farI (cx b k) (cy b k) x y = f := ⟨_, rfl⟩
                change 0 ≤ farI (cx a k) (cy a k) x y ∧ farI (cx a k) (cy a k) x y ≤ _ at b1
                change 0 ≤ farI (cx b k) (cy b k) x y ∧ farI (cx b k) (cy b k) x y ≤ _ at b2
                rw [hf1] at b1
                rw [hf2] at b2
                obtain ⟨M', hM'⟩ : ∃ M', M' = max (max M f1) f2 := ⟨_, rfl⟩
                have mb : 0 ≤ M' ∧ M' ≤ 4000000000000000 := by omega
                have HM' : Hid (∀ j, j < k + 1 → farI (cx a j) (cy a j) x y ≤ M' ∧ farI (cx b j) (cy b j) x y ≤ M') := Lib.hid (fun j hj => by
                  by_cases e : j = k
                  · subst e; rw [hf1, hf2]; omega
                  · have := HM.out j (by omega); omega)
                have MX := Lib.hid (fun W => run_max3 M f1 f2 M' hM' W)
                have C1 := Lib.hid (fun W => far_is (cx a k) (cy a k) x y f1 W va.1 va.2 (in8_V EX.out) (in8_V EY.out) (Lib.hid hf1))
                have C2 := Lib.hid (fun W => far_is (cx b k) (cy b k) x y f2 W vb.1 vb.2 (in8_V EX.out) (in8_V EY.out) (Lib.hid hf2))
                have X2 := blk_call ZO.out HBX.out
                have x0 := blk_cell X2 0 _ rfl
                have x1 := blk_cell X2 1 _ rfl
                clear hf1 hf2 b1 b2 va vb hM' X2 HM
                generalize cx a k = x1' at *
                generalize cy a k = x2' at *
                generalize cx b k = y1' at *
                generalize cy b k = y2' at *
                go_upto_region 18 with fail
                obtain ⟨sp, hsp⟩ : ∃ sp : ToldS, sp = [none, none, none, none, none, none, none, none, none, none, none, none, none, none, none, none, none, none, none, none, none, none, none, none, none, none, none, none, none, none, none, none, none, none, none, none, none, none, none, none, none, none, none, none, none, none, none, none, none, none, none, none, none, none, none, none, none, none, none, none, none, none, none, none, none, none, none, none, none, none, none, none, none, none, none, none, none, none, none, some (eqS (.int .i64 M)), some (eqS (.slice (some ⟨p, q, none⟩) n ca1)), some (eqS (.int .i64 (k : Int))), some (eqS (.pointer (some ⟨p, q + k * 2, none⟩))), some (eqS (.agg #[.int .i64 x1', .int .i64 x2'])), some (eqS (.agg #[.int .i64 x, .int .i64 y])), some (eqS (.int .i64 f1)), some (eqS (.slice (some ⟨p', q', none⟩) n cb1)), some (eqS (.int .i64 (k : Int))), some (eqS (.pointer (some ⟨p', q' + k * 2, none⟩))), some (eqS (.agg #[.int .i64 y1', .int .i64 y2'])), some (eqS (.agg #[.int .i64 x, .int .i64 y])), some (eqS (.int .i64 f2))] := ⟨_, rfl⟩
                have s79 : sp.getD 79 none = some (eqS (.int .i64 M)) := by rw [hsp]; rfl
                have s80 : sp.getD 80 none = some (eqS (.slice (some ⟨p, q, none⟩) n ca1)) := by rw [hsp]; rfl
                have s81 : sp.getD 81 none = some (eqS (.int .i64 (k : Int))) := by rw [hsp]; rfl
                have s82 : sp.getD 82 none = some (eqS (.pointer (some ⟨p, q + k * 2, none⟩))) := by rw [hsp]; rfl
                have s83 : sp.getD 83 none = some (eqS (.agg #[.int .i64 x1', .int .i64 x2'])) := by rw [hsp]; rfl
                have s84 : sp.getD 84 none = some (eqS (.agg #[.int .i64 x, .int .i64 y])) := by rw [hsp]; rfl
                have s85 : sp.getD 85 none = some (eqS (.int .i64 f1)) := by rw [hsp]; rfl
                have s86 : sp.getD 86 none = some (eqS (.slice (some ⟨p', q', none⟩) n cb1)) := by rw [hsp]; rfl
                have s87 : sp.getD 87 none = some (eqS (.int .i64 (k : Int))) := by rw [hsp]; rfl
                have s88 : sp.getD 88 none = some (eqS (.pointer (some ⟨p', q' + k * 2, none⟩))) := by rw [hsp]; rfl
                have s89 : sp.getD 89 none = some (eqS (.agg #[.int .i64 y1', .int .i64 y2'])) := by rw [hsp]; rfl
                have s90 : sp.getD 90 none = some (eqS (.agg #[.int .i64 x, .int .i64 y])) := by rw [hsp]; rfl
                have s91 : sp.getD 91 none = some (eqS (.int .i64 f2)) := by rw [hsp]; rfl
                clear hsp
                refine (wpIn_wide (n := 0)).1 (region_headR (RtS sp) (rtS_keep sp) 13 rfl rfl rfl (by kernel_rfl) (by decide) (by kernel_rfl) (by kernel_rfl) (by kernel_rfl) ?_ ?_)
                · intro Q'; show ObsR _ _ _ _ _ _ _ _ (List.take _ _); simp only [List.take_succ_cons, List.take_zero]
                  refine obsR_cons ?_ ?_
                  · intro T wx K hB hF hD hK
                    have g19 : T[19]? = some (.int .i64 M) := hF 19 (freeM_of (by kernel_rfl))
                    refine ob_yes (wanted_none rfl) ?_
                    clear hF hD
                    go_simp
                    exact hK _ _ (Below.refl _ _) (rt_eqS s79)
                  refine obsR_cons ?_ ?_
                  · intro T wx K hB hF hD hK
                    have g11 : T[11]? = some (.slice (some ⟨p, q, none⟩) n ca1) := hF 11 (freeM_of (by kernel_rfl))
                    refine ob_yes (wanted_none rfl) ?_
                    clear hF hD
                    go_simp
                    exact hK _ _ (Below.refl _ _) (rt_eqS s80)
                  refine obsR_cons ?_ ?_
                  · intro T wx K hB hF hD hK
                    have g20 : T[20]? = some (.int .i64 (k : Int)) := hF 20 (freeM_of (by kernel_rfl))
                    refine ob_yes (wanted_none rfl) ?_
                    clear hF hD
                    go_simp
                    exact hK _ _ (Below.refl _ _) (rt_eqS s81)
                  refine obsR_cons ?_ ?_
                  · intro T wx K hB hF hD hK
                    have g80 := get_eqS (hD 1 80 (by simp [Region.binds]) (by kernel_rfl)) s80
                    have g81 := get_eqS (hD 2 81 (by simp [Region.binds]) (by kernel_rfl)) s81
                    refine ob_yes (wanted_none rfl) ?_
                    clear hF hD
                    go_simp
                    exact hK _ _ (Below.refl _ _) (rt_eqS s82)
                  refine obsR_cons ?_ ?_
                  · intro T wx K hB hF hD hK
                    have g82 := get_eqS (hD 3 82 (by simp [Region.binds]) (by kernel_rfl)) s82
                    refine ob_yes (wanted_none rfl) ?_
                    clear hF hD
                    have d1 := cell_call c1 hB
                    have d2 := cell_call c2 hB
                    go_simp
                    exact hK _ _ (Below.refl _ _) (rt_eqS s83)
                  refine obsR_cons ?_ ?_
                  · intro T wx K hB hF hD hK
                    have g10 : T[10]? = some (.pointer (some ⟨zo, 0, none⟩)) := hF 10 (freeM_of (by kernel_rfl))
                    refine ob_yes (wanted_none rfl) ?_
                    clear hF hD
                    have d1 := cell_call x0 hB
                    have d2 := cell_call x1 hB
                    go_simp
                    exact hK _ _ (Below.refl _ _) (rt_eqS s84)
                  refine obsR_cons ?_ ?_
                  · intro T wx K hB hF hD hK
                    have g83 := get_eqS (hD 4 83 (by simp [Region.binds]) (by kernel_rfl)) s83
                    have g84 := get_eqS (hD 5 84 (by simp [Region.binds]) (by kernel_rfl)) s84
                    refine ob_yes (wanted_none rfl) ?_
                    clear hF hD
                    go_simp
                    refine (C1.out _).mono ?_; rintro e w9 ⟨rfl, hb⟩
                    exact hK _ _ hb (rt_eqS s85)
                  refine obsR_cons ?_ ?_
                  · intro T wx K hB hF hD hK
                    have g12 : T[12]? = some (.slice (some ⟨p', q', none⟩) n cb1) := hF 12 (freeM_of (by kernel_rfl))
                    refine ob_yes (wanted_none rfl) ?_
                    clear hF hD
                    go_simp
                    exact hK _ _ (Below.refl _ _) (rt_eqS s86)
                  refine obsR_cons ?_ ?_
                  · intro T wx K hB hF hD hK
                    have g20 : T[20]? = some (.int .i64 (k : Int)) := hF 20 (freeM_of (by kernel_rfl))
                    refine ob_yes (wanted_none rfl) ?_
                    clear hF hD
                    go_simp
                    exact hK _ _ (Below.refl _ _) (rt_eqS s87)
                  refine obsR_cons ?_ ?_
                  · intro T wx K hB hF hD hK
                    have g86 := get_eqS (hD 7 86 (by simp [Region.binds]) (by kernel_rfl)) s86
                    have g87 := get_eqS (hD 8 87 (by simp [Region.binds]) (by kernel_rfl)) s87
                    refine ob_yes (wanted_none rfl) ?_
                    clear hF hD
                    go_simp
                    exact hK _ _ (Below.refl _ _) (rt_eqS s88)
                  refine obsR_cons ?_ ?_
                  · intro T wx K hB hF hD hK
                    have g88 := get_eqS (hD 9 88 (by simp [Region.binds]) (by kernel_rfl)) s88
                    refine ob_yes (wanted_none rfl) ?_
                    clear hF hD
                    have d1 := cell_call c3 hB
                    have d2 := cell_call c4 hB
                    go_simp
                    exact hK _ _ (Below.refl _ _) (rt_eqS s89)
                  refine obsR_cons ?_ ?_
                  · intro T wx K hB hF hD hK
                    have g10 : T[10]? = some (.pointer (some ⟨zo, 0, none⟩)) := hF 10 (freeM_of (by kernel_rfl))
                    refine ob_yes (wanted_none rfl) ?_
                    clear hF hD
                    have d1 := cell_call x0 hB
                    have d2 := cell_call x1 hB
                    go_simp
                    exact hK _ _ (Below.refl _ _) (rt_eqS s90)
                  refine obsR_cons ?_ ?_
                  · intro T wx K hB hF hD hK
                    have g89 := get_eqS (hD 10 89 (by simp [Region.binds]) (by kernel_rfl)) s89
                    have g90 := get_eqS (hD 11 90 (by simp [Region.binds]) (by kernel_rfl)) s90
                    refine ob_yes (wanted_none rfl) ?_
                    clear hF hD
                    go_simp
                    refine (C2.out _).mono ?_; rintro e w9 ⟨rfl, hb⟩
                    exact hK _ _ hb (rt_eqS s91)
                  exact obsR_nil
                · intro T w8' hb hF hs hD
                  have g79 := get_eqS (hD 0 79 (by decide) (by kernel_rfl)) s79
                  have g80 := get_eqS (hD 1 80 (by decide) (by kernel_rfl)) s80
                  have g81 := get_eqS (hD 2 81 (by decide) (by kernel_rfl)) s81
                  have g82 := get_eqS (hD 3 82 (by decide) (by kernel_rfl)) s82
                  have g83 := get_eqS (hD 4 83 (by decide) (by kernel_rfl)) s83
                  have g84 := get_eqS (hD 5 84 (by decide) (by kernel_rfl)) s84
                  have g85 := get_eqS (hD 6 85 (by decide) (by kernel_rfl)) s85
                  have g86 := get_eqS (hD 7 86 (by decide) (by kernel_rfl)) s86
                  have g87 := get_eqS (hD 8 87 (by decide) (by kernel_rfl)) s87
                  have g88 := get_eqS (hD 9 88 (by decide) (by kernel_rfl)) s88
                  have g89 := get_eqS (hD 10 89 (by decide) (by kernel_rfl)) s89
                  have g90 := get_eqS (hD 11 90 (by decide) (by kernel_rfl)) s90
                  have g91 := get_eqS (hD 12 91 (by decide) (by kernel_rfl)) s91
                  have hT := conc [(79, .int .i64 M), (80, .slice (some ⟨p, q, none⟩) n ca1), (81, .int .i64 (k : Int)), (82, .pointer (some ⟨p, q + k * 2, none⟩)), (83, .agg #[.int .i64 x1', .int .i64 x2']), (84, .agg #[.int .i64 x, .int .i64 y]), (85, .int .i64 f1), (86, .slice (some ⟨p', q', none⟩) n cb1), (87, .int .i64 (k : Int)), (88, .pointer (some ⟨p', q' + k * 2, none⟩)), (89, .agg #[.int .i64 y1', .int .i64 y2']), (90, .agg #[.int .i64 x, .int .i64 y]), (91, .int .i64 f2)] hs hF (by simp only [List.forall_mem_cons]; exact ⟨g79, g80, g81, g82, g83, g84, g85, g86, g87, g88, g89, g90, g91, fun p hp => absurd hp List.not_mem_nil⟩) (by kernel_rfl)
                  simp only [List.foldl, List.setIfInBounds_toArray, List.set_cons_succ, List.set_cons_zero] at hT
                  subst hT
                  clear hF hD hs g79 g80 g81 g82 g83 g84 g85 g86 g87 g88 g89 g90 g91 s79 s80 s81 s82 s83 s84 s85 s86 s87 s88 s89 s90 s91
                  show wpOpsIn _ _ _ _ _ [13, 14] _ _
                  have HB8 := Lib.hid (belT HBX.out hb)
                  have mx := MX.out w8'
                  clear hb c1 c2 c3 c4 x0 x1
                  simp only [wpOpsIn]
                  go_simp
                  go_wp2
                  go_roundw
                  case rel => exact ⟨k + 1, M', by omega, by go_num, by first | rfl | trivial, mb.1, mb.2, HM', HB8.out⟩
                  case measure => simp [intOf]; omega
              · have hki : ¬ (k : Int) < n := by omega
                have FAR : Hid (∀ q, q ∈ ptsL (x, y) a b → 64 * farI q.1 q.2 x y ≤ 81 * M) := Lib.hid (out_far (o := (x, y)) (by rw [LA.out, LB.out]) M0 (fun i hi => HM.out i (by rw [LA.out] at hi; omega)))
                have FU : Hid (∀ i, i < u.length → 0 ≤ farI (cx u i) (cy u i) x y ∧ 64 * farI (cx u i) (cy u i) x y ≤ 81 * M) := Lib.hid (fun i hi => by
                  have hm : gp u i ∈ ptsL (x, y) a b := by
                    rcases HC.out with ⟨e, _⟩ | ⟨_, h⟩
                    · rw [e] at hi; simp at hi
                    · exact h.2.1 i hi
                  refine ⟨?_, FAR.out _ hm⟩
                  unfold farI
                  have := sq_nn (cx u i - x)
                  have := sq_nn (cy u i - y)
                  omega)
                replace QP := Lib.hid (prow_below QP.out HBX.out)
                replace ZO := Lib.hid (blk_call ZO.out HBX.out)
                replace B := Lib.hid (belT B.out HBX.out)
                clear HBX QA QB HM FAR
                generalize wr = w11 at *
                go_wp2
                go_loopw [21] (fun i wy => ∃ k : Nat, k ≤ u.length ∧ i = .int .i64 k ∧ Below w11.heap.size w11 wy) (fun i _ => u.length - (intOf i).toNat)
                case atStart => exact ⟨0, Nat.zero_le _, rfl, Below.refl _ _⟩
                case round =>
                  obtain ⟨j, hj, rfl, hBx⟩ := hrel
                  have HBX := Lib.hid hBx
                  clear hBx
                  by_cases hju : j < u.length
                  · have hjui : (j : Int) < u.length := by omega
                    obtain ⟨p, q, rfl, c1, c2⟩ := prow_at (prow_below QP.out HBX.out) hju
                    have va := VU.out j hju
                    obtain ⟨b1, b2⟩ := FU.out j hju
                    obtain ⟨f, hf⟩ : ∃ f, farI (cx u j) (cy u j) x y = f := ⟨_, rfl⟩
                    rw [hf] at b1 b2
                    have C := Lib.hid (fun P : BlwBy wr => far_is (cx u j) (cy u j) x y f P.x va.1 va.2 (in8_V EX.out) (in8_V EY.out) (Lib.hid hf))
                    have X2 := blk_call ZO.out HBX.out
                    have x0 := blk_cell X2 0 _ rfl
                    have x1 := blk_cell X2 1 _ rfl
                    have s1 : IntKind.i64.wrap (64 * f) = 64 * f := by rw [IntKind.wrap_i64]; omega
                    have s2 : IntKind.i64.wrap (81 * M) = 81 * M := by rw [IntKind.wrap_i64]; omega
                    have s3 : ¬ 81 * M < 64 * f := by omega
                    have z1 : p < wr.heap.size := World.block_lt_of_cell? wr _ c1
                    have z3 := blk_lt X2
                    clear hf va X2 b1 b2
                    generalize cx u j = x1' at *
                    generalize cy u j = x2' at *
                    have G1 := fun P => cell_blw (w := wr) (a := ⟨p, q + j * 2, none⟩) z1 c1 P
                    have G2 := fun P => cell_blw (w := wr) (a := ⟨p, q + j * 2 + 1, none⟩) z1 c2 P
                    have G5 := fun P => cell_blw (w := wr) (a := ⟨zo, 0, none⟩) z3 x0 P
                    have G6 := fun P => cell_blw (w := wr) (a := ⟨zo, 1, none⟩) z3 x1 P
                    clear c1 c2 x0 x1
                    go_upto_region 22 with fail
                    refine wb_region mixedP (by kernel_rfl) ?_
                    repeat (refine wq_step (fun K hK => ?_); go_simp; first | (refine hK _ ?_; clear hK K) | (apply Exists.intro; refine ⟨fun _ => ?_, hK _ ?_⟩; (first | (go_at_call 37; refine Calls.blw_of (C.out _))); clear hK K))
                    refine wq_nil ?_
                    intro _ hw'
                    obtain ⟨pb, hw''⟩ := hw'
                    subst hw''
                    clear G1 G2 G5 G6 C
                    have HB6 := Lib.hid (HBX.out.trans (pb.hb.mono HBX.out.size))
                    obtain ⟨w6, hb6⟩ := pb
                    change Hid (Below w11.heap.size w11 w6) at HB6
                    dsimp only
                    clear hb6 z1 z3
                    go_wp2
                    go_roundw
                    case rel => exact ⟨j + 1, by omega, by go_num, HB6.out⟩
                    case measure => simp [intOf]; omega
                  · have hjui : ¬ (j : Int) < u.length := by omega
                    have HB9 := Lib.hid (belT B.out HBX.out)
                    go_wp2
                    go_ret
                    exact ⟨rfl, HB9.out⟩
      | false =>
        have go1 : Hid True := Lib.hid trivial
        go_wp2
        go_loopw [18] (fun i wr => ∃ k : Nat, k ≤ v.length ∧ i = .int .i64 k ∧ Below w8.heap.size w8 wr) (fun i _ => v.length - (intOf i).toNat)
        case atStart => exact ⟨0, Nat.zero_le _, rfl, Below.refl _ _⟩
        case round =>
          obtain ⟨i, hi, rfl, hBx⟩ := hrel
          have HBX := Lib.hid hBx
          clear hBx
          by_cases hil : i < v.length
          · have hili : (i : Int) < v.length := by omega
            obtain ⟨b1, o1, rfl, c1, c2⟩ := prow_at (prow_below QV.out HBX.out) hil
            have V1 := Lib.hid (VV.out i hil)
            obtain ⟨hu0, hIN⟩ := HQ.out i hil
            have HIN := Lib.hid hIN
            clear hIN
            generalize cx v i = p1 at *
            generalize cy v i = p2 at *
            go_wp2_with fail
            refine (in6_is po _ pc u p1 p2 wr rfl hu0 (by omega) (prow_below QP.out HBX.out) VU.out V1.out.1 V1.out.2 HIN).mono ?_
            rintro e w9 ⟨rfl, hb⟩
            have HB8 := Lib.hid (belT HBX.out hb)
            clear hb c1 c2
            go_wp2
            go_roundw
            case rel => exact ⟨i + 1, by omega, by go_num, HB8.out⟩
            case measure => simp [intOf]; omega
          · have hili : ¬ (i : Int) < v.length := by omega
            replace QA := Lib.hid (prow_below QA.out HBX.out)
            replace QB := Lib.hid (prow_below QB.out HBX.out)
            replace QP := Lib.hid (prow_below QP.out HBX.out)
            replace ZO := Lib.hid (blk_call ZO.out HBX.out)
            replace B := Lib.hid (belT B.out HBX.out)
            clear HBX QV
            generalize wr = w10 at *
            go_wp2
            go_loopw [19, 20] (fun s i wx => ∃ (k : Nat) (M : Int), k ≤ n ∧ i = .int .i64 k ∧ s = .int .i64 M ∧ 0 ≤ M ∧ M ≤ 4000000000000000 ∧ Hid (∀ j, j < k → farI (cx a j) (cy a j) x y ≤ M ∧ farI (cx b j) (cy b j) x y ≤ M) ∧ Below w10.heap.size w10 wx) (fun _ i _ => n - (intOf i).toNat)
            case atStart => exact ⟨0, 0, Nat.zero_le _, rfl, rfl, by omega, by omega, Lib.hid (fun j hj => by omega), Below.refl _ _⟩
            case round =>
              obtain ⟨k, M, hk, rfl, rfl, M0, M1, HM, hBx⟩ := hrel
              have HBX := Lib.hid hBx
              clear hBx
              by_cases hkn : k < n
              · have hki : (k : Int) < n := by omega
                have hka : k < a.length := by rw [LA.out]; exact hkn
                have hkb : k < b.length := by rw [LB.out]; exact hkn
                obtain ⟨p, q, rfl, c1, c2⟩ := prow_at (prow_below QA.out HBX.out) hka
                obtain ⟨p', q', rfl, c3, c4⟩ := prow_at (prow_below QB.out HBX.out) hkb
                have va := small8_V SA.out k hka
                have vb := small8_V SB.out k hkb
                have b1 := far_bd (SA.out _ (gp_mem hka)).1 (SA.out _ (gp_mem hka)).2 EX.out EY.out
                have b2 := far_bd (SB.out _ (gp_mem hkb)).1 (SB.out _ (gp_mem hkb)).2 EX.out EY.out
                obtain ⟨f1, hf1⟩ : ∃ f, farI (cx a k) (cy a k) x y = f := ⟨_, rfl⟩
                obtain ⟨f2, hf2⟩ : ∃ f, farI (cx b k) (cy b k) x y = f := ⟨_, rfl⟩
                change 0 ≤ farI (cx a k) (cy a k) x y ∧ farI (cx a k) (cy a k) x y ≤ _ at b1
                change 0 ≤ farI (cx b k) (cy b k) x y ∧ farI (cx b k) (cy b k) x y ≤ _ at b2
                rw [hf1] at b1
                rw [hf2] at b2
                obtain ⟨M', hM'⟩ : ∃ M', M' = max (max M f1) f2 := ⟨_, rfl⟩
                have mb : 0 ≤ M' ∧ M' ≤ 4000000000000000 := by omega
                have HM' : Hid (∀ j, j < k + 1 → farI (cx a j) (cy a j) x y ≤ M' ∧ farI (cx b j) (cy b j) x y ≤ M') := Lib.hid (fun j hj => by
                  by_cases e : j = k
                  · subst e; rw [hf1, hf2]; omega
                  · have := HM.out j (by omega); omega)
                have MX := Lib.hid (fun W => run_max3 M f1 f2 M' hM' W)
                have C1 := Lib.hid (fun W => far_is (cx a k) (cy a k) x y f1 W va.1 va.2 (in8_V EX.out) (in8_V EY.out) (Lib.hid hf1))
                have C2 := Lib.hid (fun W => far_is (cx b k) (cy b k) x y f2 W vb.1 vb.2 (in8_V EX.out) (in8_V EY.out) (Lib.hid hf2))
                have X2 := blk_call ZO.out HBX.out
                have x0 := blk_cell X2 0 _ rfl
                have x1 := blk_cell X2 1 _ rfl
                clear hf1 hf2 b1 b2 va vb hM' X2 HM
                generalize cx a k = x1' at *
                generalize cy a k = x2' at *
                generalize cx b k = y1' at *
                generalize cy b k = y2' at *
                go_upto_region 18 with fail
                obtain ⟨sp, hsp⟩ : ∃ sp : ToldS, sp = [none, none, none, none, none, none, none, none, none, none, none, none, none, none, none, none, none, none, none, none, none, none, none, none, none, none, none, none, none, none, none, none, none, none, none, none, none, none, none, none, none, none, none, none, none, none, none, none, none, none, none, none, none, none, none, none, none, none, none, none, none, none, none, none, none, none, none, none, none, none, none, none, none, none, none, none, none, none, none, some (eqS (.int .i64 M)), some (eqS (.slice (some ⟨p, q, none⟩) n ca1)), some (eqS (.int .i64 (k : Int))), some (eqS (.pointer (some ⟨p, q + k * 2, none⟩))), some (eqS (.agg #[.int .i64 x1', .int .i64 x2'])), some (eqS (.agg #[.int .i64 x, .int .i64 y])), some (eqS (.int .i64 f1)), some (eqS (.slice (some ⟨p', q', none⟩) n cb1)), some (eqS (.int .i64 (k : Int))), some (eqS (.pointer (some ⟨p', q' + k * 2, none⟩))), some (eqS (.agg #[.int .i64 y1', .int .i64 y2'])), some (eqS (.agg #[.int .i64 x, .int .i64 y])), some (eqS (.int .i64 f2))] := ⟨_, rfl⟩
                have s79 : sp.getD 79 none = some (eqS (.int .i64 M)) := by rw [hsp]; rfl
                have s80 : sp.getD 80 none = some (eqS (.slice (some ⟨p, q, none⟩) n ca1)) := by rw [hsp]; rfl
                have s81 : sp.getD 81 none = some (eqS (.int .i64 (k : Int))) := by rw [hsp]; rfl
                have s82 : sp.getD 82 none = some (eqS (.pointer (some ⟨p, q + k * 2, none⟩))) := by rw [hsp]; rfl
                have s83 : sp.getD 83 none = some (eqS (.agg #[.int .i64 x1', .int .i64 x2'])) := by rw [hsp]; rfl
                have s84 : sp.getD 84 none = some (eqS (.agg #[.int .i64 x, .int .i64 y])) := by rw [hsp]; rfl
                have s85 : sp.getD 85 none = some (eqS (.int .i64 f1)) := by rw [hsp]; rfl
                have s86 : sp.getD 86 none = some (eqS (.slice (some ⟨p', q', none⟩) n cb1)) := by rw [hsp]; rfl
                have s87 : sp.getD 87 none = some (eqS (.int .i64 (k : Int))) := by rw [hsp]; rfl
                have s88 : sp.getD 88 none = some (eqS (.pointer (some ⟨p', q' + k * 2, none⟩))) := by rw [hsp]; rfl
                have s89 : sp.getD 89 none = some (eqS (.agg #[.int .i64 y1', .int .i64 y2'])) := by rw [hsp]; rfl
                have s90 : sp.getD 90 none = some (eqS (.agg #[.int .i64 x, .int .i64 y])) := by rw [hsp]; rfl
                have s91 : sp.getD 91 none = some (eqS (.int .i64 f2)) := by rw [hsp]; rfl
                clear hsp
                refine (wpIn_wide (n := 0)).1 (region_headR (RtS sp) (rtS_keep sp) 13 rfl rfl rfl (by kernel_rfl) (by decide) (by kernel_rfl) (by kernel_rfl) (by kernel_rfl) ?_ ?_)
                · intro Q'; show ObsR _ _ _ _ _ _ _ _ (List.take _ _); simp only [List.take_succ_cons, List.take_zero]
                  refine obsR_cons ?_ ?_
                  · intro T wx K hB hF hD hK
                    have g19 : T[19]? = some (.int .i64 M) := hF 19 (freeM_of (by kernel_rfl))
                    refine ob_yes (wanted_none rfl) ?_
                    clear hF hD
                    go_simp
                    exact hK _ _ (Below.refl _ _) (rt_eqS s79)
                  refine obsR_cons ?_ ?_
                  · intro T wx K hB hF hD hK
                    have g11 : T[11]? = some (.slice (some ⟨p, q, none⟩) n ca1) := hF 11 (freeM_of (by kernel_rfl))
                    refine ob_yes (wanted_none rfl) ?_
                    clear hF hD
                    go_simp
                    exact hK _ _ (Below.refl _ _) (rt_eqS s80)
                  refine obsR_cons ?_ ?_
                  · intro T wx K hB hF hD hK
                    have g20 : T[20]? = some (.int .i64 (k : Int)) := hF 20 (freeM_of (by kernel_rfl))
                    refine ob_yes (wanted_none rfl) ?_
                    clear hF hD
                    go_simp
                    exact hK _ _ (Below.refl _ _) (rt_eqS s81)
                  refine obsR_cons ?_ ?_
                  · intro T wx K hB hF hD hK
                    have g80 := get_eqS (hD 1 80 (by simp [Region.binds]) (by kernel_rfl)) s80
                    have g81 := get_eqS (hD 2 81 (by simp [Region.binds]) (by kernel_rfl)) s81
                    refine ob_yes (wanted_none rfl) ?_
                    clear hF hD
                    go_simp
                    exact hK _ _ (Below.refl _ _) (rt_eqS s82)
                  refine obsR_cons ?_ ?_
                  · intro T wx K hB hF hD hK
                    have g82 := get_eqS (hD 3 82 (by simp [Region.binds]) (by kernel_rfl)) s82
                    refine ob_yes (wanted_none rfl) ?_
                    clear hF hD
                    have d1 := cell_call c1 hB
                    have d2 := cell_call c2 hB
                    go_simp
                    exact hK _ _ (Below.refl _ _) (rt_eqS s83)
                  refine obsR_cons ?_ ?_
                  · intro T wx K hB hF hD hK
                    have g10 : T[10]? = some (.pointer (some ⟨zo, 0, none⟩)) := hF 10 (freeM_of (by kernel_rfl))
                    refine ob_yes (wanted_none rfl) ?_
                    clear hF hD
                    have d1 := cell_call x0 hB
                    have d2 := cell_call x1 hB
                    go_simp
                    exact hK _ _ (Below.refl _ _) (rt_eqS s84)
                  refine obsR_cons ?_ ?_
                  · intro T wx K hB hF hD hK
                    have g83 := get_eqS (hD 4 83 (by simp [Region.binds]) (by kernel_rfl)) s83
                    have g84 := get_eqS (hD 5 84 (by simp [Region.binds]) (by kernel_rfl)) s84
                    refine ob_yes (wanted_none rfl) ?_
                    clear hF hD
                    go_simp
                    refine (C1.out _).mono ?_; rintro e w9 ⟨rfl, hb⟩
                    exact hK _ _ hb (rt_eqS s85)
                  refine obsR_cons ?_ ?_
                  · intro T wx K hB hF hD hK
                    have g12 : T[12]? = some (.slice (some ⟨p', q', none⟩) n cb1) := hF 12 (freeM_of (by kernel_rfl))
                    refine ob_yes (wanted_none rfl) ?_
                    clear hF hD
                    go_simp
                    exact hK _ _ (Below.refl _ _) (rt_eqS s86)
                  refine obsR_cons ?_ ?_
                  · intro T wx K hB hF hD hK
                    have g20 : T[20]? = some (.int .i64 (k : Int)) := hF 20 (freeM_of (by kernel_rfl))
                    refine ob_yes (wanted_none rfl) ?_
                    clear hF hD
                    go_simp
                    exact hK _ _ (Below.refl _ _) (rt_eqS s87)
                  refine obsR_cons ?_ ?_
                  · intro T wx K hB hF hD hK
                    have g86 := get_eqS (hD 7 86 (by simp [Region.binds]) (by kernel_rfl)) s86
                    have g87 := get_eqS (hD 8 87 (by simp [Region.binds]) (by kernel_rfl)) s87
                    refine ob_yes (wanted_none rfl) ?_
                    clear hF hD
                    go_simp
                    exact hK _ _ (Below.refl _ _) (rt_eqS s88)
                  refine obsR_cons ?_ ?_
                  · intro T wx K hB hF hD hK
                    have g88 := get_eqS (hD 9 88 (by simp [Region.binds]) (by kernel_rfl)) s88
                    refine ob_yes (wanted_none rfl) ?_
                    clear hF hD
                    have d1 := cell_call c3 hB
                    have d2 := cell_call c4 hB
                    go_simp
                    exact hK _ _ (Below.refl _ _) (rt_eqS s89)
                  refine obsR_cons ?_ ?_
                  · intro T wx K hB hF hD hK
                    have g10 : T[10]? = some (.pointer (some ⟨zo, 0, none⟩)) := hF 10 (freeM_of (by kernel_rfl))
                    refine ob_yes (wanted_none rfl) ?_
                    clear hF hD
                    have d1 := cell_call x0 hB
                    have d2 := cell_call x1 hB
                    go_simp
                    exact hK _ _ (Below.refl _ _) (rt_eqS s90)
                  refine obsR_cons ?_ ?_
                  · intro T wx K hB hF hD hK
                    have g89 := get_eqS (hD 10 89 (by simp [Region.binds]) (by kernel_rfl)) s89
                    have g90 := get_eqS (hD 11 90 (by simp [Region.binds]) (by kernel_rfl)) s90
                    refine ob_yes (wanted_none rfl) ?_
                    clear hF hD
                    go_simp
                    refine (C2.out _).mono ?_; rintro e w9 ⟨rfl, hb⟩
                    exact hK _ _ hb (rt_eqS s91)
                  exact obsR_nil
                · intro T w8' hb hF hs hD
                  have g79 := get_eqS (hD 0 79 (by decide) (by kernel_rfl)) s79
                  have g80 := get_eqS (hD 1 80 (by decide) (by kernel_rfl)) s80
                  have g81 := get_eqS (hD 2 81 (by decide) (by kernel_rfl)) s81
                  have g82 := get_eqS (hD 3 82 (by decide) (by kernel_rfl)) s82
                  have g83 := get_eqS (hD 4 83 (by decide) (by kernel_rfl)) s83
                  have g84 := get_eqS (hD 5 84 (by decide) (by kernel_rfl)) s84
                  have g85 := get_eqS (hD 6 85 (by decide) (by kernel_rfl)) s85
                  have g86 := get_eqS (hD 7 86 (by decide) (by kernel_rfl)) s86
                  have g87 := get_eqS (hD 8 87 (by decide) (by kernel_rfl)) s87
                  have g88 := get_eqS (hD 9 88 (by decide) (by kernel_rfl)) s88
                  have g89 := get_eqS (hD 10 89 (by decide) (by kernel_rfl)) s89
                  have g90 := get_eqS (hD 11 90 (by decide) (by kernel_rfl)) s90
                  have g91 := get_eqS (hD 12 91 (by decide) (by kernel_rfl)) s91
                  have hT := conc [(79, .int .i64 M), (80, .slice (some ⟨p, q, none⟩) n ca1), (81, .int .i64 (k : Int)), (82, .pointer (some ⟨p, q + k * 2, none⟩)), (83, .agg #[.int .i64 x1', .int .i64 x2']), (84, .agg #[.int .i64 x, .int .i64 y]), (85, .int .i64 f1), (86, .slice (some ⟨p', q', none⟩) n cb1), (87, .int .i64 (k : Int)), (88, .pointer (some ⟨p', q' + k * 2, none⟩)), (89, .agg #[.int .i64 y1', .int .i64 y2']), (90, .agg #[.int .i64 x, .int .i64 y]), (91, .int .i64 f2)] hs hF (by simp only [List.forall_mem_cons]; exact ⟨g79, g80, g81, g82, g83, g84, g85, g86, g87, g88, g89, g90, g91, fun p hp => absurd hp List.not_mem_nil⟩) (by kernel_rfl)
                  simp only [List.foldl, List.setIfInBounds_toArray, List.set_cons_succ, List.set_cons_zero] at hT
                  subst hT
                  clear hF hD hs g79 g80 g81 g82 g83 g84 g85 g86 g87 g88 g89 g90 g91 s79 s80 s81 s82 s83 s84 s85 s86 s87 s88 s89 s90 s91
                  show wpOpsIn _ _ _ _ _ [13, 14] _ _
                  have HB8 := Lib.hid (belT HBX.out hb)
                  have mx := MX.out w8'
                  clear hb c1 c2 c3 c4 x0 x1
                  simp only [wpOpsIn]
                  go_simp
                  go_wp2
                  go_roundw
                  case rel => exact ⟨k + 1, M', by omega, by go_num, by first | rfl | trivial, mb.1, mb.2, HM', HB8.out⟩
                  case measure => simp [intOf]; omega
              · have hki : ¬ (k : Int) < n := by omega
                have FAR : Hid (∀ q, q ∈ ptsL (x, y) a b → 64 * farI q.1 q.2 x y ≤ 81 * M) := Lib.hid (out_far (o := (x, y)) (by rw [LA.out, LB.out]) M0 (fun i hi => HM.out i (by rw [LA.out] at hi; omega)))
                have FU : Hid (∀ i, i < u.length → 0 ≤ farI (cx u i) (cy u i) x y ∧ 64 * farI (cx u i) (cy u i) x y ≤ 81 * M) := Lib.hid (fun i hi => by
                  have hm : gp u i ∈ ptsL (x, y) a b := by
                    rcases HC.out with ⟨e, _⟩ | ⟨_, h⟩
                    · rw [e] at hi; simp at hi
                    · exact h.2.1 i hi
                  refine ⟨?_, FAR.out _ hm⟩
                  unfold farI
                  have := sq_nn (cx u i - x)
                  have := sq_nn (cy u i - y)
                  omega)
                replace QP := Lib.hid (prow_below QP.out HBX.out)
                replace ZO := Lib.hid (blk_call ZO.out HBX.out)
                replace B := Lib.hid (belT B.out HBX.out)
                clear HBX QA QB HM FAR
                generalize wr = w11 at *
                go_wp2
                go_loopw [21] (fun i wy => ∃ k : Nat, k ≤ u.length ∧ i = .int .i64 k ∧ Below w11.heap.size w11 wy) (fun i _ => u.length - (intOf i).toNat)
                case atStart => exact ⟨0, Nat.zero_le _, rfl, Below.refl _ _⟩
                case round =>
                  obtain ⟨j, hj, rfl, hBx⟩ := hrel
                  have HBX := Lib.hid hBx
                  clear hBx
                  by_cases hju : j < u.length
                  · have hjui : (j : Int) < u.length := by omega
                    obtain ⟨p, q, rfl, c1, c2⟩ := prow_at (prow_below QP.out HBX.out) hju
                    have va := VU.out j hju
                    obtain ⟨b1, b2⟩ := FU.out j hju
                    obtain ⟨f, hf⟩ : ∃ f, farI (cx u j) (cy u j) x y = f := ⟨_, rfl⟩
                    rw [hf] at b1 b2
                    have C := Lib.hid (fun P : BlwBy wr => far_is (cx u j) (cy u j) x y f P.x va.1 va.2 (in8_V EX.out) (in8_V EY.out) (Lib.hid hf))
                    have X2 := blk_call ZO.out HBX.out
                    have x0 := blk_cell X2 0 _ rfl
                    have x1 := blk_cell X2 1 _ rfl
                    have s1 : IntKind.i64.wrap (64 * f) = 64 * f := by rw [IntKind.wrap_i64]; omega
                    have s2 : IntKind.i64.wrap (81 * M) = 81 * M := by rw [IntKind.wrap_i64]; omega
                    have s3 : ¬ 81 * M < 64 * f := by omega
                    have z1 : p < wr.heap.size := World.block_lt_of_cell? wr _ c1
                    have z3 := blk_lt X2
                    clear hf va X2 b1 b2
                    generalize cx u j = x1' at *
                    generalize cy u j = x2' at *
                    have G1 := fun P => cell_blw (w := wr) (a := ⟨p, q + j * 2, none⟩) z1 c1 P
                    have G2 := fun P => cell_blw (w := wr) (a := ⟨p, q + j * 2 + 1, none⟩) z1 c2 P
                    have G5 := fun P => cell_blw (w := wr) (a := ⟨zo, 0, none⟩) z3 x0 P
                    have G6 := fun P => cell_blw (w := wr) (a := ⟨zo, 1, none⟩) z3 x1 P
                    clear c1 c2 x0 x1
                    go_upto_region 22 with fail
                    refine wb_region mixedP (by kernel_rfl) ?_
                    repeat (refine wq_step (fun K hK => ?_); go_simp; first | (refine hK _ ?_; clear hK K) | (apply Exists.intro; refine ⟨fun _ => ?_, hK _ ?_⟩; (first | (go_at_call 37; refine Calls.blw_of (C.out _))); clear hK K))
                    refine wq_nil ?_
                    intro _ hw'
                    obtain ⟨pb, hw''⟩ := hw'
                    subst hw''
                    clear G1 G2 G5 G6 C
                    have HB6 := Lib.hid (HBX.out.trans (pb.hb.mono HBX.out.size))
                    obtain ⟨w6, hb6⟩ := pb
                    change Hid (Below w11.heap.size w11 w6) at HB6
                    dsimp only
                    clear hb6 z1 z3
                    go_wp2
                    go_roundw
                    case rel => exact ⟨j + 1, by omega, by go_num, HB6.out⟩
                    case measure => simp [intOf]; omega
                  · have hjui : ¬ (j : Int) < u.length := by omega
                    have HB9 := Lib.hid (belT B.out HBX.out)
                    go_wp2
                    go_ret
                    exact ⟨rfl, HB9.out⟩

set_option maxRecDepth 100000 in
theorem lifted (os : Os) (started : os.Started) (H : Type) (enc : TypeId × Value → H) :
    ReturnsInHanded {} Try.checked os 8 .any (Rows.sweepMonotonicSpec.pre6 enc Try.prog Try.f8 Rows.sweepMonotonicRow.domain false) (Rows.sweepMonotonicSpec.post enc Try.prog Try.f8 false true false false) := by
  refine returnsInHanded_of_change (C := Try.checked) HFr.own started (by kernel_rfl) Try.func8
    (ChangeSpec.witness6 (enc := enc) (C := Try.checked) false ⟨#[], #[.agg #[.int .i64 0, .int .i64 0], .slice none 0 0, .slice none 0 0, .int .u8 0], []⟩ 8 (by kernel_rfl) (by kernel_rfl) (by kernel_rfl) (by kernel_rfl)) ?_
  intro W base args ds gs before hval0 hW hcnd _
  have hval : ∀ (j : Nat) t v, Try.f8.params[j]? = some t → args[j]? = some v → Value.okWide Try.prog W .any base t v := hval0
  have hW' := hW
  obtain ⟨p, q, hA0, hV, rfl, hfz, hnd⟩ := hW
  have hA : DataW.TrodAll enc Try.prog W 0 (fun _ => true) true Try.f8.params.toList args.toList ds p := hA0
  rw [Try.params8] at hA hval
  obtain ⟨v0, vs0, d0, ds0, p0, q0, hargs, rfl, rfl, h0, r0⟩ := trodAll_cons hA
  obtain ⟨v1, vs1, d1, ds1, p1, q1, rfl, rfl, rfl, h1, r1⟩ := trodAll_cons r0
  obtain ⟨v2, vs2, d2, ds2, p2, q2, rfl, rfl, rfl, h2, r2⟩ := trodAll_cons r1
  obtain ⟨v3, vs3, d3, ds3, p3, q3, rfl, rfl, rfl, h3, r3⟩ := trodAll_cons r2
  obtain ⟨rfl, rfl, rfl⟩ := trodAll_nil r3
  obtain rfl : args = #[v0, v1, v2, v3] := by cases args; simp_all
  obtain ⟨rfl, rfl⟩ := trodVars_none hV
  have k0 := h0
  have lt0 : ∀ x ∈ p0, x.block < W.heap.size := by obtain ⟨m, hm⟩ := k0; exact DataW.trod_lt m _ _ _ hm
  obtain ⟨x0, y0, rfl⟩ := HFr.open_pt (hval 0 35 v0 rfl rfl) h0
  have k1 := h1
  have lt1 : ∀ x ∈ p1, x.block < W.heap.size := by obtain ⟨m, hm⟩ := k1; exact DataW.trod_lt m _ _ _ hm
  obtain ⟨a1, cap1, l1, rfl, n1, w1⟩ := HFr.open_pts (hval 1 22 v1 rfl rfl) h1
  have k2 := h2
  have lt2 : ∀ x ∈ p2, x.block < W.heap.size := by obtain ⟨m, hm⟩ := k2; exact DataW.trod_lt m _ _ _ hm
  obtain ⟨a2, cap2, l2, rfl, n2, w2⟩ := HFr.open_pts (hval 2 22 v2 rfl rfl) h2
  obtain ⟨a3, rfl, rfl, rfl, w3⟩ := open_int Try.underlying5 (hval 3 5 v3 rfl rfl) h3
  clear hA0 hval0
  refine (walk x0 y0 a1 cap1 l1 n1 w1 a2 cap2 l2 n2 w2 a3 w3 W rfl).mono fun e W' ⟨he, bel⟩ => ?_
  subst he
  exact ⟨_, rfl, _, _, _, [], _, [], hW', trodAll_mk1 (shut_bool Try.underlying4 _), (trodAll_cons_mk (Below.trod HFr.laidOut (by kernel_rfl) (of_decide_eq_true (by kernel_rfl)) k0 bel lt0) (trodAll_cons_mk (Below.trod HFr.laidOut (by kernel_rfl) (of_decide_eq_true (by kernel_rfl)) k1 bel lt1) (trodAll_cons_mk (Below.trod HFr.laidOut (by kernel_rfl) (of_decide_eq_true (by kernel_rfl)) k2 bel lt2) (trodAll_cons_mk (shut_int Try.underlying5 w3) trodAll_mk0)))), rfl, bel.frame _, fun h => by cases h⟩

/-- THE STATEMENT. -/
theorem holds : Rows.SweepMonotonicSaid :=
  OpenClaim.holds_of_wide 8 Try.f8 rfl rfl rfl rfl rfl rfl rfl ⟨rfl, rfl, rfl, rfl, rfl⟩ rfl rfl rfl rfl rfl (by kernel_rfl) Try.func8 (by kernel_rfl)
    (of_decide_eq_true (by kernel_rfl)) (by unfold Func.isWrapper; first | (rw [if_pos (by decide +kernel)]; kernel_rfl) | (rw [if_neg (by decide +kernel)]; exact ⟨rfl, rfl⟩))
    (fun os started H enc _ => lifted os started H enc)
#print axioms holds
end Go.Proofs.Ytnpadblfpaiofaa.sweepMonotonic
