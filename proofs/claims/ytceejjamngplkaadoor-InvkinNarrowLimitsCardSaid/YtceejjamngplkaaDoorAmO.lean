/- Contracts of the reference's Joint and of the law's One and far. -/
import Derived.Test.YtceejjamngplkaaDoorAmD
import Derived.Test.YtceejjamngplkaaDoorAmI
import Derived.Test.YtceejjamngplkaaDoorRgn
namespace Go.Proofs.YtceejjamngplkaaDoor
open Go.ChangeShapes Go.WideShapes Go.ChangeAt Go.RowKit
set_option linter.unusedVariables false
set_option linter.unusedSimpArgs false
set_option maxRecDepth 100000

/-- A joint value within limits, out of an arbitrary number. -/
def jq (l h r : Int) : Int := l + r.tmod (h - l + 1)
theorem jq_bd {l h r : Int} (hl : l ≤ h) (hr : 0 ≤ r) : (0 ≤ r.tmod (h - l + 1) ∧ r.tmod (h - l + 1) ≤ h - l) ∧ l ≤ jq l h r ∧ jq l h r ≤ h := by
  have e : r.tmod (h - l + 1) = r % (h - l + 1) := Int.tmod_eq_emod_of_nonneg hr
  have a := Int.emod_nonneg r (show h - l + 1 ≠ 0 by omega)
  have b := Int.emod_lt_of_pos r (show 0 < h - l + 1 by omega)
  unfold jq
  rw [e]
  omega
def farI (a b c d : Int) : Int := (a - c).tdiv 16 * (a - c).tdiv 16 + (b - d).tdiv 16 * (b - d).tdiv 16
theorem tdiv16 {x : Int} (h : -2000000000 ≤ x ∧ x ≤ 2000000000) : -125000000 ≤ x.tdiv 16 ∧ x.tdiv 16 ≤ 125000000 := by
  rw [Int.tdiv_eq_ediv]
  have : (16 : Int).sign = 1 := rfl
  split <;> omega
theorem wrapi (n : Int) (h : -1000000000 ≤ n ∧ n ≤ 1000000000) : IntKind.i64.wrap n = n := by rw [IntKind.wrap_i64]; omega
set_option maxHeartbeats 4000000 in
theorem joint_is (X Y n0 n1 n2 W l0 l1 l2 h0 h1 h2 : Int) (r0 r1 r2 : Int) (w : World) (V : Hid (armB X Y n0 n1 n2 W l0 l1 l2 h0 h1 h2 = true)) (hr0 : 0 ≤ r0 ∧ r0 ≤ 255) (hr1 : 0 ≤ r1 ∧ r1 ≤ 255) (hr2 : 0 ≤ r2 ∧ r2 ≤ 255) :
    Calls Tryd.prog 17 #[.agg #[.int .i64 X, .int .i64 Y, .int .i64 n0, .int .i64 n1, .int .i64 n2, .int .i64 W, .int .i64 l0, .int .i64 l1, .int .i64 l2, .int .i64 h0, .int .i64 h1, .int .i64 h2], .agg #[.int .u8 r0, .int .u8 r1, .int .u8 r2]] w fun e w' => e = .returned (.agg #[.int .i64 (jq l0 h0 r0), .int .i64 (jq l1 h1 r1), .int .i64 (jq l2 h2 r2)]) ∧ Below w.heap.size w w' := by
  have v := ((armB_iff X Y n0 n1 n2 W l0 l1 l2 h0 h1 h2).1 V.out).2.1
  obtain ⟨⟨v1, v2, v3⟩, ⟨v4, v5, v6⟩, v7, v8, v9⟩ := v
  clear V
  obtain ⟨⟨j1, j2⟩, -⟩ := jq_bd v2 hr0.1
  obtain ⟨⟨j3, j4⟩, -⟩ := jq_bd v5 hr1.1
  obtain ⟨⟨j5, j6⟩, -⟩ := jq_bd v8 hr2.1
  have z0 : ¬ h0 - l0 + 1 = 0 := by omega
  have z1 : ¬ h1 - l1 + 1 = 0 := by omega
  have z2 : ¬ h2 - l2 + 1 = 0 := by omega
  go_enter Tryd.func17, Tryd.ntmps17
  go_upto_region 2 with fail
  obtain ⟨W0, hW0⟩ : ∃ z, ((((w.alloc (.cells #[.int .i64 X, .int .i64 Y, .int .i64 n0, .int .i64 n1, .int .i64 n2, .int .i64 W, .int .i64 l0, .int .i64 l1, .int .i64 l2, .int .i64 h0, .int .i64 h1, .int .i64 h2] 27)).alloc (.cells #[.int .u8 r0, .int .u8 r1, .int .u8 r2] 30)).alloc (.cells #[.int .i64 0, .int .i64 0, .int .i64 0] 25)).alloc (.cells #[.int .i64 0, .int .i64 0, .int .i64 0] 25)) = z := ⟨_, rfl⟩
  have HJ : Hid (W0.heap[w.heap.size + 1 + 1 + 1]? = some (.cells #[.int .i64 0, .int .i64 0, .int .i64 0] 25 (0, 0))) := Lib.hid (by rw [← hW0]; exact blk_new _ _ _ (by simp))
  have HS : Hid (W0.heap[w.heap.size + 1 + 1]? = some (.cells #[.int .i64 0, .int .i64 0, .int .i64 0] 25 (0, 0))) := Lib.hid (by rw [← hW0]; exact blk_alloc (blk_new _ _ _ (by simp)) _)
  have HR : Hid (W0.heap[w.heap.size + 1]? = some (.cells #[.int .u8 r0, .int .u8 r1, .int .u8 r2] 30 (0, 0))) := Lib.hid (by rw [← hW0]; exact blk_alloc (blk_alloc (blk_new _ _ _ (by simp)) _) _)
  have HA : Hid (W0.heap[w.heap.size]? = some (.cells #[.int .i64 X, .int .i64 Y, .int .i64 n0, .int .i64 n1, .int .i64 n2, .int .i64 W, .int .i64 l0, .int .i64 l1, .int .i64 l2, .int .i64 h0, .int .i64 h1, .int .i64 h2] 27 (0, 0))) := Lib.hid (by rw [← hW0]; exact blk_alloc (blk_alloc (blk_alloc (blk_new _ _ _ rfl) _) _) _)
  have B : Hid (Below w.heap.size w W0) := Lib.hid (by rw [← hW0]; go_grown)
  rw [hW0]
  clear hW0
  obtain ⟨a, ha⟩ : ∃ a, w.heap.size = a := ⟨_, rfl⟩
  generalize hj : w.heap.size + 1 + 1 + 1 = j at *
  generalize hs : w.heap.size + 1 + 1 = s at *
  generalize hr : w.heap.size + 1 = r at *
  have NE : Hid ((w.heap.size ≤ j ∧ w.heap.size ≤ s) ∧ j ≠ a ∧ j ≠ r ∧ j ≠ s) := Lib.hid (by omega)
  rw [ha] at HA ⊢
  clear hj hs hr
  go_wp2_with fail
  refine wp_loop_rounds 4 ?_
  rw [rounds_succ]
  go_wp2_with fail
  obtain ⟨sp, hsp⟩ : ∃ sp : ToldS, sp = [none, none, none, none, none, none, none, none, none, none, none, none, some (eqS (.int .i64 0)), some (eqS (.int .i64 0)), some (eqS (.pointer (some ⟨a, 6, none⟩))), some (eqS (.pointer (some ⟨a, 6, none⟩))), some (eqS (.int .i64 l0)), some (eqS (.int .i64 0)), some (eqS (.pointer (some ⟨r, 0, none⟩))), some (eqS (.int .u8 r0)), some (eqS (.int .i64 r0)), some (eqS (.int .i64 0)), some (eqS (.pointer (some ⟨a, 9, none⟩))), some (eqS (.pointer (some ⟨a, 9, none⟩))), some (eqS (.int .i64 h0)), some (eqS (.int .i64 0)), some (eqS (.pointer (some ⟨a, 6, none⟩))), some (eqS (.pointer (some ⟨a, 6, none⟩))), some (eqS (.int .i64 l0)), some (eqS (.int .i64 (h0 - l0))), some (eqS (.int .i64 (h0 - l0 + 1))), some (eqS (.int .i64 (r0.tmod (h0 - l0 + 1)))), some (eqS (.int .i64 (l0 + r0.tmod (h0 - l0 + 1)))), some (eqS (.pointer (some ⟨j, 0, none⟩)))] := ⟨_, rfl⟩
  have s12 : sp.getD 12 none = some (eqS (.int .i64 0)) := by rw [hsp]; rfl
  have s13 : sp.getD 13 none = some (eqS (.int .i64 0)) := by rw [hsp]; rfl
  have s14 : sp.getD 14 none = some (eqS (.pointer (some ⟨a, 6, none⟩))) := by rw [hsp]; rfl
  have s15 : sp.getD 15 none = some (eqS (.pointer (some ⟨a, 6, none⟩))) := by rw [hsp]; rfl
  have s16 : sp.getD 16 none = some (eqS (.int .i64 l0)) := by rw [hsp]; rfl
  have s17 : sp.getD 17 none = some (eqS (.int .i64 0)) := by rw [hsp]; rfl
  have s18 : sp.getD 18 none = some (eqS (.pointer (some ⟨r, 0, none⟩))) := by rw [hsp]; rfl
  have s19 : sp.getD 19 none = some (eqS (.int .u8 r0)) := by rw [hsp]; rfl
  have s20 : sp.getD 20 none = some (eqS (.int .i64 r0)) := by rw [hsp]; rfl
  have s21 : sp.getD 21 none = some (eqS (.int .i64 0)) := by rw [hsp]; rfl
  have s22 : sp.getD 22 none = some (eqS (.pointer (some ⟨a, 9, none⟩))) := by rw [hsp]; rfl
  have s23 : sp.getD 23 none = some (eqS (.pointer (some ⟨a, 9, none⟩))) := by rw [hsp]; rfl
  have s24 : sp.getD 24 none = some (eqS (.int .i64 h0)) := by rw [hsp]; rfl
  have s25 : sp.getD 25 none = some (eqS (.int .i64 0)) := by rw [hsp]; rfl
  have s26 : sp.getD 26 none = some (eqS (.pointer (some ⟨a, 6, none⟩))) := by rw [hsp]; rfl
  have s27 : sp.getD 27 none = some (eqS (.pointer (some ⟨a, 6, none⟩))) := by rw [hsp]; rfl
  have s28 : sp.getD 28 none = some (eqS (.int .i64 l0)) := by rw [hsp]; rfl
  have s29 : sp.getD 29 none = some (eqS (.int .i64 (h0 - l0))) := by rw [hsp]; rfl
  have s30 : sp.getD 30 none = some (eqS (.int .i64 (h0 - l0 + 1))) := by rw [hsp]; rfl
  have s31 : sp.getD 31 none = some (eqS (.int .i64 (r0.tmod (h0 - l0 + 1)))) := by rw [hsp]; rfl
  have s32 : sp.getD 32 none = some (eqS (.int .i64 (l0 + r0.tmod (h0 - l0 + 1)))) := by rw [hsp]; rfl
  have s33 : sp.getD 33 none = some (eqS (.pointer (some ⟨j, 0, none⟩))) := by rw [hsp]; rfl
  clear hsp
  refine (wpIn_wide (n := 0)).1 (region_headR (RtS sp) (rtS_keep sp) 22 rfl rfl rfl (by kernel_rfl) (by decide) (by kernel_rfl) (by kernel_rfl) (by kernel_rfl) ?_ ?_)
  · intro Q'; show ObsR _ _ _ _ _ _ _ _ (List.take _ _); simp only [List.take_succ_cons, List.take_zero]
    refine obsR_cons ?_ ?_
    · intro T wx K hB hF hD hK
      have g6 : T[6]? = some (.int .i64 0) := hF 6 (freeM_of (by kernel_rfl))
      refine ob_yes (wanted_none rfl) ?_
      clear hF hD
      go_simp
      exact hK _ _ (Below.refl _ _) (rt_eqS s12)
    refine obsR_cons ?_ ?_
    · intro T wx K hB hF hD hK
      have g6 : T[6]? = some (.int .i64 0) := hF 6 (freeM_of (by kernel_rfl))
      refine ob_yes (wanted_none rfl) ?_
      clear hF hD
      go_simp
      exact hK _ _ (Below.refl _ _) (rt_eqS s13)
    refine obsR_cons ?_ ?_
    · intro T wx K hB hF hD hK
      have g2 : T[2]? = some (.pointer (some ⟨a, 0, none⟩)) := hF 2 (freeM_of (by kernel_rfl))
      refine ob_yes (wanted_none rfl) ?_
      clear hF hD
      go_simp
      exact hK _ _ (Below.refl _ _) (rt_eqS s14)
    refine obsR_cons ?_ ?_
    · intro T wx K hB hF hD hK
      have g14 := get_eqS (hD 2 14 (by simp [Region.binds]) (by kernel_rfl)) s14
      have g13 := get_eqS (hD 1 13 (by simp [Region.binds]) (by kernel_rfl)) s13
      refine ob_yes (wanted_none rfl) ?_
      clear hF hD
      go_simp
      exact hK _ _ (Below.refl _ _) (rt_eqS s15)
    refine obsR_cons ?_ ?_
    · intro T wx K hB hF hD hK
      have g15 := get_eqS (hD 3 15 (by simp [Region.binds]) (by kernel_rfl)) s15
      refine ob_yes (wanted_none rfl) ?_
      clear hF hD
      have c0 := blk_cell (blk_call HA.out hB) 6 _ rfl
      go_simp
      exact hK _ _ (Below.refl _ _) (rt_eqS s16)
    refine obsR_cons ?_ ?_
    · intro T wx K hB hF hD hK
      have g6 : T[6]? = some (.int .i64 0) := hF 6 (freeM_of (by kernel_rfl))
      refine ob_yes (wanted_none rfl) ?_
      clear hF hD
      go_simp
      exact hK _ _ (Below.refl _ _) (rt_eqS s17)
    refine obsR_cons ?_ ?_
    · intro T wx K hB hF hD hK
      have g3 : T[3]? = some (.pointer (some ⟨r, 0, none⟩)) := hF 3 (freeM_of (by kernel_rfl))
      have g17 := get_eqS (hD 5 17 (by simp [Region.binds]) (by kernel_rfl)) s17
      refine ob_yes (wanted_none rfl) ?_
      clear hF hD
      go_simp
      exact hK _ _ (Below.refl _ _) (rt_eqS s18)
    refine obsR_cons ?_ ?_
    · intro T wx K hB hF hD hK
      have g18 := get_eqS (hD 6 18 (by simp [Region.binds]) (by kernel_rfl)) s18
      refine ob_yes (wanted_none rfl) ?_
      clear hF hD
      have c0 := blk_cell (blk_call HR.out hB) 0 _ rfl
      go_simp
      exact hK _ _ (Below.refl _ _) (rt_eqS s19)
    refine obsR_cons ?_ ?_
    · intro T wx K hB hF hD hK
      have g19 := get_eqS (hD 7 19 (by simp [Region.binds]) (by kernel_rfl)) s19
      refine ob_yes (wanted_none rfl) ?_
      clear hF hD
      go_simp
      rw [wrapi _ (by omega)]
      exact hK _ _ (Below.refl _ _) (rt_eqS s20)
    refine obsR_cons ?_ ?_
    · intro T wx K hB hF hD hK
      have g6 : T[6]? = some (.int .i64 0) := hF 6 (freeM_of (by kernel_rfl))
      refine ob_yes (wanted_none rfl) ?_
      clear hF hD
      go_simp
      exact hK _ _ (Below.refl _ _) (rt_eqS s21)
    refine obsR_cons ?_ ?_
    · intro T wx K hB hF hD hK
      have g2 : T[2]? = some (.pointer (some ⟨a, 0, none⟩)) := hF 2 (freeM_of (by kernel_rfl))
      refine ob_yes (wanted_none rfl) ?_
      clear hF hD
      go_simp
      exact hK _ _ (Below.refl _ _) (rt_eqS s22)
    refine obsR_cons ?_ ?_
    · intro T wx K hB hF hD hK
      have g22 := get_eqS (hD 10 22 (by simp [Region.binds]) (by kernel_rfl)) s22
      have g21 := get_eqS (hD 9 21 (by simp [Region.binds]) (by kernel_rfl)) s21
      refine ob_yes (wanted_none rfl) ?_
      clear hF hD
      go_simp
      exact hK _ _ (Below.refl _ _) (rt_eqS s23)
    refine obsR_cons ?_ ?_
    · intro T wx K hB hF hD hK
      have g23 := get_eqS (hD 11 23 (by simp [Region.binds]) (by kernel_rfl)) s23
      refine ob_yes (wanted_none rfl) ?_
      clear hF hD
      have c0 := blk_cell (blk_call HA.out hB) 9 _ rfl
      go_simp
      exact hK _ _ (Below.refl _ _) (rt_eqS s24)
    refine obsR_cons ?_ ?_
    · intro T wx K hB hF hD hK
      have g6 : T[6]? = some (.int .i64 0) := hF 6 (freeM_of (by kernel_rfl))
      refine ob_yes (wanted_none rfl) ?_
      clear hF hD
      go_simp
      exact hK _ _ (Below.refl _ _) (rt_eqS s25)
    refine obsR_cons ?_ ?_
    · intro T wx K hB hF hD hK
      have g2 : T[2]? = some (.pointer (some ⟨a, 0, none⟩)) := hF 2 (freeM_of (by kernel_rfl))
      refine ob_yes (wanted_none rfl) ?_
      clear hF hD
      go_simp
      exact hK _ _ (Below.refl _ _) (rt_eqS s26)
    refine obsR_cons ?_ ?_
    · intro T wx K hB hF hD hK
      have g26 := get_eqS (hD 14 26 (by simp [Region.binds]) (by kernel_rfl)) s26
      have g25 := get_eqS (hD 13 25 (by simp [Region.binds]) (by kernel_rfl)) s25
      refine ob_yes (wanted_none rfl) ?_
      clear hF hD
      go_simp
      exact hK _ _ (Below.refl _ _) (rt_eqS s27)
    refine obsR_cons ?_ ?_
    · intro T wx K hB hF hD hK
      have g27 := get_eqS (hD 15 27 (by simp [Region.binds]) (by kernel_rfl)) s27
      refine ob_yes (wanted_none rfl) ?_
      clear hF hD
      have c0 := blk_cell (blk_call HA.out hB) 6 _ rfl
      go_simp
      exact hK _ _ (Below.refl _ _) (rt_eqS s28)
    refine obsR_cons ?_ ?_
    · intro T wx K hB hF hD hK
      have g24 := get_eqS (hD 12 24 (by simp [Region.binds]) (by kernel_rfl)) s24
      have g28 := get_eqS (hD 16 28 (by simp [Region.binds]) (by kernel_rfl)) s28
      refine ob_yes (wanted_none rfl) ?_
      clear hF hD
      go_simp
      rw [wrapi _ (by omega)]
      exact hK _ _ (Below.refl _ _) (rt_eqS s29)
    refine obsR_cons ?_ ?_
    · intro T wx K hB hF hD hK
      have g29 := get_eqS (hD 17 29 (by simp [Region.binds]) (by kernel_rfl)) s29
      refine ob_yes (wanted_none rfl) ?_
      clear hF hD
      go_simp
      rw [wrapi _ (by omega)]
      exact hK _ _ (Below.refl _ _) (rt_eqS s30)
    refine obsR_cons ?_ ?_
    · intro T wx K hB hF hD hK
      have g20 := get_eqS (hD 8 20 (by simp [Region.binds]) (by kernel_rfl)) s20
      have g30 := get_eqS (hD 18 30 (by simp [Region.binds]) (by kernel_rfl)) s30
      refine ob_yes (wanted_none rfl) ?_
      clear hF hD
      go_simp
      exact hK _ _ (Below.refl _ _) (rt_eqS s31)
    refine obsR_cons ?_ ?_
    · intro T wx K hB hF hD hK
      have g16 := get_eqS (hD 4 16 (by simp [Region.binds]) (by kernel_rfl)) s16
      have g31 := get_eqS (hD 19 31 (by simp [Region.binds]) (by kernel_rfl)) s31
      refine ob_yes (wanted_none rfl) ?_
      clear hF hD
      go_simp
      rw [wrapi _ (by omega)]
      exact hK _ _ (Below.refl _ _) (rt_eqS s32)
    refine obsR_cons ?_ ?_
    · intro T wx K hB hF hD hK
      have g5 : T[5]? = some (.pointer (some ⟨j, 0, none⟩)) := hF 5 (freeM_of (by kernel_rfl))
      have g12 := get_eqS (hD 0 12 (by simp [Region.binds]) (by kernel_rfl)) s12
      refine ob_yes (wanted_none rfl) ?_
      clear hF hD
      go_simp
      exact hK _ _ (Below.refl _ _) (rt_eqS s33)
    exact obsR_nil
  · intro T w8 hb hF hs hD
    have g12 := get_eqS (hD 0 12 (by decide) (by kernel_rfl)) s12
    have g13 := get_eqS (hD 1 13 (by decide) (by kernel_rfl)) s13
    have g14 := get_eqS (hD 2 14 (by decide) (by kernel_rfl)) s14
    have g15 := get_eqS (hD 3 15 (by decide) (by kernel_rfl)) s15
    have g16 := get_eqS (hD 4 16 (by decide) (by kernel_rfl)) s16
    have g17 := get_eqS (hD 5 17 (by decide) (by kernel_rfl)) s17
    have g18 := get_eqS (hD 6 18 (by decide) (by kernel_rfl)) s18
    have g19 := get_eqS (hD 7 19 (by decide) (by kernel_rfl)) s19
    have g20 := get_eqS (hD 8 20 (by decide) (by kernel_rfl)) s20
    have g21 := get_eqS (hD 9 21 (by decide) (by kernel_rfl)) s21
    have g22 := get_eqS (hD 10 22 (by decide) (by kernel_rfl)) s22
    have g23 := get_eqS (hD 11 23 (by decide) (by kernel_rfl)) s23
    have g24 := get_eqS (hD 12 24 (by decide) (by kernel_rfl)) s24
    have g25 := get_eqS (hD 13 25 (by decide) (by kernel_rfl)) s25
    have g26 := get_eqS (hD 14 26 (by decide) (by kernel_rfl)) s26
    have g27 := get_eqS (hD 15 27 (by decide) (by kernel_rfl)) s27
    have g28 := get_eqS (hD 16 28 (by decide) (by kernel_rfl)) s28
    have g29 := get_eqS (hD 17 29 (by decide) (by kernel_rfl)) s29
    have g30 := get_eqS (hD 18 30 (by decide) (by kernel_rfl)) s30
    have g31 := get_eqS (hD 19 31 (by decide) (by kernel_rfl)) s31
    have g32 := get_eqS (hD 20 32 (by decide) (by kernel_rfl)) s32
    have g33 := get_eqS (hD 21 33 (by decide) (by kernel_rfl)) s33
    have hT := conc [(12, .int .i64 0), (13, .int .i64 0), (14, .pointer (some ⟨a, 6, none⟩)), (15, .pointer (some ⟨a, 6, none⟩)), (16, .int .i64 l0), (17, .int .i64 0), (18, .pointer (some ⟨r, 0, none⟩)), (19, .int .u8 r0), (20, .int .i64 r0), (21, .int .i64 0), (22, .pointer (some ⟨a, 9, none⟩)), (23, .pointer (some ⟨a, 9, none⟩)), (24, .int .i64 h0), (25, .int .i64 0), (26, .pointer (some ⟨a, 6, none⟩)), (27, .pointer (some ⟨a, 6, none⟩)), (28, .int .i64 l0), (29, .int .i64 (h0 - l0)), (30, .int .i64 (h0 - l0 + 1)), (31, .int .i64 (r0.tmod (h0 - l0 + 1))), (32, .int .i64 (l0 + r0.tmod (h0 - l0 + 1))), (33, .pointer (some ⟨j, 0, none⟩))] hs hF (by simp only [List.forall_mem_cons]; exact ⟨g12, g13, g14, g15, g16, g17, g18, g19, g20, g21, g22, g23, g24, g25, g26, g27, g28, g29, g30, g31, g32, g33, fun p hp => absurd hp List.not_mem_nil⟩) (by kernel_rfl)
    simp only [List.foldl, List.setIfInBounds_toArray, List.set_cons_succ, List.set_cons_zero] at hT
    subst hT
    clear hF hD hs g12 g13 g14 g15 g16 g17 g18 g19 g20 g21 g22 g23 g24 g25 g26 g27 g28 g29 g30 g31 g32 g33 s12 s13 s14 s15 s16 s17 s18 s19 s20 s21 s22 s23 s24 s25 s26 s27 s28 s29 s30 s31 s32 s33
    show wpOpsIn _ _ _ _ _ [22] _ _
    have f0 := blk_cell (blk_call HJ.out hb) 0 _ rfl
    have f1 := blk_fz (blk_call HJ.out hb) 0
    have J1 : Hid ((w8.setCell ⟨j, 0, none⟩ (.int .i64 (jq l0 h0 r0))).heap[j]? = some (.cells #[.int .i64 (jq l0 h0 r0), .int .i64 0, .int .i64 0] 25 (0, 0))) := Lib.hid (blk_set (blk_call HJ.out hb) _)
    have S1 := Lib.hid (blk_other (j := 0) (blk_call HS.out hb) NE.out.2.2.2 (.int .i64 (jq l0 h0 r0)))
    have R1 := Lib.hid (blk_other (j := 0) (blk_call HR.out hb) NE.out.2.2.1 (.int .i64 (jq l0 h0 r0)))
    have A1 := Lib.hid (blk_other (j := 0) (blk_call HA.out hb) NE.out.2.1 (.int .i64 (jq l0 h0 r0)))
    have B1 := Lib.hid (belS (p := ⟨j, 0, none⟩) (belT B.out hb) NE.out.1.1 (.int .i64 (jq l0 h0 r0)))
    clear hb HJ HS HR HA B
    simp only [wpOpsIn]
    go_simp
    clear f0 f1
    change Hid ((w8.setCell ⟨j, 0, none⟩ (.int .i64 (l0 + r0.tmod (h0 - l0 + 1)))).heap[j]? = _) at J1
    change Hid ((w8.setCell ⟨j, 0, none⟩ (.int .i64 (l0 + r0.tmod (h0 - l0 + 1)))).heap[s]? = _) at S1
    change Hid ((w8.setCell ⟨j, 0, none⟩ (.int .i64 (l0 + r0.tmod (h0 - l0 + 1)))).heap[r]? = _) at R1
    change Hid ((w8.setCell ⟨j, 0, none⟩ (.int .i64 (l0 + r0.tmod (h0 - l0 + 1)))).heap[a]? = _) at A1
    change Hid (Below w.heap.size w (w8.setCell ⟨j, 0, none⟩ (.int .i64 (l0 + r0.tmod (h0 - l0 + 1))))) at B1
    generalize (w8.setCell ⟨j, 0, none⟩ (.int .i64 (l0 + r0.tmod (h0 - l0 + 1)))) = W1 at *
    have HJ := J1
    have HS := S1
    have HR := R1
    have HA := A1
    have B := B1
    clear J1 S1 R1 A1 B1
    go_wp2_with fail
    rw [rounds_succ]
    go_wp2_with fail
    obtain ⟨sp, hsp⟩ : ∃ sp : ToldS, sp = [none, none, none, none, none, none, none, none, none, none, none, none, some (eqS (.int .i64 1)), some (eqS (.int .i64 1)), some (eqS (.pointer (some ⟨a, 6, none⟩))), some (eqS (.pointer (some ⟨a, 7, none⟩))), some (eqS (.int .i64 l1)), some (eqS (.int .i64 1)), some (eqS (.pointer (some ⟨r, 1, none⟩))), some (eqS (.int .u8 r1)), some (eqS (.int .i64 r1)), some (eqS (.int .i64 1)), some (eqS (.pointer (some ⟨a, 9, none⟩))), some (eqS (.pointer (some ⟨a, 10, none⟩))), some (eqS (.int .i64 h1)), some (eqS (.int .i64 1)), some (eqS (.pointer (some ⟨a, 6, none⟩))), some (eqS (.pointer (some ⟨a, 7, none⟩))), some (eqS (.int .i64 l1)), some (eqS (.int .i64 (h1 - l1))), some (eqS (.int .i64 (h1 - l1 + 1))), some (eqS (.int .i64 (r1.tmod (h1 - l1 + 1)))), some (eqS (.int .i64 (l1 + r1.tmod (h1 - l1 + 1)))), some (eqS (.pointer (some ⟨j, 1, none⟩)))] := ⟨_, rfl⟩
    have s12 : sp.getD 12 none = some (eqS (.int .i64 1)) := by rw [hsp]; rfl
    have s13 : sp.getD 13 none = some (eqS (.int .i64 1)) := by rw [hsp]; rfl
    have s14 : sp.getD 14 none = some (eqS (.pointer (some ⟨a, 6, none⟩))) := by rw [hsp]; rfl
    have s15 : sp.getD 15 none = some (eqS (.pointer (some ⟨a, 7, none⟩))) := by rw [hsp]; rfl
    have s16 : sp.getD 16 none = some (eqS (.int .i64 l1)) := by rw [hsp]; rfl
    have s17 : sp.getD 17 none = some (eqS (.int .i64 1)) := by rw [hsp]; rfl
    have s18 : sp.getD 18 none = some (eqS (.pointer (some ⟨r, 1, none⟩))) := by rw [hsp]; rfl
    have s19 : sp.getD 19 none = some (eqS (.int .u8 r1)) := by rw [hsp]; rfl
    have s20 : sp.getD 20 none = some (eqS (.int .i64 r1)) := by rw [hsp]; rfl
    have s21 : sp.getD 21 none = some (eqS (.int .i64 1)) := by rw [hsp]; rfl
    have s22 : sp.getD 22 none = some (eqS (.pointer (some ⟨a, 9, none⟩))) := by rw [hsp]; rfl
    have s23 : sp.getD 23 none = some (eqS (.pointer (some ⟨a, 10, none⟩))) := by rw [hsp]; rfl
    have s24 : sp.getD 24 none = some (eqS (.int .i64 h1)) := by rw [hsp]; rfl
    have s25 : sp.getD 25 none = some (eqS (.int .i64 1)) := by rw [hsp]; rfl
    have s26 : sp.getD 26 none = some (eqS (.pointer (some ⟨a, 6, none⟩))) := by rw [hsp]; rfl
    have s27 : sp.getD 27 none = some (eqS (.pointer (some ⟨a, 7, none⟩))) := by rw [hsp]; rfl
    have s28 : sp.getD 28 none = some (eqS (.int .i64 l1)) := by rw [hsp]; rfl
    have s29 : sp.getD 29 none = some (eqS (.int .i64 (h1 - l1))) := by rw [hsp]; rfl
    have s30 : sp.getD 30 none = some (eqS (.int .i64 (h1 - l1 + 1))) := by rw [hsp]; rfl
    have s31 : sp.getD 31 none = some (eqS (.int .i64 (r1.tmod (h1 - l1 + 1)))) := by rw [hsp]; rfl
    have s32 : sp.getD 32 none = some (eqS (.int .i64 (l1 + r1.tmod (h1 - l1 + 1)))) := by rw [hsp]; rfl
    have s33 : sp.getD 33 none = some (eqS (.pointer (some ⟨j, 1, none⟩))) := by rw [hsp]; rfl
    clear hsp
    refine (wpIn_wide (n := 0)).1 (region_headR (RtS sp) (rtS_keep sp) 22 rfl rfl rfl (by kernel_rfl) (by decide) (by kernel_rfl) (by kernel_rfl) (by kernel_rfl) ?_ ?_)
    · intro Q'; show ObsR _ _ _ _ _ _ _ _ (List.take _ _); simp only [List.take_succ_cons, List.take_zero]
      refine obsR_cons ?_ ?_
      · intro T wx K hB hF hD hK
        have g6 : T[6]? = some (.int .i64 1) := hF 6 (freeM_of (by kernel_rfl))
        refine ob_yes (wanted_none rfl) ?_
        clear hF hD
        go_simp
        exact hK _ _ (Below.refl _ _) (rt_eqS s12)
      refine obsR_cons ?_ ?_
      · intro T wx K hB hF hD hK
        have g6 : T[6]? = some (.int .i64 1) := hF 6 (freeM_of (by kernel_rfl))
        refine ob_yes (wanted_none rfl) ?_
        clear hF hD
        go_simp
        exact hK _ _ (Below.refl _ _) (rt_eqS s13)
      refine obsR_cons ?_ ?_
      · intro T wx K hB hF hD hK
        have g2 : T[2]? = some (.pointer (some ⟨a, 0, none⟩)) := hF 2 (freeM_of (by kernel_rfl))
        refine ob_yes (wanted_none rfl) ?_
        clear hF hD
        go_simp
        exact hK _ _ (Below.refl _ _) (rt_eqS s14)
      refine obsR_cons ?_ ?_
      · intro T wx K hB hF hD hK
        have g14 := get_eqS (hD 2 14 (by simp [Region.binds]) (by kernel_rfl)) s14
        have g13 := get_eqS (hD 1 13 (by simp [Region.binds]) (by kernel_rfl)) s13
        refine ob_yes (wanted_none rfl) ?_
        clear hF hD
        go_simp
        exact hK _ _ (Below.refl _ _) (rt_eqS s15)
      refine obsR_cons ?_ ?_
      · intro T wx K hB hF hD hK
        have g15 := get_eqS (hD 3 15 (by simp [Region.binds]) (by kernel_rfl)) s15
        refine ob_yes (wanted_none rfl) ?_
        clear hF hD
        have c0 := blk_cell (blk_call HA.out hB) 7 _ rfl
        go_simp
        exact hK _ _ (Below.refl _ _) (rt_eqS s16)
      refine obsR_cons ?_ ?_
      · intro T wx K hB hF hD hK
        have g6 : T[6]? = some (.int .i64 1) := hF 6 (freeM_of (by kernel_rfl))
        refine ob_yes (wanted_none rfl) ?_
        clear hF hD
        go_simp
        exact hK _ _ (Below.refl _ _) (rt_eqS s17)
      refine obsR_cons ?_ ?_
      · intro T wx K hB hF hD hK
        have g3 : T[3]? = some (.pointer (some ⟨r, 0, none⟩)) := hF 3 (freeM_of (by kernel_rfl))
        have g17 := get_eqS (hD 5 17 (by simp [Region.binds]) (by kernel_rfl)) s17
        refine ob_yes (wanted_none rfl) ?_
        clear hF hD
        go_simp
        exact hK _ _ (Below.refl _ _) (rt_eqS s18)
      refine obsR_cons ?_ ?_
      · intro T wx K hB hF hD hK
        have g18 := get_eqS (hD 6 18 (by simp [Region.binds]) (by kernel_rfl)) s18
        refine ob_yes (wanted_none rfl) ?_
        clear hF hD
        have c0 := blk_cell (blk_call HR.out hB) 1 _ rfl
        go_simp
        exact hK _ _ (Below.refl _ _) (rt_eqS s19)
      refine obsR_cons ?_ ?_
      · intro T wx K hB hF hD hK
        have g19 := get_eqS (hD 7 19 (by simp [Region.binds]) (by kernel_rfl)) s19
        refine ob_yes (wanted_none rfl) ?_
        clear hF hD
        go_simp
        rw [wrapi _ (by omega)]
        exact hK _ _ (Below.refl _ _) (rt_eqS s20)
      refine obsR_cons ?_ ?_
      · intro T wx K hB hF hD hK
        have g6 : T[6]? = some (.int .i64 1) := hF 6 (freeM_of (by kernel_rfl))
        refine ob_yes (wanted_none rfl) ?_
        clear hF hD
        go_simp
        exact hK _ _ (Below.refl _ _) (rt_eqS s21)
      refine obsR_cons ?_ ?_
      · intro T wx K hB hF hD hK
        have g2 : T[2]? = some (.pointer (some ⟨a, 0, none⟩)) := hF 2 (freeM_of (by kernel_rfl))
        refine ob_yes (wanted_none rfl) ?_
        clear hF hD
        go_simp
        exact hK _ _ (Below.refl _ _) (rt_eqS s22)
      refine obsR_cons ?_ ?_
      · intro T wx K hB hF hD hK
        have g22 := get_eqS (hD 10 22 (by simp [Region.binds]) (by kernel_rfl)) s22
        have g21 := get_eqS (hD 9 21 (by simp [Region.binds]) (by kernel_rfl)) s21
        refine ob_yes (wanted_none rfl) ?_
        clear hF hD
        go_simp
        exact hK _ _ (Below.refl _ _) (rt_eqS s23)
      refine obsR_cons ?_ ?_
      · intro T wx K hB hF hD hK
        have g23 := get_eqS (hD 11 23 (by simp [Region.binds]) (by kernel_rfl)) s23
        refine ob_yes (wanted_none rfl) ?_
        clear hF hD
        have c0 := blk_cell (blk_call HA.out hB) 10 _ rfl
        go_simp
        exact hK _ _ (Below.refl _ _) (rt_eqS s24)
      refine obsR_cons ?_ ?_
      · intro T wx K hB hF hD hK
        have g6 : T[6]? = some (.int .i64 1) := hF 6 (freeM_of (by kernel_rfl))
        refine ob_yes (wanted_none rfl) ?_
        clear hF hD
        go_simp
        exact hK _ _ (Below.refl _ _) (rt_eqS s25)
      refine obsR_cons ?_ ?_
      · intro T wx K hB hF hD hK
        have g2 : T[2]? = some (.pointer (some ⟨a, 0, none⟩)) := hF 2 (freeM_of (by kernel_rfl))
        refine ob_yes (wanted_none rfl) ?_
        clear hF hD
        go_simp
        exact hK _ _ (Below.refl _ _) (rt_eqS s26)
      refine obsR_cons ?_ ?_
      · intro T wx K hB hF hD hK
        have g26 := get_eqS (hD 14 26 (by simp [Region.binds]) (by kernel_rfl)) s26
        have g25 := get_eqS (hD 13 25 (by simp [Region.binds]) (by kernel_rfl)) s25
        refine ob_yes (wanted_none rfl) ?_
        clear hF hD
        go_simp
        exact hK _ _ (Below.refl _ _) (rt_eqS s27)
      refine obsR_cons ?_ ?_
      · intro T wx K hB hF hD hK
        have g27 := get_eqS (hD 15 27 (by simp [Region.binds]) (by kernel_rfl)) s27
        refine ob_yes (wanted_none rfl) ?_
        clear hF hD
        have c0 := blk_cell (blk_call HA.out hB) 7 _ rfl
        go_simp
        exact hK _ _ (Below.refl _ _) (rt_eqS s28)
      refine obsR_cons ?_ ?_
      · intro T wx K hB hF hD hK
        have g24 := get_eqS (hD 12 24 (by simp [Region.binds]) (by kernel_rfl)) s24
        have g28 := get_eqS (hD 16 28 (by simp [Region.binds]) (by kernel_rfl)) s28
        refine ob_yes (wanted_none rfl) ?_
        clear hF hD
        go_simp
        rw [wrapi _ (by omega)]
        exact hK _ _ (Below.refl _ _) (rt_eqS s29)
      refine obsR_cons ?_ ?_
      · intro T wx K hB hF hD hK
        have g29 := get_eqS (hD 17 29 (by simp [Region.binds]) (by kernel_rfl)) s29
        refine ob_yes (wanted_none rfl) ?_
        clear hF hD
        go_simp
        rw [wrapi _ (by omega)]
        exact hK _ _ (Below.refl _ _) (rt_eqS s30)
      refine obsR_cons ?_ ?_
      · intro T wx K hB hF hD hK
        have g20 := get_eqS (hD 8 20 (by simp [Region.binds]) (by kernel_rfl)) s20
        have g30 := get_eqS (hD 18 30 (by simp [Region.binds]) (by kernel_rfl)) s30
        refine ob_yes (wanted_none rfl) ?_
        clear hF hD
        go_simp
        exact hK _ _ (Below.refl _ _) (rt_eqS s31)
      refine obsR_cons ?_ ?_
      · intro T wx K hB hF hD hK
        have g16 := get_eqS (hD 4 16 (by simp [Region.binds]) (by kernel_rfl)) s16
        have g31 := get_eqS (hD 19 31 (by simp [Region.binds]) (by kernel_rfl)) s31
        refine ob_yes (wanted_none rfl) ?_
        clear hF hD
        go_simp
        rw [wrapi _ (by omega)]
        exact hK _ _ (Below.refl _ _) (rt_eqS s32)
      refine obsR_cons ?_ ?_
      · intro T wx K hB hF hD hK
        have g5 : T[5]? = some (.pointer (some ⟨j, 0, none⟩)) := hF 5 (freeM_of (by kernel_rfl))
        have g12 := get_eqS (hD 0 12 (by simp [Region.binds]) (by kernel_rfl)) s12
        refine ob_yes (wanted_none rfl) ?_
        clear hF hD
        go_simp
        exact hK _ _ (Below.refl _ _) (rt_eqS s33)
      exact obsR_nil
    · intro T w8 hb hF hs hD
      have g12 := get_eqS (hD 0 12 (by decide) (by kernel_rfl)) s12
      have g13 := get_eqS (hD 1 13 (by decide) (by kernel_rfl)) s13
      have g14 := get_eqS (hD 2 14 (by decide) (by kernel_rfl)) s14
      have g15 := get_eqS (hD 3 15 (by decide) (by kernel_rfl)) s15
      have g16 := get_eqS (hD 4 16 (by decide) (by kernel_rfl)) s16
      have g17 := get_eqS (hD 5 17 (by decide) (by kernel_rfl)) s17
      have g18 := get_eqS (hD 6 18 (by decide) (by kernel_rfl)) s18
      have g19 := get_eqS (hD 7 19 (by decide) (by kernel_rfl)) s19
      have g20 := get_eqS (hD 8 20 (by decide) (by kernel_rfl)) s20
      have g21 := get_eqS (hD 9 21 (by decide) (by kernel_rfl)) s21
      have g22 := get_eqS (hD 10 22 (by decide) (by kernel_rfl)) s22
      have g23 := get_eqS (hD 11 23 (by decide) (by kernel_rfl)) s23
      have g24 := get_eqS (hD 12 24 (by decide) (by kernel_rfl)) s24
      have g25 := get_eqS (hD 13 25 (by decide) (by kernel_rfl)) s25
      have g26 := get_eqS (hD 14 26 (by decide) (by kernel_rfl)) s26
      have g27 := get_eqS (hD 15 27 (by decide) (by kernel_rfl)) s27
      have g28 := get_eqS (hD 16 28 (by decide) (by kernel_rfl)) s28
      have g29 := get_eqS (hD 17 29 (by decide) (by kernel_rfl)) s29
      have g30 := get_eqS (hD 18 30 (by decide) (by kernel_rfl)) s30
      have g31 := get_eqS (hD 19 31 (by decide) (by kernel_rfl)) s31
      have g32 := get_eqS (hD 20 32 (by decide) (by kernel_rfl)) s32
      have g33 := get_eqS (hD 21 33 (by decide) (by kernel_rfl)) s33
      have hT := conc [(12, .int .i64 1), (13, .int .i64 1), (14, .pointer (some ⟨a, 6, none⟩)), (15, .pointer (some ⟨a, 7, none⟩)), (16, .int .i64 l1), (17, .int .i64 1), (18, .pointer (some ⟨r, 1, none⟩)), (19, .int .u8 r1), (20, .int .i64 r1), (21, .int .i64 1), (22, .pointer (some ⟨a, 9, none⟩)), (23, .pointer (some ⟨a, 10, none⟩)), (24, .int .i64 h1), (25, .int .i64 1), (26, .pointer (some ⟨a, 6, none⟩)), (27, .pointer (some ⟨a, 7, none⟩)), (28, .int .i64 l1), (29, .int .i64 (h1 - l1)), (30, .int .i64 (h1 - l1 + 1)), (31, .int .i64 (r1.tmod (h1 - l1 + 1))), (32, .int .i64 (l1 + r1.tmod (h1 - l1 + 1))), (33, .pointer (some ⟨j, 1, none⟩))] hs hF (by simp only [List.forall_mem_cons]; exact ⟨g12, g13, g14, g15, g16, g17, g18, g19, g20, g21, g22, g23, g24, g25, g26, g27, g28, g29, g30, g31, g32, g33, fun p hp => absurd hp List.not_mem_nil⟩) (by kernel_rfl)
      simp only [List.foldl, List.setIfInBounds_toArray, List.set_cons_succ, List.set_cons_zero] at hT
      subst hT
      clear hF hD hs g12 g13 g14 g15 g16 g17 g18 g19 g20 g21 g22 g23 g24 g25 g26 g27 g28 g29 g30 g31 g32 g33 s12 s13 s14 s15 s16 s17 s18 s19 s20 s21 s22 s23 s24 s25 s26 s27 s28 s29 s30 s31 s32 s33
      show wpOpsIn _ _ _ _ _ [22] _ _
      have f0 := blk_cell (blk_call HJ.out hb) 1 _ rfl
      have f1 := blk_fz (blk_call HJ.out hb) 1
      have J1 : Hid ((w8.setCell ⟨j, 1, none⟩ (.int .i64 (jq l1 h1 r1))).heap[j]? = some (.cells #[.int .i64 (jq l0 h0 r0), .int .i64 (jq l1 h1 r1), .int .i64 0] 25 (0, 0))) := Lib.hid (blk_set (blk_call HJ.out hb) _)
      have S1 := Lib.hid (blk_other (j := 1) (blk_call HS.out hb) NE.out.2.2.2 (.int .i64 (jq l1 h1 r1)))
      have R1 := Lib.hid (blk_other (j := 1) (blk_call HR.out hb) NE.out.2.2.1 (.int .i64 (jq l1 h1 r1)))
      have A1 := Lib.hid (blk_other (j := 1) (blk_call HA.out hb) NE.out.2.1 (.int .i64 (jq l1 h1 r1)))
      have B1 := Lib.hid (belS (p := ⟨j, 1, none⟩) (belT B.out hb) NE.out.1.1 (.int .i64 (jq l1 h1 r1)))
      clear hb HJ HS HR HA B
      simp only [wpOpsIn]
      go_simp
      clear f0 f1
      change Hid ((w8.setCell ⟨j, 1, none⟩ (.int .i64 (l1 + r1.tmod (h1 - l1 + 1)))).heap[j]? = _) at J1
      change Hid ((w8.setCell ⟨j, 1, none⟩ (.int .i64 (l1 + r1.tmod (h1 - l1 + 1)))).heap[s]? = _) at S1
      change Hid ((w8.setCell ⟨j, 1, none⟩ (.int .i64 (l1 + r1.tmod (h1 - l1 + 1)))).heap[r]? = _) at R1
      change Hid ((w8.setCell ⟨j, 1, none⟩ (.int .i64 (l1 + r1.tmod (h1 - l1 + 1)))).heap[a]? = _) at A1
      change Hid (Below w.heap.size w (w8.setCell ⟨j, 1, none⟩ (.int .i64 (l1 + r1.tmod (h1 - l1 + 1))))) at B1
      generalize (w8.setCell ⟨j, 1, none⟩ (.int .i64 (l1 + r1.tmod (h1 - l1 + 1)))) = W2 at *
      have HJ := J1
      have HS := S1
      have HR := R1
      have HA := A1
      have B := B1
      clear J1 S1 R1 A1 B1
      go_wp2_with fail
      rw [rounds_succ]
      go_wp2_with fail
      obtain ⟨sp, hsp⟩ : ∃ sp : ToldS, sp = [none, none, none, none, none, none, none, none, none, none, none, none, some (eqS (.int .i64 2)), some (eqS (.int .i64 2)), some (eqS (.pointer (some ⟨a, 6, none⟩))), some (eqS (.pointer (some ⟨a, 8, none⟩))), some (eqS (.int .i64 l2)), some (eqS (.int .i64 2)), some (eqS (.pointer (some ⟨r, 2, none⟩))), some (eqS (.int .u8 r2)), some (eqS (.int .i64 r2)), some (eqS (.int .i64 2)), some (eqS (.pointer (some ⟨a, 9, none⟩))), some (eqS (.pointer (some ⟨a, 11, none⟩))), some (eqS (.int .i64 h2)), some (eqS (.int .i64 2)), some (eqS (.pointer (some ⟨a, 6, none⟩))), some (eqS (.pointer (some ⟨a, 8, none⟩))), some (eqS (.int .i64 l2)), some (eqS (.int .i64 (h2 - l2))), some (eqS (.int .i64 (h2 - l2 + 1))), some (eqS (.int .i64 (r2.tmod (h2 - l2 + 1)))), some (eqS (.int .i64 (l2 + r2.tmod (h2 - l2 + 1)))), some (eqS (.pointer (some ⟨j, 2, none⟩)))] := ⟨_, rfl⟩
      have s12 : sp.getD 12 none = some (eqS (.int .i64 2)) := by rw [hsp]; rfl
      have s13 : sp.getD 13 none = some (eqS (.int .i64 2)) := by rw [hsp]; rfl
      have s14 : sp.getD 14 none = some (eqS (.pointer (some ⟨a, 6, none⟩))) := by rw [hsp]; rfl
      have s15 : sp.getD 15 none = some (eqS (.pointer (some ⟨a, 8, none⟩))) := by rw [hsp]; rfl
      have s16 : sp.getD 16 none = some (eqS (.int .i64 l2)) := by rw [hsp]; rfl
      have s17 : sp.getD 17 none = some (eqS (.int .i64 2)) := by rw [hsp]; rfl
      have s18 : sp.getD 18 none = some (eqS (.pointer (some ⟨r, 2, none⟩))) := by rw [hsp]; rfl
      have s19 : sp.getD 19 none = some (eqS (.int .u8 r2)) := by rw [hsp]; rfl
      have s20 : sp.getD 20 none = some (eqS (.int .i64 r2)) := by rw [hsp]; rfl
      have s21 : sp.getD 21 none = some (eqS (.int .i64 2)) := by rw [hsp]; rfl
      have s22 : sp.getD 22 none = some (eqS (.pointer (some ⟨a, 9, none⟩))) := by rw [hsp]; rfl
      have s23 : sp.getD 23 none = some (eqS (.pointer (some ⟨a, 11, none⟩))) := by rw [hsp]; rfl
      have s24 : sp.getD 24 none = some (eqS (.int .i64 h2)) := by rw [hsp]; rfl
      have s25 : sp.getD 25 none = some (eqS (.int .i64 2)) := by rw [hsp]; rfl
      have s26 : sp.getD 26 none = some (eqS (.pointer (some ⟨a, 6, none⟩))) := by rw [hsp]; rfl
      have s27 : sp.getD 27 none = some (eqS (.pointer (some ⟨a, 8, none⟩))) := by rw [hsp]; rfl
      have s28 : sp.getD 28 none = some (eqS (.int .i64 l2)) := by rw [hsp]; rfl
      have s29 : sp.getD 29 none = some (eqS (.int .i64 (h2 - l2))) := by rw [hsp]; rfl
      have s30 : sp.getD 30 none = some (eqS (.int .i64 (h2 - l2 + 1))) := by rw [hsp]; rfl
      have s31 : sp.getD 31 none = some (eqS (.int .i64 (r2.tmod (h2 - l2 + 1)))) := by rw [hsp]; rfl
      have s32 : sp.getD 32 none = some (eqS (.int .i64 (l2 + r2.tmod (h2 - l2 + 1)))) := by rw [hsp]; rfl
      have s33 : sp.getD 33 none = some (eqS (.pointer (some ⟨j, 2, none⟩))) := by rw [hsp]; rfl
      clear hsp
      refine (wpIn_wide (n := 0)).1 (region_headR (RtS sp) (rtS_keep sp) 22 rfl rfl rfl (by kernel_rfl) (by decide) (by kernel_rfl) (by kernel_rfl) (by kernel_rfl) ?_ ?_)
      · intro Q'; show ObsR _ _ _ _ _ _ _ _ (List.take _ _); simp only [List.take_succ_cons, List.take_zero]
        refine obsR_cons ?_ ?_
        · intro T wx K hB hF hD hK
          have g6 : T[6]? = some (.int .i64 2) := hF 6 (freeM_of (by kernel_rfl))
          refine ob_yes (wanted_none rfl) ?_
          clear hF hD
          go_simp
          exact hK _ _ (Below.refl _ _) (rt_eqS s12)
        refine obsR_cons ?_ ?_
        · intro T wx K hB hF hD hK
          have g6 : T[6]? = some (.int .i64 2) := hF 6 (freeM_of (by kernel_rfl))
          refine ob_yes (wanted_none rfl) ?_
          clear hF hD
          go_simp
          exact hK _ _ (Below.refl _ _) (rt_eqS s13)
        refine obsR_cons ?_ ?_
        · intro T wx K hB hF hD hK
          have g2 : T[2]? = some (.pointer (some ⟨a, 0, none⟩)) := hF 2 (freeM_of (by kernel_rfl))
          refine ob_yes (wanted_none rfl) ?_
          clear hF hD
          go_simp
          exact hK _ _ (Below.refl _ _) (rt_eqS s14)
        refine obsR_cons ?_ ?_
        · intro T wx K hB hF hD hK
          have g14 := get_eqS (hD 2 14 (by simp [Region.binds]) (by kernel_rfl)) s14
          have g13 := get_eqS (hD 1 13 (by simp [Region.binds]) (by kernel_rfl)) s13
          refine ob_yes (wanted_none rfl) ?_
          clear hF hD
          go_simp
          exact hK _ _ (Below.refl _ _) (rt_eqS s15)
        refine obsR_cons ?_ ?_
        · intro T wx K hB hF hD hK
          have g15 := get_eqS (hD 3 15 (by simp [Region.binds]) (by kernel_rfl)) s15
          refine ob_yes (wanted_none rfl) ?_
          clear hF hD
          have c0 := blk_cell (blk_call HA.out hB) 8 _ rfl
          go_simp
          exact hK _ _ (Below.refl _ _) (rt_eqS s16)
        refine obsR_cons ?_ ?_
        · intro T wx K hB hF hD hK
          have g6 : T[6]? = some (.int .i64 2) := hF 6 (freeM_of (by kernel_rfl))
          refine ob_yes (wanted_none rfl) ?_
          clear hF hD
          go_simp
          exact hK _ _ (Below.refl _ _) (rt_eqS s17)
        refine obsR_cons ?_ ?_
        · intro T wx K hB hF hD hK
          have g3 : T[3]? = some (.pointer (some ⟨r, 0, none⟩)) := hF 3 (freeM_of (by kernel_rfl))
          have g17 := get_eqS (hD 5 17 (by simp [Region.binds]) (by kernel_rfl)) s17
          refine ob_yes (wanted_none rfl) ?_
          clear hF hD
          go_simp
          exact hK _ _ (Below.refl _ _) (rt_eqS s18)
        refine obsR_cons ?_ ?_
        · intro T wx K hB hF hD hK
          have g18 := get_eqS (hD 6 18 (by simp [Region.binds]) (by kernel_rfl)) s18
          refine ob_yes (wanted_none rfl) ?_
          clear hF hD
          have c0 := blk_cell (blk_call HR.out hB) 2 _ rfl
          go_simp
          exact hK _ _ (Below.refl _ _) (rt_eqS s19)
        refine obsR_cons ?_ ?_
        · intro T wx K hB hF hD hK
          have g19 := get_eqS (hD 7 19 (by simp [Region.binds]) (by kernel_rfl)) s19
          refine ob_yes (wanted_none rfl) ?_
          clear hF hD
          go_simp
          rw [wrapi _ (by omega)]
          exact hK _ _ (Below.refl _ _) (rt_eqS s20)
        refine obsR_cons ?_ ?_
        · intro T wx K hB hF hD hK
          have g6 : T[6]? = some (.int .i64 2) := hF 6 (freeM_of (by kernel_rfl))
          refine ob_yes (wanted_none rfl) ?_
          clear hF hD
          go_simp
          exact hK _ _ (Below.refl _ _) (rt_eqS s21)
        refine obsR_cons ?_ ?_
        · intro T wx K hB hF hD hK
          have g2 : T[2]? = some (.pointer (some ⟨a, 0, none⟩)) := hF 2 (freeM_of (by kernel_rfl))
          refine ob_yes (wanted_none rfl) ?_
          clear hF hD
          go_simp
          exact hK _ _ (Below.refl _ _) (rt_eqS s22)
        refine obsR_cons ?_ ?_
        · intro T wx K hB hF hD hK
          have g22 := get_eqS (hD 10 22 (by simp [Region.binds]) (by kernel_rfl)) s22
          have g21 := get_eqS (hD 9 21 (by simp [Region.binds]) (by kernel_rfl)) s21
          refine ob_yes (wanted_none rfl) ?_
          clear hF hD
          go_simp
          exact hK _ _ (Below.refl _ _) (rt_eqS s23)
        refine obsR_cons ?_ ?_
        · intro T wx K hB hF hD hK
          have g23 := get_eqS (hD 11 23 (by simp [Region.binds]) (by kernel_rfl)) s23
          refine ob_yes (wanted_none rfl) ?_
          clear hF hD
          have c0 := blk_cell (blk_call HA.out hB) 11 _ rfl
          go_simp
          exact hK _ _ (Below.refl _ _) (rt_eqS s24)
        refine obsR_cons ?_ ?_
        · intro T wx K hB hF hD hK
          have g6 : T[6]? = some (.int .i64 2) := hF 6 (freeM_of (by kernel_rfl))
          refine ob_yes (wanted_none rfl) ?_
          clear hF hD
          go_simp
          exact hK _ _ (Below.refl _ _) (rt_eqS s25)
        refine obsR_cons ?_ ?_
        · intro T wx K hB hF hD hK
          have g2 : T[2]? = some (.pointer (some ⟨a, 0, none⟩)) := hF 2 (freeM_of (by kernel_rfl))
          refine ob_yes (wanted_none rfl) ?_
          clear hF hD
          go_simp
          exact hK _ _ (Below.refl _ _) (rt_eqS s26)
        refine obsR_cons ?_ ?_
        · intro T wx K hB hF hD hK
          have g26 := get_eqS (hD 14 26 (by simp [Region.binds]) (by kernel_rfl)) s26
          have g25 := get_eqS (hD 13 25 (by simp [Region.binds]) (by kernel_rfl)) s25
          refine ob_yes (wanted_none rfl) ?_
          clear hF hD
          go_simp
          exact hK _ _ (Below.refl _ _) (rt_eqS s27)
        refine obsR_cons ?_ ?_
        · intro T wx K hB hF hD hK
          have g27 := get_eqS (hD 15 27 (by simp [Region.binds]) (by kernel_rfl)) s27
          refine ob_yes (wanted_none rfl) ?_
          clear hF hD
          have c0 := blk_cell (blk_call HA.out hB) 8 _ rfl
          go_simp
          exact hK _ _ (Below.refl _ _) (rt_eqS s28)
        refine obsR_cons ?_ ?_
        · intro T wx K hB hF hD hK
          have g24 := get_eqS (hD 12 24 (by simp [Region.binds]) (by kernel_rfl)) s24
          have g28 := get_eqS (hD 16 28 (by simp [Region.binds]) (by kernel_rfl)) s28
          refine ob_yes (wanted_none rfl) ?_
          clear hF hD
          go_simp
          rw [wrapi _ (by omega)]
          exact hK _ _ (Below.refl _ _) (rt_eqS s29)
        refine obsR_cons ?_ ?_
        · intro T wx K hB hF hD hK
          have g29 := get_eqS (hD 17 29 (by simp [Region.binds]) (by kernel_rfl)) s29
          refine ob_yes (wanted_none rfl) ?_
          clear hF hD
          go_simp
          rw [wrapi _ (by omega)]
          exact hK _ _ (Below.refl _ _) (rt_eqS s30)
        refine obsR_cons ?_ ?_
        · intro T wx K hB hF hD hK
          have g20 := get_eqS (hD 8 20 (by simp [Region.binds]) (by kernel_rfl)) s20
          have g30 := get_eqS (hD 18 30 (by simp [Region.binds]) (by kernel_rfl)) s30
          refine ob_yes (wanted_none rfl) ?_
          clear hF hD
          go_simp
          exact hK _ _ (Below.refl _ _) (rt_eqS s31)
        refine obsR_cons ?_ ?_
        · intro T wx K hB hF hD hK
          have g16 := get_eqS (hD 4 16 (by simp [Region.binds]) (by kernel_rfl)) s16
          have g31 := get_eqS (hD 19 31 (by simp [Region.binds]) (by kernel_rfl)) s31
          refine ob_yes (wanted_none rfl) ?_
          clear hF hD
          go_simp
          rw [wrapi _ (by omega)]
          exact hK _ _ (Below.refl _ _) (rt_eqS s32)
        refine obsR_cons ?_ ?_
        · intro T wx K hB hF hD hK
          have g5 : T[5]? = some (.pointer (some ⟨j, 0, none⟩)) := hF 5 (freeM_of (by kernel_rfl))
          have g12 := get_eqS (hD 0 12 (by simp [Region.binds]) (by kernel_rfl)) s12
          refine ob_yes (wanted_none rfl) ?_
          clear hF hD
          go_simp
          exact hK _ _ (Below.refl _ _) (rt_eqS s33)
        exact obsR_nil
      · intro T w8 hb hF hs hD
        have g12 := get_eqS (hD 0 12 (by decide) (by kernel_rfl)) s12
        have g13 := get_eqS (hD 1 13 (by decide) (by kernel_rfl)) s13
        have g14 := get_eqS (hD 2 14 (by decide) (by kernel_rfl)) s14
        have g15 := get_eqS (hD 3 15 (by decide) (by kernel_rfl)) s15
        have g16 := get_eqS (hD 4 16 (by decide) (by kernel_rfl)) s16
        have g17 := get_eqS (hD 5 17 (by decide) (by kernel_rfl)) s17
        have g18 := get_eqS (hD 6 18 (by decide) (by kernel_rfl)) s18
        have g19 := get_eqS (hD 7 19 (by decide) (by kernel_rfl)) s19
        have g20 := get_eqS (hD 8 20 (by decide) (by kernel_rfl)) s20
        have g21 := get_eqS (hD 9 21 (by decide) (by kernel_rfl)) s21
        have g22 := get_eqS (hD 10 22 (by decide) (by kernel_rfl)) s22
        have g23 := get_eqS (hD 11 23 (by decide) (by kernel_rfl)) s23
        have g24 := get_eqS (hD 12 24 (by decide) (by kernel_rfl)) s24
        have g25 := get_eqS (hD 13 25 (by decide) (by kernel_rfl)) s25
        have g26 := get_eqS (hD 14 26 (by decide) (by kernel_rfl)) s26
        have g27 := get_eqS (hD 15 27 (by decide) (by kernel_rfl)) s27
        have g28 := get_eqS (hD 16 28 (by decide) (by kernel_rfl)) s28
        have g29 := get_eqS (hD 17 29 (by decide) (by kernel_rfl)) s29
        have g30 := get_eqS (hD 18 30 (by decide) (by kernel_rfl)) s30
        have g31 := get_eqS (hD 19 31 (by decide) (by kernel_rfl)) s31
        have g32 := get_eqS (hD 20 32 (by decide) (by kernel_rfl)) s32
        have g33 := get_eqS (hD 21 33 (by decide) (by kernel_rfl)) s33
        have hT := conc [(12, .int .i64 2), (13, .int .i64 2), (14, .pointer (some ⟨a, 6, none⟩)), (15, .pointer (some ⟨a, 8, none⟩)), (16, .int .i64 l2), (17, .int .i64 2), (18, .pointer (some ⟨r, 2, none⟩)), (19, .int .u8 r2), (20, .int .i64 r2), (21, .int .i64 2), (22, .pointer (some ⟨a, 9, none⟩)), (23, .pointer (some ⟨a, 11, none⟩)), (24, .int .i64 h2), (25, .int .i64 2), (26, .pointer (some ⟨a, 6, none⟩)), (27, .pointer (some ⟨a, 8, none⟩)), (28, .int .i64 l2), (29, .int .i64 (h2 - l2)), (30, .int .i64 (h2 - l2 + 1)), (31, .int .i64 (r2.tmod (h2 - l2 + 1))), (32, .int .i64 (l2 + r2.tmod (h2 - l2 + 1))), (33, .pointer (some ⟨j, 2, none⟩))] hs hF (by simp only [List.forall_mem_cons]; exact ⟨g12, g13, g14, g15, g16, g17, g18, g19, g20, g21, g22, g23, g24, g25, g26, g27, g28, g29, g30, g31, g32, g33, fun p hp => absurd hp List.not_mem_nil⟩) (by kernel_rfl)
        simp only [List.foldl, List.setIfInBounds_toArray, List.set_cons_succ, List.set_cons_zero] at hT
        subst hT
        clear hF hD hs g12 g13 g14 g15 g16 g17 g18 g19 g20 g21 g22 g23 g24 g25 g26 g27 g28 g29 g30 g31 g32 g33 s12 s13 s14 s15 s16 s17 s18 s19 s20 s21 s22 s23 s24 s25 s26 s27 s28 s29 s30 s31 s32 s33
        show wpOpsIn _ _ _ _ _ [22] _ _
        have f0 := blk_cell (blk_call HJ.out hb) 2 _ rfl
        have f1 := blk_fz (blk_call HJ.out hb) 2
        have J1 : Hid ((w8.setCell ⟨j, 2, none⟩ (.int .i64 (jq l2 h2 r2))).heap[j]? = some (.cells #[.int .i64 (jq l0 h0 r0), .int .i64 (jq l1 h1 r1), .int .i64 (jq l2 h2 r2)] 25 (0, 0))) := Lib.hid (blk_set (blk_call HJ.out hb) _)
        have S1 := Lib.hid (blk_other (j := 2) (blk_call HS.out hb) NE.out.2.2.2 (.int .i64 (jq l2 h2 r2)))
        have R1 := Lib.hid (blk_other (j := 2) (blk_call HR.out hb) NE.out.2.2.1 (.int .i64 (jq l2 h2 r2)))
        have A1 := Lib.hid (blk_other (j := 2) (blk_call HA.out hb) NE.out.2.1 (.int .i64 (jq l2 h2 r2)))
        have B1 := Lib.hid (belS (p := ⟨j, 2, none⟩) (belT B.out hb) NE.out.1.1 (.int .i64 (jq l2 h2 r2)))
        clear hb HJ HS HR HA B
        simp only [wpOpsIn]
        go_simp
        clear f0 f1
        change Hid ((w8.setCell ⟨j, 2, none⟩ (.int .i64 (l2 + r2.tmod (h2 - l2 + 1)))).heap[j]? = _) at J1
        change Hid ((w8.setCell ⟨j, 2, none⟩ (.int .i64 (l2 + r2.tmod (h2 - l2 + 1)))).heap[s]? = _) at S1
        change Hid ((w8.setCell ⟨j, 2, none⟩ (.int .i64 (l2 + r2.tmod (h2 - l2 + 1)))).heap[r]? = _) at R1
        change Hid ((w8.setCell ⟨j, 2, none⟩ (.int .i64 (l2 + r2.tmod (h2 - l2 + 1)))).heap[a]? = _) at A1
        change Hid (Below w.heap.size w (w8.setCell ⟨j, 2, none⟩ (.int .i64 (l2 + r2.tmod (h2 - l2 + 1))))) at B1
        generalize (w8.setCell ⟨j, 2, none⟩ (.int .i64 (l2 + r2.tmod (h2 - l2 + 1)))) = W3 at *
        have HJ := J1
        have HS := S1
        have HR := R1
        have HA := A1
        have B := B1
        clear J1 S1 R1 A1 B1
        go_wp2_with fail
        rw [rounds_succ]
        have c0 := blk_cell HJ.out 0 _ rfl
        have d0 := blk_cell HS.out 0 _ rfl
        have e0 := blk_fz HS.out 0
        have c1 := blk_cell HJ.out 1 _ rfl
        have d1 := blk_cell HS.out 1 _ rfl
        have e1 := blk_fz HS.out 1
        have c2 := blk_cell HJ.out 2 _ rfl
        have d2 := blk_cell HS.out 2 _ rfl
        have e2 := blk_fz HS.out 2
        go_wp2_with fail
        clear c0 d0 e0
        clear c1 d1 e1
        clear c2 d2 e2
        have HZ : Hid ((((W3.setCell ⟨s, 0, none⟩ (.int .i64 (jq l0 h0 r0))).setCell ⟨s, 1, none⟩ (.int .i64 (jq l1 h1 r1))).setCell ⟨s, 2, none⟩ (.int .i64 (jq l2 h2 r2))).heap[s]? = some (.cells #[.int .i64 (jq l0 h0 r0), .int .i64 (jq l1 h1 r1), .int .i64 (jq l2 h2 r2)] 25 (0, 0))) := Lib.hid (blk_set (blk_set (blk_set HS.out _) _) _)
        replace B : Hid (Below w.heap.size w (((W3.setCell ⟨s, 0, none⟩ (.int .i64 (jq l0 h0 r0))).setCell ⟨s, 1, none⟩ (.int .i64 (jq l1 h1 r1))).setCell ⟨s, 2, none⟩ (.int .i64 (jq l2 h2 r2)))) := Lib.hid (belS (p := ⟨s, 2, none⟩) (belS (p := ⟨s, 1, none⟩) (belS (p := ⟨s, 0, none⟩) B.out NE.out.1.2 _) NE.out.1.2 _) NE.out.1.2 _)
        generalize (((W3.setCell ⟨s, 0, none⟩ (.int .i64 (jq l0 h0 r0))).setCell ⟨s, 1, none⟩ (.int .i64 (jq l1 h1 r1))).setCell ⟨s, 2, none⟩ (.int .i64 (jq l2 h2 r2))) = W4 at *
        have r0' := blk_cell HZ.out 0 _ rfl
        have r1' := blk_cell HZ.out 1 _ rfl
        have r2' := blk_cell HZ.out 2 _ rfl
        refine bodyPost_ret (v := .agg #[.int .i64 (jq l0 h0 r0), .int .i64 (jq l1 h1 r1), .int .i64 (jq l2 h2 r2)]) (by simp [results, Tryd.results17, go_sem, r0', r1', r2']) rfl ?_
        exact ⟨rfl, B.out⟩
end Go.Proofs.YtceejjamngplkaaDoor
