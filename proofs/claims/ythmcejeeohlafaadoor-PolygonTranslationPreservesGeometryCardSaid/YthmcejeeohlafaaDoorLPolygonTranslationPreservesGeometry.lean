/- Proved: moving a valid polygon keeps validity, DoubleArea and location, and moving it back restores it (the law PolygonTranslationPreservesGeometry returns true).
Conditions: none on the arguments: for every polygon, every vector and every point. The table of package rotation lies as the program text lays it (the card ties it). -/
import Derived.Test.YthmcejeeohlafaaDoorPolN
import Derived.Test.YthmcejeeohlafaaDoorPolV
import Derived.Test.YthmcejeeohlafaaDoorPolFr
import Derived.Test.YthmcejeeohlafaaDoorTie
import Derived.Test.YthmcejeeohlafaaDoorCards
import Derived.SevenTiedAt
import Derived.Deep.DeepCutAuto
namespace Go.Proofs.YthmcejeeohlafaaDoor.polygonTranslationPreservesGeometry
open Go.ChangeShapes Go.WideShapes Go.ChangeAt Go.RowKit
set_option linter.unusedVariables false
set_option linter.unusedSimpArgs false

theorem tdiv2_h {x M : Int} (h1 : -(2 * M) ≤ x) (h2 : x ≤ 2 * M) : -M ≤ x.tdiv 2 ∧ x.tdiv 2 ≤ M := by
  rcases Int.le_total 0 x with h | h
  · rw [Int.tdiv_eq_ediv_of_nonneg h]; omega
  · obtain ⟨y, rfl⟩ : ∃ y, x = -y := ⟨-x, by omega⟩
    rw [Int.neg_tdiv, Int.tdiv_eq_ediv_of_nonneg (by omega)]; omega

set_option maxRecDepth 100000 in
set_option maxHeartbeats 16000000 in
theorem walk_main {w : World} (ao : Option Addr) (cap : Nat) (ps : List (Int × Int)) (hle : ps.length ≤ 9223372036854775807) (hP : PRow w ao ps) (b1 b2 x1 x2 : Int) (hT : Rot.Tab w) (HL : Hid (littleB ps = true)) (jb1 : InV b1) (jb2 : InV b2) (jx1 : InV x1) (jx2 : InV x2) :
    Calls Tryd.prog 6 #[.slice ao ps.length cap, .agg #[.int .i64 b1, .int .i64 b2], .agg #[.int .i64 x1, .int .i64 x2]] w fun e w' => e = .returned (.bool true) ∧ Below w.heap.size w w' := by
  have HM1 : Hid (mayB b1 b2 = true) := Lib.hid ((mayB_iff b1 b2).2 ⟨jb1, jb2⟩)
  have HM2 : Hid (mayB x1 x2 = true) := Lib.hid ((mayB_iff x1 x2).2 ⟨jx1, jx2⟩)
  obtain ⟨hva, hS⟩ := (littleB_iff ps).1 HL.out
  obtain ⟨h0, h12, hv⟩ : 0 < ps.length ∧ ps.length ≤ 12 ∧ AllV ps := by
    have hc := hva
    unfold validP at hc
    rw [Bool.and_eq_true] at hc
    obtain ⟨a, b, c⟩ := (validC_iff ps).1 hc.1
    exact ⟨by omega, b, c⟩
  have hvr := hv.allr2
  have ib1 := jb1.inr
  have ib2 := jb2.inr
  have ix1 := jx1.inr
  have ix2 := jx2.inr
  obtain ⟨p1, p2⟩ := tdiv2_h (x := b1) (M := 219700000) (by have := jb1.1; omega) (by have := jb1.2; omega)
  obtain ⟨p3, p4⟩ := tdiv2_h (x := b2) (M := 219700000) (by have := jb2.1; omega) (by have := jb2.2; omega)
  obtain ⟨p5, p6⟩ := tdiv2_h (x := x1) (M := 219700000) (by have := jx1.1; omega) (by have := jx1.2; omega)
  obtain ⟨p7, p8⟩ := tdiv2_h (x := x2) (M := 219700000) (by have := jx2.1; omega) (by have := jx2.2; omega)
  have ih1 : InR (b1.tdiv 2) := by unfold InR; omega
  have ih2 : InR (b2.tdiv 2) := by unfold InR; omega
  have q1 : -110000000 ≤ (b1.tdiv 2).tdiv 2 ∧ (b1.tdiv 2).tdiv 2 ≤ 110000000 := by have := tdiv2_h (x := b1.tdiv 2) (M := 109850000) (by omega) (by omega); omega
  have q2 : -110000000 ≤ (b2.tdiv 2).tdiv 2 ∧ (b2.tdiv 2).tdiv 2 ≤ 110000000 := by have := tdiv2_h (x := b2.tdiv 2) (M := 109850000) (by omega) (by omega); omega
  obtain ⟨m1, hm1⟩ : ∃ m, (b1.tdiv 2).tdiv 2 = m := ⟨_, rfl⟩
  obtain ⟨m2, hm2⟩ : ∃ m, (b2.tdiv 2).tdiv 2 = m := ⟨_, rfl⟩
  obtain ⟨y1, hy1⟩ : ∃ m, x1.tdiv 2 = m := ⟨_, rfl⟩
  obtain ⟨y2, hy2⟩ : ∃ m, x2.tdiv 2 = m := ⟨_, rfl⟩
  rw [hm1] at q1
  rw [hm2] at q2
  rw [hy1] at p5 p6
  rw [hy2] at p7 p8
  obtain ⟨q11, q12⟩ := q1
  obtain ⟨q21, q22⟩ := q2
  have im1 : InR m1 := by unfold InR; omega
  have im2 : InR m2 := by unfold InR; omega
  have in1 : InR (-m1) := by unfold InR; omega
  have in2 : InR (-m2) := by unfold InR; omega
  have iy1 : InR y1 := by unfold InR; omega
  have iy2 : InR y2 := by unfold InR; omega
  have is1 : InR (y1 + m1) := by unfold InR; omega
  have is2 : InR (y2 + m2) := by unfold InR; omega
  have km1 : InM m1 := ⟨q11, q12⟩
  have km2 : InM m2 := ⟨q21, q22⟩
  obtain ⟨us, hus⟩ : ∃ us, movL ps m1 m2 = us := ⟨_, rfl⟩
  obtain ⟨A, hA⟩ : ∃ A, area2 ps = A := ⟨_, rfl⟩
  obtain ⟨t, ht⟩ : ∃ t, locE ps y1 y2 = t := ⟨_, rfl⟩
  have hul : us.length = ps.length := by rw [← hus]; exact movL_len ps m1 m2
  have hu0 : 0 < us.length := by omega
  have hu12 : us.length ≤ 12 := by omega
  have hule : us.length ≤ 9223372036854775807 := by omega
  have huv : AllV us := by rw [← hus]; exact movL_allv hS km1 km2
  have hur := huv.allr2
  have HVU : Hid (validP us = true) := Lib.hid (by rw [← hus]; exact movL_valid hS km1 km2 hva)
  have HA : Hid (area2 ps = A) := Lib.hid hA
  have HAU : Hid (area2 us = A) := Lib.hid (by rw [← hus, movL_area ps m1 m2 h0]; exact hA)
  have HL2 : Hid (locE ps y1 y2 = t) := Lib.hid ht
  have HL1 : Hid (locE us (y1 + m1) (y2 + m2) = t) := Lib.hid (by rw [← hus, movL_loc]; exact ht)
  have HBK : Hid (movL us (-m1) (-m2) = ps) := Lib.hid (by rw [← hus]; exact movL_back ps m1 m2)
  have HUS := Lib.hid hus
  clear hus hA ht hul hva hS jb1 jb2 jx1 jx2 km1 km2 p1 p2 p3 p4
  have hB : Below w.heap.size w w := Below.refl _ _
  go_enter Tryd.func6, Tryd.ntmps6
  go_wp2_with fail
  refine (head_any _ ((hT.alloc _).alloc _)).mono ?_; rintro e w1 ⟨rfl, hb⟩
  have hXb := blk_call (blk_alloc (blk_new w (.cells #[.int .i64 b1, .int .i64 b2] 25) (w.heap.size) (by simp)) _) hb
  have hXx := blk_call (blk_new (w.alloc (.cells #[.int .i64 b1, .int .i64 b2] 25)) (.cells #[.int .i64 x1, .int .i64 x2] 25) (w.heap.size + 1) (by simp)) hb
  replace hP := prow_below (prow_alloc (prow_alloc hP _) _) hb
  replace hB := belT (belA (belA hB _) _) hb
  clear hb
  clear hT
  go_wp2_with fail
  refine (little_is _ _ cap ps true _ rfl HL hle hP).mono ?_; rintro e w2 ⟨rfl, hb⟩
  replace hXb := blk_call hXb hb
  replace hXx := blk_call hXx hb
  replace hP := prow_below hP hb
  replace hB := belT hB hb
  clear hb
  have fhXb0 := blk_cell hXb 0 _ rfl
  have fhXb1 := blk_cell hXb 1 _ rfl
  have fhXbz := blk_lt hXb
  have fhXx0 := blk_cell hXx 0 _ rfl
  have fhXx1 := blk_cell hXx 1 _ rfl
  have fhXxz := blk_lt hXx
  go_wp2_with fail
  refine (may_any b1 b2 true _ HM1).mono ?_; rintro e w3 ⟨rfl, hb⟩
  replace hXb := blk_call hXb hb
  replace hXx := blk_call hXx hb
  replace hP := prow_below hP hb
  replace hB := belT hB hb
  clear hb
  clear fhXb0 fhXb1 fhXbz
  clear fhXx0 fhXx1 fhXxz
  have fhXb0 := blk_cell hXb 0 _ rfl
  have fhXb1 := blk_cell hXb 1 _ rfl
  have fhXbz := blk_lt hXb
  have fhXx0 := blk_cell hXx 0 _ rfl
  have fhXx1 := blk_cell hXx 1 _ rfl
  have fhXxz := blk_lt hXx
  go_wp2_with fail
  refine (may_any x1 x2 true _ HM2).mono ?_; rintro e w4 ⟨rfl, hb⟩
  replace hXb := blk_call hXb hb
  replace hXx := blk_call hXx hb
  replace hP := prow_below hP hb
  replace hB := belT hB hb
  clear hb
  clear fhXb0 fhXb1 fhXbz
  clear fhXx0 fhXx1 fhXxz
  have fhXb0 := blk_cell hXb 0 _ rfl
  have fhXb1 := blk_cell hXb 1 _ rfl
  have fhXbz := blk_lt hXb
  have fhXx0 := blk_cell hXx 0 _ rfl
  have fhXx1 := blk_cell hXx 1 _ rfl
  have fhXxz := blk_lt hXx
  go_wp2_with fail
  refine (half_is b1 b2 _ ib1 ib2).mono ?_; rintro e w5 ⟨rfl, hb⟩
  replace hXb := blk_call hXb hb
  replace hXx := blk_call hXx hb
  replace hP := prow_below hP hb
  replace hB := belT hB hb
  clear hb
  clear fhXb0 fhXb1 fhXbz
  clear fhXx0 fhXx1 fhXxz
  go_wp2_with fail
  refine (half_is (b1.tdiv 2) (b2.tdiv 2) _ ih1 ih2).mono ?_; rintro e w6 ⟨rfl, hb⟩
  replace hXb := blk_call hXb hb
  replace hXx := blk_call hXx hb
  replace hP := prow_below hP hb
  replace hB := belT hB hb
  clear hb
  rw [hm1, hm2]
  clear hm1 hm2
  have hXx' := blk_alloc hXx (.cells #[.int .i64 m1, .int .i64 m2] 25)
  have fx0 := blk_cell hXx' 0 _ rfl
  have fx1 := blk_cell hXx' 1 _ rfl
  have fxz := blk_lt hXx'
  go_wp2_with fail
  refine (half_is x1 x2 _ ix1 ix2).mono ?_; rintro e w7 ⟨rfl, hb⟩
  replace hXb := blk_call (blk_alloc hXb _) hb
  replace hXx := blk_call (blk_alloc hXx _) hb
  have hM := blk_call (blk_new w6 (.cells #[.int .i64 m1, .int .i64 m2] 25) (w6.heap.size) (by simp)) hb
  replace hP := prow_below (prow_alloc hP _) hb
  replace hB := belT (belA hB _) hb
  clear hb
  clear hXx' fx0 fx1 fxz
  rw [hy1, hy2]
  clear hy1 hy2
  have hM' := blk_alloc hM (.cells #[.int .i64 y1, .int .i64 y2] 25)
  have fx0 := blk_cell hM' 0 _ rfl
  have fx1 := blk_cell hM' 1 _ rfl
  have fxz := blk_lt hM'
  go_wp2_with fail
  refine (translate_is _ _ cap ps us m1 m2 _ h0 rfl HUS (by omega) (prow_alloc hP _) hvr im1 im2).mono ?_; rintro e w8 ⟨⟨g, c, rfl, hU⟩, hb⟩
  replace hXb := blk_call (blk_alloc hXb _) hb
  replace hXx := blk_call (blk_alloc hXx _) hb
  replace hM := blk_call (blk_alloc hM _) hb
  have hY := blk_call (blk_new w7 (.cells #[.int .i64 y1, .int .i64 y2] 25) (w7.heap.size) (by simp)) hb
  replace hP := prow_below (prow_alloc hP _) hb
  replace hB := belT (belA hB _) hb
  clear hb
  clear hM' fx0 fx1 fxz
  clear hXb
  clear hXx
  have fhM0 := blk_cell hM 0 _ rfl
  have fhM1 := blk_cell hM 1 _ rfl
  have fhMz := blk_lt hM
  have fhY0 := blk_cell hY 0 _ rfl
  have fhY1 := blk_cell hY 1 _ rfl
  have fhYz := blk_lt hY
  have hPx := hP
  have hUx := hU
  clear hU
  go_upto_region 7 with fail
  obtain ⟨sp, hsp⟩ : ∃ sp : Told, sp = [none, none, none, none, none, none, none, none, none, none, none, none, none, none, none, none, none, none, none, none, none, none, none, none, none, none, none, none, none, none, none, none, none, none, some (.inl (.slice (some ⟨g, 0, none⟩) us.length c)), some (.inl (.bool true)), some (.inl (.bool false)), some (.inl (.bool false)), some (.inl (.slice (some ⟨g, 0, none⟩) us.length c)), some (.inl (.int .i64 A)), some (.inl (.slice ao ps.length cap)), some (.inl (.int .i64 A)), some (.inl (.bool false)), some (.inl (.bool false)), some (.inl (.bool false)), some (.inl (.slice (some ⟨g, 0, none⟩) us.length c)), some (.inl (.agg #[.int .i64 y1, .int .i64 y2])), some (.inl (.agg #[.int .i64 m1, .int .i64 m2])), some (.inl (.agg #[.int .i64 (y1 + m1), .int .i64 (y2 + m2)])), some (.inl (.int .i64 t)), some (.inl (.slice ao ps.length cap)), some (.inl (.agg #[.int .i64 y1, .int .i64 y2])), some (.inl (.int .i64 t)), some (.inl (.bool false)), some (.inl (.bool false))] := ⟨_, rfl⟩
  have s34 : sp.getD 34 none = some (.inl (.slice (some ⟨g, 0, none⟩) us.length c)) := by rw [hsp]; rfl
  have s35 : sp.getD 35 none = some (.inl (.bool true)) := by rw [hsp]; rfl
  have s36 : sp.getD 36 none = some (.inl (.bool false)) := by rw [hsp]; rfl
  have s37 : sp.getD 37 none = some (.inl (.bool false)) := by rw [hsp]; rfl
  have s38 : sp.getD 38 none = some (.inl (.slice (some ⟨g, 0, none⟩) us.length c)) := by rw [hsp]; rfl
  have s39 : sp.getD 39 none = some (.inl (.int .i64 A)) := by rw [hsp]; rfl
  have s40 : sp.getD 40 none = some (.inl (.slice ao ps.length cap)) := by rw [hsp]; rfl
  have s41 : sp.getD 41 none = some (.inl (.int .i64 A)) := by rw [hsp]; rfl
  have s42 : sp.getD 42 none = some (.inl (.bool false)) := by rw [hsp]; rfl
  have s43 : sp.getD 43 none = some (.inl (.bool false)) := by rw [hsp]; rfl
  have s44 : sp.getD 44 none = some (.inl (.bool false)) := by rw [hsp]; rfl
  have s45 : sp.getD 45 none = some (.inl (.slice (some ⟨g, 0, none⟩) us.length c)) := by rw [hsp]; rfl
  have s46 : sp.getD 46 none = some (.inl (.agg #[.int .i64 y1, .int .i64 y2])) := by rw [hsp]; rfl
  have s47 : sp.getD 47 none = some (.inl (.agg #[.int .i64 m1, .int .i64 m2])) := by rw [hsp]; rfl
  have s48 : sp.getD 48 none = some (.inl (.agg #[.int .i64 (y1 + m1), .int .i64 (y2 + m2)])) := by rw [hsp]; rfl
  have s49 : sp.getD 49 none = some (.inl (.int .i64 t)) := by rw [hsp]; rfl
  have s50 : sp.getD 50 none = some (.inl (.slice ao ps.length cap)) := by rw [hsp]; rfl
  have s51 : sp.getD 51 none = some (.inl (.agg #[.int .i64 y1, .int .i64 y2])) := by rw [hsp]; rfl
  have s52 : sp.getD 52 none = some (.inl (.int .i64 t)) := by rw [hsp]; rfl
  have s53 : sp.getD 53 none = some (.inl (.bool false)) := by rw [hsp]; rfl
  have s54 : sp.getD 54 none = some (.inl (.bool false)) := by rw [hsp]; rfl
  clear hsp
  refine region_obs sp (by kernel_rfl) (by kernel_rfl) ?_ ?_
  · rw [List.toList_toArray]
    refine obs_cons ?_ ?_
    · intro T wx K hB hF hD hK
      have g10 : T[10]? = some (.slice (some ⟨g, 0, none⟩) us.length c) := hF 10 (free_of (by kernel_rfl))
      refine ob_yes (wanted_none rfl) ?_
      clear hF hD
      go_simp
      exact hK _ _ (Below.refl _ _) (rt_eq s34)
    refine obs_cons ?_ ?_
    · intro T wx K hB hF hD hK
      have g34 := get_eq (hD 0 34 (by simp [Region.binds]) (by kernel_rfl)) s34
      refine ob_yes (wanted_none rfl) ?_
      clear hF hD
      go_simp
      refine (valid_is (some ⟨g, 0, none⟩) us.length c us true _ rfl HVU hule (prow_below hUx hB)).mono ?_; rintro e w9 ⟨rfl, hb⟩
      exact hK _ _ hb (rt_eq s35)
    refine obs_cons ?_ ?_
    · intro T wx K hB hF hD hK
      have g35 := get_eq (hD 1 35 (by simp [Region.binds]) (by kernel_rfl)) s35
      refine ob_yes (wanted_none rfl) ?_
      clear hF hD
      go_simp
      exact hK _ _ (Below.refl _ _) (rt_eq s36)
    refine obs_cons ?_ ?_
    · intro T wx K hB hF hD hK
      have g36 := get_eq (hD 2 36 (by simp [Region.binds]) (by kernel_rfl)) s36
      refine ob_yes (wanted_none rfl) ?_
      clear hF hD
      go_simp
      exact hK _ _ (Below.refl _ _) (rt_eq s37)
    refine obs_cons ?_ ?_
    · intro T wx K hB hF hD hK
      have g37 := get_eq (hD 3 37 (by simp [Region.binds]) (by kernel_rfl)) s37
      have g10 : T[10]? = some (.slice (some ⟨g, 0, none⟩) us.length c) := hF 10 (free_of (by kernel_rfl))
      refine ob_yes (wanted_yes rfl (by kernel_rfl) g37) ?_
      clear hF hD
      go_simp
      exact hK _ _ (Below.refl _ _) (rt_eq s38)
    refine obs_cons ?_ ?_
    · intro T wx K hB hF hD hK
      have g37 := get_eq (hD 3 37 (by simp [Region.binds]) (by kernel_rfl)) s37
      have g38 := get_eq (hD 4 38 (by simp [Region.binds]) (by kernel_rfl)) s38
      refine ob_yes (wanted_yes rfl (by kernel_rfl) g37) ?_
      clear hF hD
      go_simp
      refine (area_at (some ⟨g, 0, none⟩) us.length c us A _ rfl HAU hu0 hu12 (prow_below hUx hB) huv).mono ?_; rintro e w9 ⟨rfl, hb⟩
      exact hK _ _ hb (rt_eq s39)
    refine obs_cons ?_ ?_
    · intro T wx K hB hF hD hK
      have g37 := get_eq (hD 3 37 (by simp [Region.binds]) (by kernel_rfl)) s37
      have g0 : T[0]? = some (.slice ao ps.length cap) := hF 0 (free_of (by kernel_rfl))
      refine ob_yes (wanted_yes rfl (by kernel_rfl) g37) ?_
      clear hF hD
      go_simp
      exact hK _ _ (Below.refl _ _) (rt_eq s40)
    refine obs_cons ?_ ?_
    · intro T wx K hB hF hD hK
      have g37 := get_eq (hD 3 37 (by simp [Region.binds]) (by kernel_rfl)) s37
      have g40 := get_eq (hD 6 40 (by simp [Region.binds]) (by kernel_rfl)) s40
      refine ob_yes (wanted_yes rfl (by kernel_rfl) g37) ?_
      clear hF hD
      go_simp
      refine (area_at ao ps.length cap ps A _ rfl HA h0 h12 (prow_below hPx hB) hv).mono ?_; rintro e w9 ⟨rfl, hb⟩
      exact hK _ _ hb (rt_eq s41)
    refine obs_cons ?_ ?_
    · intro T wx K hB hF hD hK
      have g37 := get_eq (hD 3 37 (by simp [Region.binds]) (by kernel_rfl)) s37
      have g39 := get_eq (hD 5 39 (by simp [Region.binds]) (by kernel_rfl)) s39
      have g41 := get_eq (hD 7 41 (by simp [Region.binds]) (by kernel_rfl)) s41
      refine ob_yes (wanted_yes rfl (by kernel_rfl) g37) ?_
      clear hF hD
      go_simp
      exact hK _ _ (Below.refl _ _) (rt_eq s42)
    refine obs_cons ?_ ?_
    · intro T wx K hB hF hD hK
      have g37 := get_eq (hD 3 37 (by simp [Region.binds]) (by kernel_rfl)) s37
      have g42 := get_eq (hD 8 42 (by simp [Region.binds]) (by kernel_rfl)) s42
      refine ob_yes (wanted_none rfl) ?_
      clear hF hD
      go_simp
      exact hK _ _ (Below.refl _ _) (rt_eq s43)
    refine obs_cons ?_ ?_
    · intro T wx K hB hF hD hK
      have g43 := get_eq (hD 9 43 (by simp [Region.binds]) (by kernel_rfl)) s43
      refine ob_yes (wanted_none rfl) ?_
      clear hF hD
      go_simp
      exact hK _ _ (Below.refl _ _) (rt_eq s44)
    refine obs_cons ?_ ?_
    · intro T wx K hB hF hD hK
      have g44 := get_eq (hD 10 44 (by simp [Region.binds]) (by kernel_rfl)) s44
      have g10 : T[10]? = some (.slice (some ⟨g, 0, none⟩) us.length c) := hF 10 (free_of (by kernel_rfl))
      refine ob_yes (wanted_yes rfl (by kernel_rfl) g44) ?_
      clear hF hD
      go_simp
      exact hK _ _ (Below.refl _ _) (rt_eq s45)
    refine obs_cons ?_ ?_
    · intro T wx K hB hF hD hK
      have g44 := get_eq (hD 10 44 (by simp [Region.binds]) (by kernel_rfl)) s44
      have g9 : T[9]? = some (.pointer (some ⟨w7.heap.size, 0, none⟩)) := hF 9 (free_of (by kernel_rfl))
      refine ob_yes (wanted_yes rfl (by kernel_rfl) g44) ?_
      clear hF hD
      have c0 := cell_call fhY0 hB
      have c1 := cell_call fhY1 hB
      go_simp
      exact hK _ _ (Below.refl _ _) (rt_eq s46)
    refine obs_cons ?_ ?_
    · intro T wx K hB hF hD hK
      have g44 := get_eq (hD 10 44 (by simp [Region.binds]) (by kernel_rfl)) s44
      have g8 : T[8]? = some (.pointer (some ⟨w6.heap.size, 0, none⟩)) := hF 8 (free_of (by kernel_rfl))
      refine ob_yes (wanted_yes rfl (by kernel_rfl) g44) ?_
      clear hF hD
      have c0 := cell_call fhM0 hB
      have c1 := cell_call fhM1 hB
      go_simp
      exact hK _ _ (Below.refl _ _) (rt_eq s47)
    refine obs_cons ?_ ?_
    · intro T wx K hB hF hD hK
      have g44 := get_eq (hD 10 44 (by simp [Region.binds]) (by kernel_rfl)) s44
      have g46 := get_eq (hD 12 46 (by simp [Region.binds]) (by kernel_rfl)) s46
      have g47 := get_eq (hD 13 47 (by simp [Region.binds]) (by kernel_rfl)) s47
      refine ob_yes (wanted_yes rfl (by kernel_rfl) g44) ?_
      clear hF hD
      go_simp
      refine (add_in y1 y2 m1 m2 _ (by omega) (by omega)).mono ?_; rintro e w9 ⟨rfl, hb⟩
      exact hK _ _ hb (rt_eq s48)
    refine obs_cons ?_ ?_
    · intro T wx K hB hF hD hK
      have g44 := get_eq (hD 10 44 (by simp [Region.binds]) (by kernel_rfl)) s44
      have g45 := get_eq (hD 11 45 (by simp [Region.binds]) (by kernel_rfl)) s45
      have g48 := get_eq (hD 14 48 (by simp [Region.binds]) (by kernel_rfl)) s48
      refine ob_yes (wanted_yes rfl (by kernel_rfl) g44) ?_
      clear hF hD
      go_simp
      refine (locate_at (some ⟨g, 0, none⟩) us.length c us (y1 + m1) (y2 + m2) t _ rfl HL1 hu0 hu12 (prow_below hUx hB) hur is1 is2).mono ?_; rintro e w9 ⟨rfl, hb⟩
      exact hK _ _ hb (rt_eq s49)
    refine obs_cons ?_ ?_
    · intro T wx K hB hF hD hK
      have g44 := get_eq (hD 10 44 (by simp [Region.binds]) (by kernel_rfl)) s44
      have g0 : T[0]? = some (.slice ao ps.length cap) := hF 0 (free_of (by kernel_rfl))
      refine ob_yes (wanted_yes rfl (by kernel_rfl) g44) ?_
      clear hF hD
      go_simp
      exact hK _ _ (Below.refl _ _) (rt_eq s50)
    refine obs_cons ?_ ?_
    · intro T wx K hB hF hD hK
      have g44 := get_eq (hD 10 44 (by simp [Region.binds]) (by kernel_rfl)) s44
      have g9 : T[9]? = some (.pointer (some ⟨w7.heap.size, 0, none⟩)) := hF 9 (free_of (by kernel_rfl))
      refine ob_yes (wanted_yes rfl (by kernel_rfl) g44) ?_
      clear hF hD
      have c0 := cell_call fhY0 hB
      have c1 := cell_call fhY1 hB
      go_simp
      exact hK _ _ (Below.refl _ _) (rt_eq s51)
    refine obs_cons ?_ ?_
    · intro T wx K hB hF hD hK
      have g44 := get_eq (hD 10 44 (by simp [Region.binds]) (by kernel_rfl)) s44
      have g50 := get_eq (hD 16 50 (by simp [Region.binds]) (by kernel_rfl)) s50
      have g51 := get_eq (hD 17 51 (by simp [Region.binds]) (by kernel_rfl)) s51
      refine ob_yes (wanted_yes rfl (by kernel_rfl) g44) ?_
      clear hF hD
      go_simp
      refine (locate_at ao ps.length cap ps y1 y2 t _ rfl HL2 h0 h12 (prow_below hPx hB) hvr iy1 iy2).mono ?_; rintro e w9 ⟨rfl, hb⟩
      exact hK _ _ hb (rt_eq s52)
    refine obs_cons ?_ ?_
    · intro T wx K hB hF hD hK
      have g44 := get_eq (hD 10 44 (by simp [Region.binds]) (by kernel_rfl)) s44
      have g49 := get_eq (hD 15 49 (by simp [Region.binds]) (by kernel_rfl)) s49
      have g52 := get_eq (hD 18 52 (by simp [Region.binds]) (by kernel_rfl)) s52
      refine ob_yes (wanted_yes rfl (by kernel_rfl) g44) ?_
      clear hF hD
      go_simp
      exact hK _ _ (Below.refl _ _) (rt_eq s53)
    refine obs_cons ?_ ?_
    · intro T wx K hB hF hD hK
      have g44 := get_eq (hD 10 44 (by simp [Region.binds]) (by kernel_rfl)) s44
      have g53 := get_eq (hD 19 53 (by simp [Region.binds]) (by kernel_rfl)) s53
      refine ob_yes (wanted_none rfl) ?_
      clear hF hD
      go_simp
      exact hK _ _ (Below.refl _ _) (rt_eq s54)
    exact obs_nil
  · intro T w20 hb hF hs hD
    have g34 := get_eq (hD 0 34 (by kernel_rfl)) s34
    have g35 := get_eq (hD 1 35 (by kernel_rfl)) s35
    have g36 := get_eq (hD 2 36 (by kernel_rfl)) s36
    have g37 := get_eq (hD 3 37 (by kernel_rfl)) s37
    have g38 := get_eq (hD 4 38 (by kernel_rfl)) s38
    have g39 := get_eq (hD 5 39 (by kernel_rfl)) s39
    have g40 := get_eq (hD 6 40 (by kernel_rfl)) s40
    have g41 := get_eq (hD 7 41 (by kernel_rfl)) s41
    have g42 := get_eq (hD 8 42 (by kernel_rfl)) s42
    have g43 := get_eq (hD 9 43 (by kernel_rfl)) s43
    have g44 := get_eq (hD 10 44 (by kernel_rfl)) s44
    have g45 := get_eq (hD 11 45 (by kernel_rfl)) s45
    have g46 := get_eq (hD 12 46 (by kernel_rfl)) s46
    have g47 := get_eq (hD 13 47 (by kernel_rfl)) s47
    have g48 := get_eq (hD 14 48 (by kernel_rfl)) s48
    have g49 := get_eq (hD 15 49 (by kernel_rfl)) s49
    have g50 := get_eq (hD 16 50 (by kernel_rfl)) s50
    have g51 := get_eq (hD 17 51 (by kernel_rfl)) s51
    have g52 := get_eq (hD 18 52 (by kernel_rfl)) s52
    have g53 := get_eq (hD 19 53 (by kernel_rfl)) s53
    have g54 := get_eq (hD 20 54 (by kernel_rfl)) s54
    have hT := concF [(34, .slice (some ⟨g, 0, none⟩) us.length c), (35, .bool true), (36, .bool false), (37, .bool false), (38, .slice (some ⟨g, 0, none⟩) us.length c), (39, .int .i64 A), (40, .slice ao ps.length cap), (41, .int .i64 A), (42, .bool false), (43, .bool false), (44, .bool false), (45, .slice (some ⟨g, 0, none⟩) us.length c), (46, .agg #[.int .i64 y1, .int .i64 y2]), (47, .agg #[.int .i64 m1, .int .i64 m2]), (48, .agg #[.int .i64 (y1 + m1), .int .i64 (y2 + m2)]), (49, .int .i64 t), (50, .slice ao ps.length cap), (51, .agg #[.int .i64 y1, .int .i64 y2]), (52, .int .i64 t), (53, .bool false), (54, .bool false)] hs hF (by simp only [List.forall_mem_cons]; exact ⟨g34, g35, g36, g37, g38, g39, g40, g41, g42, g43, g44, g45, g46, g47, g48, g49, g50, g51, g52, g53, g54, fun p hp => absurd hp List.not_mem_nil⟩) (by kernel_rfl)
    simp only [List.foldl, List.setIfInBounds_toArray, List.set_cons_succ, List.set_cons_zero] at hT
    subst hT
    clear hF hD hs g34 g35 g36 g37 g38 g39 g40 g41 g42 g43 g44 g45 g46 g47 g48 g49 g50 g51 g52 g53 g54 s34 s35 s36 s37 s38 s39 s40 s41 s42 s43 s44 s45 s46 s47 s48 s49 s50 s51 s52 s53 s54
    have hU := hUx
    clear fhM0 fhM1 fhMz
    clear fhY0 fhY1 fhYz
    clear hPx hUx
    replace hM := blk_call hM hb
    replace hY := blk_call hY hb
    replace hP := prow_below hP hb
    replace hU := prow_below hU hb
    replace hB := belT hB hb
    clear hb
    have fhM0 := blk_cell hM 0 _ rfl
    have fhM1 := blk_cell hM 1 _ rfl
    have fhMz := blk_lt hM
    have fhY0 := blk_cell hY 0 _ rfl
    have fhY1 := blk_cell hY 1 _ rfl
    have fhYz := blk_lt hY
    go_wp2_with fail
    refine (translate_is _ _ c us ps (-m1) (-m2) _ hu0 rfl HBK (by omega) hU hur in1 in2).mono ?_; rintro e w9 ⟨⟨g2, c2, rfl, hR⟩, hb⟩
    replace hM := blk_call hM hb
    replace hY := blk_call hY hb
    replace hP := prow_below hP hb
    replace hU := prow_below hU hb
    replace hB := belT hB hb
    clear hb
    clear fhM0 fhM1 fhMz
    clear fhY0 fhY1 fhYz
    go_wp2_with fail
    refine (equal_is _ _ _ _ c2 cap ps ps true _ rfl rfl (Lib.hid (decide_eq_true rfl)) hle hle hR hP).mono ?_; rintro e w10 ⟨rfl, hb⟩
    replace hM := blk_call hM hb
    replace hY := blk_call hY hb
    replace hP := prow_below hP hb
    replace hU := prow_below hU hb
    replace hR := prow_below hR hb
    replace hB := belT hB hb
    clear hb
    go_wp2_with fail
    go_ret
    exact ⟨rfl, hB⟩

set_option maxRecDepth 100000 in
set_option maxHeartbeats 4000000 in
theorem walk {w : World} (ao : Option Addr) (cap : Nat) (ps : List (Int × Int)) (hle : ps.length ≤ 9223372036854775807) (hP : PRow w ao ps) (b1 b2 x1 x2 : Int) (hT : Rot.Tab w) :
    Calls Tryd.prog 6 #[.slice ao ps.length cap, .agg #[.int .i64 b1, .int .i64 b2], .agg #[.int .i64 x1, .int .i64 x2]] w fun e w' => e = .returned (.bool true) ∧ Below w.heap.size w w' := by
  by_cases hl : littleB ps = true
  · have HL := Lib.hid hl
    by_cases hm1 : mayB b1 b2 = true
    · by_cases hm2 : mayB x1 x2 = true
      · obtain ⟨k1, k2⟩ := (mayB_iff b1 b2).1 hm1
        obtain ⟨k3, k4⟩ := (mayB_iff x1 x2).1 hm2
        exact walk_main ao cap ps hle hP b1 b2 x1 x2 hT HL k1 k2 k3 k4
      · have HM1 : Hid (mayB b1 b2 = true) := Lib.hid hm1
        have HM2 : Hid (mayB x1 x2 = false) := Lib.hid (by simpa using hm2)
        clear hm1 hm2 hl
        have hB : Below w.heap.size w w := Below.refl _ _
        go_enter Tryd.func6, Tryd.ntmps6
        go_wp2_with fail
        refine (head_any _ ((hT.alloc _).alloc _)).mono ?_; rintro e w1 ⟨rfl, hb⟩
        have hXb := blk_call (blk_alloc (blk_new w (.cells #[.int .i64 b1, .int .i64 b2] 25) (w.heap.size) (by simp)) _) hb
        have hXx := blk_call (blk_new (w.alloc (.cells #[.int .i64 b1, .int .i64 b2] 25)) (.cells #[.int .i64 x1, .int .i64 x2] 25) (w.heap.size + 1) (by simp)) hb
        replace hP := prow_below (prow_alloc (prow_alloc hP _) _) hb
        replace hB := belT (belA (belA hB _) _) hb
        clear hb
        clear hT
        go_wp2_with fail
        refine (little_is _ _ cap ps true _ rfl HL hle hP).mono ?_; rintro e w2 ⟨rfl, hb⟩
        replace hXb := blk_call hXb hb
        replace hXx := blk_call hXx hb
        replace hP := prow_below hP hb
        replace hB := belT hB hb
        clear hb
        have fhXb0 := blk_cell hXb 0 _ rfl
        have fhXb1 := blk_cell hXb 1 _ rfl
        have fhXbz := blk_lt hXb
        have fhXx0 := blk_cell hXx 0 _ rfl
        have fhXx1 := blk_cell hXx 1 _ rfl
        have fhXxz := blk_lt hXx
        go_wp2_with fail
        refine (may_any b1 b2 true _ HM1).mono ?_; rintro e w3 ⟨rfl, hb⟩
        replace hXb := blk_call hXb hb
        replace hXx := blk_call hXx hb
        replace hP := prow_below hP hb
        replace hB := belT hB hb
        clear hb
        clear fhXb0 fhXb1 fhXbz
        clear fhXx0 fhXx1 fhXxz
        have fhXb0 := blk_cell hXb 0 _ rfl
        have fhXb1 := blk_cell hXb 1 _ rfl
        have fhXbz := blk_lt hXb
        have fhXx0 := blk_cell hXx 0 _ rfl
        have fhXx1 := blk_cell hXx 1 _ rfl
        have fhXxz := blk_lt hXx
        go_wp2_with fail
        refine (may_any x1 x2 false _ HM2).mono ?_; rintro e w4 ⟨rfl, hb⟩
        replace hXb := blk_call hXb hb
        replace hXx := blk_call hXx hb
        replace hP := prow_below hP hb
        replace hB := belT hB hb
        clear hb
        clear fhXb0 fhXb1 fhXbz
        clear fhXx0 fhXx1 fhXxz
        go_wp2_with fail
        go_ret
        exact ⟨rfl, hB⟩
    · have HM1 : Hid (mayB b1 b2 = false) := Lib.hid (by simpa using hm1)
      clear hm1 hl
      have hB : Below w.heap.size w w := Below.refl _ _
      go_enter Tryd.func6, Tryd.ntmps6
      go_wp2_with fail
      refine (head_any _ ((hT.alloc _).alloc _)).mono ?_; rintro e w1 ⟨rfl, hb⟩
      have hXb := blk_call (blk_alloc (blk_new w (.cells #[.int .i64 b1, .int .i64 b2] 25) (w.heap.size) (by simp)) _) hb
      have hXx := blk_call (blk_new (w.alloc (.cells #[.int .i64 b1, .int .i64 b2] 25)) (.cells #[.int .i64 x1, .int .i64 x2] 25) (w.heap.size + 1) (by simp)) hb
      replace hP := prow_below (prow_alloc (prow_alloc hP _) _) hb
      replace hB := belT (belA (belA hB _) _) hb
      clear hb
      clear hT
      go_wp2_with fail
      refine (little_is _ _ cap ps true _ rfl HL hle hP).mono ?_; rintro e w2 ⟨rfl, hb⟩
      replace hXb := blk_call hXb hb
      replace hXx := blk_call hXx hb
      replace hP := prow_below hP hb
      replace hB := belT hB hb
      clear hb
      have fhXb0 := blk_cell hXb 0 _ rfl
      have fhXb1 := blk_cell hXb 1 _ rfl
      have fhXbz := blk_lt hXb
      have fhXx0 := blk_cell hXx 0 _ rfl
      have fhXx1 := blk_cell hXx 1 _ rfl
      have fhXxz := blk_lt hXx
      go_wp2_with fail
      refine (may_any b1 b2 false _ HM1).mono ?_; rintro e w3 ⟨rfl, hb⟩
      replace hXb := blk_call hXb hb
      replace hXx := blk_call hXx hb
      replace hP := prow_below hP hb
      replace hB := belT hB hb
      clear hb
      clear fhXb0 fhXb1 fhXbz
      clear fhXx0 fhXx1 fhXxz
      go_wp2_with fail
      go_ret
      exact ⟨rfl, hB⟩
  · have HL : Hid (littleB ps = false) := Lib.hid (by simpa using hl)
    clear hl
    have hB : Below w.heap.size w w := Below.refl _ _
    go_enter Tryd.func6, Tryd.ntmps6
    go_wp2_with fail
    refine (head_any _ ((hT.alloc _).alloc _)).mono ?_; rintro e w1 ⟨rfl, hb⟩
    have hXb := blk_call (blk_alloc (blk_new w (.cells #[.int .i64 b1, .int .i64 b2] 25) (w.heap.size) (by simp)) _) hb
    have hXx := blk_call (blk_new (w.alloc (.cells #[.int .i64 b1, .int .i64 b2] 25)) (.cells #[.int .i64 x1, .int .i64 x2] 25) (w.heap.size + 1) (by simp)) hb
    replace hP := prow_below (prow_alloc (prow_alloc hP _) _) hb
    replace hB := belT (belA (belA hB _) _) hb
    clear hb
    clear hT
    go_wp2_with fail
    refine (little_is _ _ cap ps false _ rfl HL hle hP).mono ?_; rintro e w2 ⟨rfl, hb⟩
    replace hXb := blk_call hXb hb
    replace hXx := blk_call hXx hb
    replace hP := prow_below hP hb
    replace hB := belT hB hb
    clear hb
    go_wp2_with fail
    go_ret
    exact ⟨rfl, hB⟩

set_option maxRecDepth 100000 in
theorem lifted (os : Os) (started : os.Started) (H : Type) (enc : TypeId × Value → H) :
    ReturnsInHanded {} Tryd.checked os 6 .any (fun w args => (Rows.polygonTranslationPreservesGeometrySpec.pre enc Tryd.prog Tryd.f6 [] false w args ∧ laidMetH Tryd.prog Rows.polygonTranslationPreservesGeometryRow.laid w) ∧ sizedMet enc Tryd.prog Tryd.f6 (OpenSpec.ofChange Rows.polygonTranslationPreservesGeometrySpec) false w args)
      (Rows.polygonTranslationPreservesGeometrySpec.post enc Tryd.prog Tryd.f6 false true false false) := by
  refine returnsInHanded_of_change_and (C := Tryd.checked) (X := fun w _ => laidMetH Tryd.prog Rows.polygonTranslationPreservesGeometryRow.laid w) (fun _ _ _ hh h => h.of_heap hh) Rot.own started (by kernel_rfl) Tryd.func6
    (ChangeSpec.witness_shaped (enc := enc) (C := Tryd.checked) (os := os) (X := fun w _ => laidMetH Tryd.prog Rows.polygonTranslationPreservesGeometryRow.laid w) false (World.doorLaid Tryd.prog 600 os) #[.slice none 0 0, .agg #[.int .i64 0, .int .i64 0], .agg #[.int .i64 0, .int .i64 0]] 8 rfl (World.shaped_of_RefB (by kernel_rfl) (by kernel_rfl)) (by kernel_rfl) (by kernel_rfl) (by kernel_rfl) (show laidMetH Tryd.prog [(Rot.qn, Rows.laid_ambidexter_rotation_quadrant)] _ from Rot.door_met os _)) ?_
  intro W base args ds gs before hval0 hW _ _ hL _
  have hval : ∀ (j : Nat) t v, Tryd.f6.params[j]? = some t → args[j]? = some v → Value.okWide Tryd.prog W .any base t v := hval0
  have hW' := hW
  obtain ⟨p, q, hA0, hV, rfl, hfz, hnd⟩ := hW
  have hA : DataW.TrodAll enc Tryd.prog W 0 (fun _ => true) true Tryd.f6.params.toList args.toList ds p := hA0
  rw [Tryd.params6] at hA hval
  obtain ⟨v0, vs0, d0, ds0, p0, q0, hargs, rfl, rfl, h0, r0⟩ := trodAll_cons hA
  obtain ⟨v1, vs1, d1, ds1, p1, q1, rfl, rfl, rfl, h1, r1⟩ := trodAll_cons r0
  obtain ⟨v2, vs2, d2, ds2, p2, q2, rfl, rfl, rfl, h2, r2⟩ := trodAll_cons r1
  obtain ⟨rfl, rfl, rfl⟩ := trodAll_nil r2
  obtain rfl : args = #[v0, v1, v2] := by cases args; simp_all
  obtain ⟨rfl, rfl⟩ := trodVars_none hV
  have k0 := h0
  have lt0 : ∀ x ∈ p0, x.block < W.heap.size := by obtain ⟨m, hm⟩ := k0; exact DataW.trod_lt m _ _ _ hm
  obtain ⟨a0, cap0, l0, rfl, n0, w0⟩ := Fr.open_pts (hval 0 23 v0 rfl rfl) h0
  have k1 := h1
  have lt1 : ∀ x ∈ p1, x.block < W.heap.size := by obtain ⟨m, hm⟩ := k1; exact DataW.trod_lt m _ _ _ hm
  obtain ⟨x1, y1, rfl⟩ := Fr.open_pt (hval 1 25 v1 rfl rfl) h1
  have k2 := h2
  have lt2 : ∀ x ∈ p2, x.block < W.heap.size := by obtain ⟨m, hm⟩ := k2; exact DataW.trod_lt m _ _ _ hm
  obtain ⟨x2, y2, rfl⟩ := Fr.open_pt (hval 2 25 v2 rfl rfl) h2
  clear hA0 hval0
  simp only [List.append_nil] at hW'
  refine (walk a0 cap0 l0 n0 w0 x1 y1 x2 y2 (Rot.tab_of_laid hL)).mono fun e W' ⟨he, bel⟩ => ?_
  subst he
  exact ⟨_, rfl, _, _, _, [], _, [], hW', trodAll_mk1 (shut_bool Tryd.underlying4 _), (trodAll_cons_mk (Below.trod Fr.laidOut (by kernel_rfl) (of_decide_eq_true (by kernel_rfl)) k0 bel lt0) (trodAll_cons_mk (Below.trod Fr.laidOut (by kernel_rfl) (of_decide_eq_true (by kernel_rfl)) k1 bel lt1) (trodAll_cons_mk (Below.trod Fr.laidOut (by kernel_rfl) (of_decide_eq_true (by kernel_rfl)) k2 bel lt2) trodAll_mk0))), rfl, bel.frame _, fun h => by cases h⟩

theorem holds : Rows.PolygonTranslationPreservesGeometrySaid :=
  OpenClaim.holds_of_wide 6 Tryd.f6 rfl rfl rfl rfl rfl rfl rfl ⟨rfl, rfl, rfl, rfl, rfl⟩ rfl rfl rfl rfl rfl (by kernel_rfl) Tryd.func6 (by kernel_rfl)
    (of_decide_eq_true (by kernel_rfl)) (by unfold Func.isWrapper; first | (rw [if_pos (by decide +kernel)]; kernel_rfl) | (rw [if_neg (by decide +kernel)]; exact ⟨rfl, rfl⟩))
    (fun os started H enc _ => lifted os started H enc)

/-- THE STATEMENT: the tied card. -/
theorem card_holds : Rows.PolygonTranslationPreservesGeometryCardSaid :=
  Claim7.holds_tied_plain_at .later [] [.data] true Rows.polygonTranslationPreservesGeometryCard.stood.harness false
    holds (fun _ h => by cases h) (by kernel_rfl) (fun _ h => by cases h) polygonTranslationPreservesGeometry_row_tie rfl ⟨rfl, rfl⟩ (by kernel_rfl) rfl
    (fun f fn hf hfn => by
      obtain rfl : f = 6 := Option.some.inj ((show Tryd.prog.funcNamed Rows.polygonTranslationPreservesGeometryRow.func = some 6 by kernel_rfl).symm.trans hf) |>.symm
      obtain rfl : fn = Tryd.f6 := (Option.some.inj (Tryd.func6.symm.trans hfn)).symm
      exact ⟨by kernel_rfl, fun j t ht => by
        rw [Tryd.params6] at ht
        have hm : t ∈ [23, 25] := by have := Array.mem_of_getElem? ht; simp only [List.mem_toArray, List.mem_cons, List.not_mem_nil, or_false] at this ⊢; grind
        have hall : ([23, 25].all fun u => !Tryd.prog.wantsStandIn u) = true := by kernel_rfl
        exact (show Tryd.prog.wantsStandIn t = false by simpa using List.all_eq_true.1 hall t hm)⟩)
    (by kernel_rfl)
#print axioms card_holds
end Go.Proofs.YthmcejeeohlafaaDoor.polygonTranslationPreservesGeometry
