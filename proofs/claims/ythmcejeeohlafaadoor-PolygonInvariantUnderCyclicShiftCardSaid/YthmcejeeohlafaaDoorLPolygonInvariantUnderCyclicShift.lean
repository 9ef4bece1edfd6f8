/- Proved: starting the corners at another one changes neither validity nor DoubleArea nor Locate, and the reverse of a polygon has the negated area and is not valid if the polygon is (the law PolygonInvariantUnderCyclicShift returns true).
Conditions: none on the arguments: for every polygon, every shift and every point. The table of package rotation lies as the program text lays it (the card ties it). -/
import Derived.Test.YthmcejeeohlafaaDoorPolN
import Derived.Test.YthmcejeeohlafaaDoorPolFr
import Derived.Test.YthmcejeeohlafaaDoorTie
import Derived.Test.YthmcejeeohlafaaDoorCards
import Derived.SevenTiedAt
namespace Go.Proofs.YthmcejeeohlafaaDoor.polygonInvariantUnderCyclicShift
open Go.ChangeShapes Go.WideShapes Go.ChangeAt Go.RowKit
set_option linter.unusedVariables false
set_option linter.unusedSimpArgs false

set_option maxRecDepth 100000 in
set_option maxHeartbeats 8000000 in
theorem walk_true {w : World} (ao : Option Addr) (cap m : Nat) (ps : List (Int × Int)) (hle : ps.length ≤ 9223372036854775807) (hP : PRow w ao ps) (hm : m ≤ 255) (x y : Int) (hT : Rot.Tab w) (h0 : 0 < ps.length) (h12 : ps.length ≤ 12) (hv : AllV ps) (jx : InV x) (jy : InV y) (HV : Hid (validP ps = true)) :
    Calls Tryd.prog 3 #[.slice ao ps.length cap, .int .u8 (m : Int), .agg #[.int .i64 x, .int .i64 y]] w fun e w' => e = .returned (.bool true) ∧ Below w.heap.size w w' := by
  have hB : Below w.heap.size w w := Below.refl _ _
  have HF : Hid (fitsB ps = true) := Lib.hid ((fitsB_iff ps).2 ⟨h12, hv⟩)
  have HM : Hid (mayB x y = true) := Lib.hid ((mayB_iff x y).2 ⟨jx, jy⟩)
  have hne : ((ps.length : Int) == 0) = false := by rw [beq_eq_false_iff_ne]; omega
  have hpe : ¬ ps = [] := fun e => by rw [e] at h0; simp at h0
  have ix := jx.inr
  have iy := jy.inr
  have hvr := hv.allr2
  obtain ⟨us, hus⟩ : ∃ us, shL ps m = us := ⟨_, rfl⟩
  obtain ⟨bs, hbs⟩ : ∃ bs, bkL ps = bs := ⟨_, rfl⟩
  obtain ⟨A, hA⟩ : ∃ A, area2 ps = A := ⟨_, rfl⟩
  obtain ⟨t, ht⟩ : ∃ t, locE ps x y = t := ⟨_, rfl⟩
  have hul : us.length = ps.length := by rw [← hus]; exact shL_len ps m
  have hbl : bs.length = ps.length := by rw [← hbs]; exact bkL_len ps
  have hu0 : 0 < us.length := by omega
  have hu12 : us.length ≤ 12 := by omega
  have hb0 : 0 < bs.length := by omega
  have hb12 : bs.length ≤ 12 := by omega
  have hule : us.length ≤ 9223372036854775807 := by omega
  have hble : bs.length ≤ 9223372036854775807 := by omega
  have huv : AllV us := by rw [← hus]; exact shL_allv hv m
  have hbv : AllV bs := by rw [← hbs]; exact bkL_allv hv
  have hur := huv.allr2
  have HVU : Hid (validP us = true) := Lib.hid (by rw [← hus, shL_valid ps m h0]; exact HV.out)
  have HVB : Hid (validP bs = false) := Lib.hid (by rw [← hbs]; exact bkL_not ps h0 HV.out)
  have HA := Lib.hid hA
  have HAU : Hid (area2 us = A) := Lib.hid (by rw [← hus, shL_area ps m h0]; exact hA)
  have HAB : Hid (area2 bs = -A) := Lib.hid (by rw [← hbs, bkL_area ps h0, hA])
  have HL2 : Hid (locE ps x y = t) := Lib.hid ht
  have HL1 : Hid (locE us x y = t) := Lib.hid (by rw [← hus, shL_loc ps m x y h0]; exact ht)
  have hwA : IntKind.i64.wrap (-A) = -A := by have := area2_bd hv h0 h12; rw [hA] at this; rw [IntKind.wrap_i64]; omega
  have HUS := Lib.hid hus
  have HBS := Lib.hid hbs
  clear hus hbs hA ht hul hbl
  go_enter Tryd.func3, Tryd.ntmps3
  go_wp2_with fail
  refine (head_any _ (hT.alloc _)).mono ?_; rintro e w1 ⟨rfl, hb⟩
  have hX := blk_call (blk_new w (.cells #[.int .i64 x, .int .i64 y] 25) _ rfl) hb
  replace hB := belT (belA hB _) hb
  replace hP := prow_below (prow_alloc hP _) hb
  clear hb hT
  go_wp2_with fail
  refine (fits_is ao _ cap ps true _ rfl HF hle hP).mono ?_; rintro e w2 ⟨rfl, hb⟩
  replace hX := blk_call hX hb
  replace hB := belT hB hb
  replace hP := prow_below hP hb
  clear hb
  have x0 := blk_cell hX 0 _ rfl
  have x1 := blk_cell hX 1 _ rfl
  go_wp2_with fail
  refine (may_any x y true _ HM).mono ?_; rintro e w3 ⟨rfl, hb⟩
  replace hX := blk_call hX hb
  replace hB := belT hB hb
  replace hP := prow_below hP hb
  clear hb x0 x1
  go_wp2_with fail
  refine (round_is ao _ cap m ps us _ rfl HUS h0 (by omega) hm hP).mono ?_; rintro e w4 ⟨⟨g, c, rfl, hU⟩, hb⟩
  replace hX := blk_call hX hb
  replace hB := belT hB hb
  replace hP := prow_below hP hb
  clear hb
  go_wp2_with fail
  refine (back_is ao _ cap ps bs _ rfl HBS h0 (by omega) hP).mono ?_; rintro e w5 ⟨⟨g2, c2, rfl, hBk⟩, hb⟩
  replace hX := blk_call hX hb
  replace hB := belT hB hb
  replace hP := prow_below hP hb
  replace hU := prow_below hU hb
  clear hb HUS HBS
  go_wp2_with fail
  refine (valid_is (some ⟨g, 0, none⟩) us.length c us true _ rfl HVU hule hU).mono ?_; rintro e w10 ⟨rfl, hb⟩
  replace hB := belT hB hb
  replace hP := prow_below hP hb
  replace hU := prow_below hU hb
  replace hBk := prow_below hBk hb
  replace hX := blk_call hX hb
  clear hb
  go_wp2_with fail
  refine (valid_is ao ps.length cap ps true _ rfl HV hle hP).mono ?_; rintro e w11 ⟨rfl, hb⟩
  replace hB := belT hB hb
  replace hP := prow_below hP hb
  replace hU := prow_below hU hb
  replace hBk := prow_below hBk hb
  replace hX := blk_call hX hb
  clear hb
  go_wp2_with fail
  refine (area_at (some ⟨g, 0, none⟩) us.length c us A _ rfl HAU hu0 hu12 hU huv).mono ?_; rintro e w12 ⟨rfl, hb⟩
  replace hB := belT hB hb
  replace hP := prow_below hP hb
  replace hU := prow_below hU hb
  replace hBk := prow_below hBk hb
  replace hX := blk_call hX hb
  clear hb
  go_wp2_with fail
  refine (area_at ao ps.length cap ps A _ rfl HA h0 h12 hP hv).mono ?_; rintro e w13 ⟨rfl, hb⟩
  replace hB := belT hB hb
  replace hP := prow_below hP hb
  replace hU := prow_below hU hb
  replace hBk := prow_below hBk hb
  replace hX := blk_call hX hb
  clear hb
  go_wp2_with fail
  refine (area_at (some ⟨g2, 0, none⟩) bs.length c2 bs (-A) _ rfl HAB hb0 hb12 hBk hbv).mono ?_; rintro e w14 ⟨rfl, hb⟩
  replace hB := belT hB hb
  replace hP := prow_below hP hb
  replace hU := prow_below hU hb
  replace hBk := prow_below hBk hb
  replace hX := blk_call hX hb
  clear hb
  go_wp2_with fail
  refine (area_at ao ps.length cap ps A _ rfl HA h0 h12 hP hv).mono ?_; rintro e w15 ⟨rfl, hb⟩
  replace hB := belT hB hb
  replace hP := prow_below hP hb
  replace hU := prow_below hU hb
  replace hBk := prow_below hBk hb
  replace hX := blk_call hX hb
  clear hb
  go_wp2_with fail
  refine (valid_is ao ps.length cap ps true _ rfl HV hle hP).mono ?_; rintro e w16 ⟨rfl, hb⟩
  replace hB := belT hB hb
  replace hP := prow_below hP hb
  replace hU := prow_below hU hb
  replace hBk := prow_below hBk hb
  replace hX := blk_call hX hb
  clear hb
  go_wp2_with fail
  refine (valid_is (some ⟨g2, 0, none⟩) bs.length c2 bs false _ rfl HVB hble hBk).mono ?_; rintro e w17 ⟨rfl, hb⟩
  replace hB := belT hB hb
  replace hP := prow_below hP hb
  replace hU := prow_below hU hb
  replace hBk := prow_below hBk hb
  replace hX := blk_call hX hb
  clear hb
  have x0 := blk_cell hX 0 _ rfl
  have x1 := blk_cell hX 1 _ rfl
  have hPx := hP
  have hUx := hU
  have hBx := hB
  clear hP hU hB hBk hX HA HAU HAB HVU hwA
  go_upto_region 7 with fail
  obtain ⟨sp, hsp⟩ : ∃ sp : Told, sp = [none, none, none, none, none, none, some (.inl (.bool true)), none, none, none, none, none, none, none, none, none, none, none, none, none, none, none, none, none, none, none, none, none, none, none, none, none, none, none, none, none, none, none, none, none, none, none, none, none, none, none, none, none, none, none, none, none, none, none, none, none, none, none, some (.inl (.bool true)), some (.inl (.bool true)), some (.inl (.slice ao ps.length cap)), some (.inl (.bool true)), some (.inl (.bool false)), some (.inl (.bool false)), some (.inl (.slice (some ⟨g, 0, none⟩) us.length c)), some (.inl (.agg #[.int .i64 x, .int .i64 y])), some (.inl (.int .i64 t)), some (.inl (.slice ao ps.length cap)), some (.inl (.agg #[.int .i64 x, .int .i64 y])), some (.inl (.int .i64 t)), some (.inl (.bool true)), some (.inl (.bool true)), some (.inl (.bool true))] := ⟨_, rfl⟩
  have s6 : sp.getD 6 none = some (.inl (.bool true)) := by rw [hsp]; rfl
  have s58 : sp.getD 58 none = some (.inl (.bool true)) := by rw [hsp]; rfl
  have s59 : sp.getD 59 none = some (.inl (.bool true)) := by rw [hsp]; rfl
  have s60 : sp.getD 60 none = some (.inl (.slice ao ps.length cap)) := by rw [hsp]; rfl
  have s61 : sp.getD 61 none = some (.inl (.bool true)) := by rw [hsp]; rfl
  have s62 : sp.getD 62 none = some (.inl (.bool false)) := by rw [hsp]; rfl
  have s63 : sp.getD 63 none = some (.inl (.bool false)) := by rw [hsp]; rfl
  have s64 : sp.getD 64 none = some (.inl (.slice (some ⟨g, 0, none⟩) us.length c)) := by rw [hsp]; rfl
  have s65 : sp.getD 65 none = some (.inl (.agg #[.int .i64 x, .int .i64 y])) := by rw [hsp]; rfl
  have s66 : sp.getD 66 none = some (.inl (.int .i64 t)) := by rw [hsp]; rfl
  have s67 : sp.getD 67 none = some (.inl (.slice ao ps.length cap)) := by rw [hsp]; rfl
  have s68 : sp.getD 68 none = some (.inl (.agg #[.int .i64 x, .int .i64 y])) := by rw [hsp]; rfl
  have s69 : sp.getD 69 none = some (.inl (.int .i64 t)) := by rw [hsp]; rfl
  have s70 : sp.getD 70 none = some (.inl (.bool true)) := by rw [hsp]; rfl
  have s71 : sp.getD 71 none = some (.inl (.bool true)) := by rw [hsp]; rfl
  have s72 : sp.getD 72 none = some (.inl (.bool true)) := by rw [hsp]; rfl
  clear hsp
  refine region_obs sp (by kernel_rfl) (by kernel_rfl) ?_ ?_
  · rw [List.toList_toArray]
    refine obs_cons ?_ ?_
    · intro T wx K hB hF hD hK
      have g7 : T[7]? = some (.bool true) := hF 7 (free_of (by kernel_rfl))
      refine ob_yes (wanted_none rfl) ?_
      clear hF hD
      go_simp
      exact hK _ _ (Below.refl _ _) (rt_eq s58)
    refine obs_cons ?_ ?_
    · intro T wx K hB hF hD hK
      have g58 := get_eq (hD 0 58 (by simp [Region.binds]) (by kernel_rfl)) s58
      refine ob_yes (wanted_none rfl) ?_
      clear hF hD
      go_simp
      exact hK _ _ (Below.refl _ _) (rt_eq s59)
    refine obs_cons ?_ ?_
    · intro T wx K hB hF hD hK
      have g59 := get_eq (hD 1 59 (by simp [Region.binds]) (by kernel_rfl)) s59
      have g0 : T[0]? = some (.slice ao ps.length cap) := hF 0 (free_of (by kernel_rfl))
      refine ob_yes (wanted_yes rfl (by kernel_rfl) g59) ?_
      clear hF hD
      go_simp
      exact hK _ _ (Below.refl _ _) (rt_eq s60)
    refine obs_cons ?_ ?_
    · intro T wx K hB hF hD hK
      have g59 := get_eq (hD 1 59 (by simp [Region.binds]) (by kernel_rfl)) s59
      have g60 := get_eq (hD 2 60 (by simp [Region.binds]) (by kernel_rfl)) s60
      refine ob_yes (wanted_yes rfl (by kernel_rfl) g59) ?_
      clear hF hD
      go_simp
      refine (valid_is ao ps.length cap ps true _ rfl HV hle (prow_below hPx hB)).mono ?_; rintro e w9 ⟨rfl, hb⟩
      exact hK _ _ hb (rt_eq s61)
    refine obs_cons ?_ ?_
    · intro T wx K hB hF hD hK
      have g59 := get_eq (hD 1 59 (by simp [Region.binds]) (by kernel_rfl)) s59
      have g61 := get_eq (hD 3 61 (by simp [Region.binds]) (by kernel_rfl)) s61
      refine ob_yes (wanted_yes rfl (by kernel_rfl) g59) ?_
      clear hF hD
      go_simp
      exact hK _ _ (Below.refl _ _) (rt_eq s62)
    refine obs_cons ?_ ?_
    · intro T wx K hB hF hD hK
      have g59 := get_eq (hD 1 59 (by simp [Region.binds]) (by kernel_rfl)) s59
      have g62 := get_eq (hD 4 62 (by simp [Region.binds]) (by kernel_rfl)) s62
      refine ob_yes (wanted_yes rfl (by kernel_rfl) g59) ?_
      clear hF hD
      go_simp
      exact hK _ _ (Below.refl _ _) (rt_eq s63)
    refine obs_cons ?_ ?_
    · intro T wx K hB hF hD hK
      have g63 := get_eq (hD 5 63 (by simp [Region.binds]) (by kernel_rfl)) s63
      have g8 : T[8]? = some (.slice (some ⟨g, 0, none⟩) us.length c) := hF 8 (free_of (by kernel_rfl))
      refine ob_yes (wanted_yes rfl (by kernel_rfl) g63) ?_
      clear hF hD
      go_simp
      exact hK _ _ (Below.refl _ _) (rt_eq s64)
    refine obs_cons ?_ ?_
    · intro T wx K hB hF hD hK
      have g63 := get_eq (hD 5 63 (by simp [Region.binds]) (by kernel_rfl)) s63
      have g5 : T[5]? = some (.pointer (some ⟨w.heap.size, 0, none⟩)) := hF 5 (free_of (by kernel_rfl))
      refine ob_yes (wanted_yes rfl (by kernel_rfl) g63) ?_
      clear hF hD
      have c0 := cell_call x0 hB
      have c1 := cell_call x1 hB
      go_simp
      exact hK _ _ (Below.refl _ _) (rt_eq s65)
    refine obs_cons ?_ ?_
    · intro T wx K hB hF hD hK
      have g63 := get_eq (hD 5 63 (by simp [Region.binds]) (by kernel_rfl)) s63
      have g64 := get_eq (hD 6 64 (by simp [Region.binds]) (by kernel_rfl)) s64
      have g65 := get_eq (hD 7 65 (by simp [Region.binds]) (by kernel_rfl)) s65
      refine ob_yes (wanted_yes rfl (by kernel_rfl) g63) ?_
      clear hF hD
      go_simp
      refine (locate_at (some ⟨g, 0, none⟩) us.length c us x y t _ rfl HL1 hu0 hu12 (prow_below hUx hB) hur ix iy).mono ?_; rintro e w9 ⟨rfl, hb⟩
      exact hK _ _ hb (rt_eq s66)
    refine obs_cons ?_ ?_
    · intro T wx K hB hF hD hK
      have g63 := get_eq (hD 5 63 (by simp [Region.binds]) (by kernel_rfl)) s63
      have g0 : T[0]? = some (.slice ao ps.length cap) := hF 0 (free_of (by kernel_rfl))
      refine ob_yes (wanted_yes rfl (by kernel_rfl) g63) ?_
      clear hF hD
      go_simp
      exact hK _ _ (Below.refl _ _) (rt_eq s67)
    refine obs_cons ?_ ?_
    · intro T wx K hB hF hD hK
      have g63 := get_eq (hD 5 63 (by simp [Region.binds]) (by kernel_rfl)) s63
      have g5 : T[5]? = some (.pointer (some ⟨w.heap.size, 0, none⟩)) := hF 5 (free_of (by kernel_rfl))
      refine ob_yes (wanted_yes rfl (by kernel_rfl) g63) ?_
      clear hF hD
      have c0 := cell_call x0 hB
      have c1 := cell_call x1 hB
      go_simp
      exact hK _ _ (Below.refl _ _) (rt_eq s68)
    refine obs_cons ?_ ?_
    · intro T wx K hB hF hD hK
      have g63 := get_eq (hD 5 63 (by simp [Region.binds]) (by kernel_rfl)) s63
      have g67 := get_eq (hD 9 67 (by simp [Region.binds]) (by kernel_rfl)) s67
      have g68 := get_eq (hD 10 68 (by simp [Region.binds]) (by kernel_rfl)) s68
      refine ob_yes (wanted_yes rfl (by kernel_rfl) g63) ?_
      clear hF hD
      go_simp
      refine (locate_at ao ps.length cap ps x y t _ rfl HL2 h0 h12 (prow_below hPx hB) hvr ix iy).mono ?_; rintro e w9 ⟨rfl, hb⟩
      exact hK _ _ hb (rt_eq s69)
    refine obs_cons ?_ ?_
    · intro T wx K hB hF hD hK
      have g63 := get_eq (hD 5 63 (by simp [Region.binds]) (by kernel_rfl)) s63
      have g66 := get_eq (hD 8 66 (by simp [Region.binds]) (by kernel_rfl)) s66
      have g69 := get_eq (hD 11 69 (by simp [Region.binds]) (by kernel_rfl)) s69
      refine ob_yes (wanted_yes rfl (by kernel_rfl) g63) ?_
      clear hF hD
      go_simp
      exact hK _ _ (Below.refl _ _) (rt_eq s70)
    refine obs_cons ?_ ?_
    · intro T wx K hB hF hD hK
      have g59 := get_eq (hD 1 59 (by simp [Region.binds]) (by kernel_rfl)) s59
      have g63 := get_eq (hD 5 63 (by simp [Region.binds]) (by kernel_rfl)) s63
      have g70 := get_eq (hD 12 70 (by simp [Region.binds]) (by kernel_rfl)) s70
      refine ob_yes (wanted_yes rfl (by kernel_rfl) g59) ?_
      clear hF hD
      go_simp
      exact hK _ _ (Below.refl _ _) (rt_eq s71)
    refine obs_cons ?_ ?_
    · intro T wx K hB hF hD hK
      have g59 := get_eq (hD 1 59 (by simp [Region.binds]) (by kernel_rfl)) s59
      have g71 := get_eq (hD 13 71 (by simp [Region.binds]) (by kernel_rfl)) s71
      refine ob_yes (wanted_none rfl) ?_
      clear hF hD
      go_simp
      exact hK _ _ (Below.refl _ _) (rt_eq s72)
    refine obs_cons ?_ ?_
    · intro T wx K hB hF hD hK
      have g72 := get_eq (hD 14 72 (by simp [Region.binds]) (by kernel_rfl)) s72
      refine ob_yes (wanted_none rfl) ?_
      clear hF hD
      go_simp
      exact hK _ _ (Below.refl _ _) (rt_eq s6)
    exact obs_nil
  · intro T w' hb hF hs hD
    have g6 := get_eq (hD 15 6 (by kernel_rfl)) s6
    have fin := Lib.hid (hBx.trans (hb.mono hBx.size))
    clear hF hD hs hb
    go_wp2_with fail
    refine bodyPost_ret (v := .bool true) (by simp [results, Tryd.f3, go_sem, g6]) rfl ?_
    exact ⟨rfl, fin.out⟩

set_option maxRecDepth 100000 in
set_option maxHeartbeats 8000000 in
theorem walk_false {w : World} (ao : Option Addr) (cap m : Nat) (ps : List (Int × Int)) (hle : ps.length ≤ 9223372036854775807) (hP : PRow w ao ps) (hm : m ≤ 255) (x y : Int) (hT : Rot.Tab w) (h0 : 0 < ps.length) (h12 : ps.length ≤ 12) (hv : AllV ps) (jx : InV x) (jy : InV y) (HV : Hid (validP ps = false)) :
    Calls Tryd.prog 3 #[.slice ao ps.length cap, .int .u8 (m : Int), .agg #[.int .i64 x, .int .i64 y]] w fun e w' => e = .returned (.bool true) ∧ Below w.heap.size w w' := by
  have hB : Below w.heap.size w w := Below.refl _ _
  have HF : Hid (fitsB ps = true) := Lib.hid ((fitsB_iff ps).2 ⟨h12, hv⟩)
  have HM : Hid (mayB x y = true) := Lib.hid ((mayB_iff x y).2 ⟨jx, jy⟩)
  have hne : ((ps.length : Int) == 0) = false := by rw [beq_eq_false_iff_ne]; omega
  have hpe : ¬ ps = [] := fun e => by rw [e] at h0; simp at h0
  have ix := jx.inr
  have iy := jy.inr
  have hvr := hv.allr2
  obtain ⟨us, hus⟩ : ∃ us, shL ps m = us := ⟨_, rfl⟩
  obtain ⟨bs, hbs⟩ : ∃ bs, bkL ps = bs := ⟨_, rfl⟩
  obtain ⟨A, hA⟩ : ∃ A, area2 ps = A := ⟨_, rfl⟩
  obtain ⟨t, ht⟩ : ∃ t, locE ps x y = t := ⟨_, rfl⟩
  have hul : us.length = ps.length := by rw [← hus]; exact shL_len ps m
  have hbl : bs.length = ps.length := by rw [← hbs]; exact bkL_len ps
  have hu0 : 0 < us.length := by omega
  have hu12 : us.length ≤ 12 := by omega
  have hb0 : 0 < bs.length := by omega
  have hb12 : bs.length ≤ 12 := by omega
  have hule : us.length ≤ 9223372036854775807 := by omega
  have hble : bs.length ≤ 9223372036854775807 := by omega
  have huv : AllV us := by rw [← hus]; exact shL_allv hv m
  have hbv : AllV bs := by rw [← hbs]; exact bkL_allv hv
  have hur := huv.allr2
  have HVU : Hid (validP us = false) := Lib.hid (by rw [← hus, shL_valid ps m h0]; exact HV.out)

  have HA := Lib.hid hA
  have HAU : Hid (area2 us = A) := Lib.hid (by rw [← hus, shL_area ps m h0]; exact hA)
  have HAB : Hid (area2 bs = -A) := Lib.hid (by rw [← hbs, bkL_area ps h0, hA])
  have HL2 : Hid (locE ps x y = t) := Lib.hid ht
  have HL1 : Hid (locE us x y = t) := Lib.hid (by rw [← hus, shL_loc ps m x y h0]; exact ht)
  have hwA : IntKind.i64.wrap (-A) = -A := by have := area2_bd hv h0 h12; rw [hA] at this; rw [IntKind.wrap_i64]; omega
  have HUS := Lib.hid hus
  have HBS := Lib.hid hbs
  clear hus hbs hA ht hul hbl
  go_enter Tryd.func3, Tryd.ntmps3
  go_wp2_with fail
  refine (head_any _ (hT.alloc _)).mono ?_; rintro e w1 ⟨rfl, hb⟩
  have hX := blk_call (blk_new w (.cells #[.int .i64 x, .int .i64 y] 25) _ rfl) hb
  replace hB := belT (belA hB _) hb
  replace hP := prow_below (prow_alloc hP _) hb
  clear hb hT
  go_wp2_with fail
  refine (fits_is ao _ cap ps true _ rfl HF hle hP).mono ?_; rintro e w2 ⟨rfl, hb⟩
  replace hX := blk_call hX hb
  replace hB := belT hB hb
  replace hP := prow_below hP hb
  clear hb
  have x0 := blk_cell hX 0 _ rfl
  have x1 := blk_cell hX 1 _ rfl
  go_wp2_with fail
  refine (may_any x y true _ HM).mono ?_; rintro e w3 ⟨rfl, hb⟩
  replace hX := blk_call hX hb
  replace hB := belT hB hb
  replace hP := prow_below hP hb
  clear hb x0 x1
  go_wp2_with fail
  refine (round_is ao _ cap m ps us _ rfl HUS h0 (by omega) hm hP).mono ?_; rintro e w4 ⟨⟨g, c, rfl, hU⟩, hb⟩
  replace hX := blk_call hX hb
  replace hB := belT hB hb
  replace hP := prow_below hP hb
  clear hb
  go_wp2_with fail
  refine (back_is ao _ cap ps bs _ rfl HBS h0 (by omega) hP).mono ?_; rintro e w5 ⟨⟨g2, c2, rfl, hBk⟩, hb⟩
  replace hX := blk_call hX hb
  replace hB := belT hB hb
  replace hP := prow_below hP hb
  replace hU := prow_below hU hb
  clear hb HUS HBS
  go_wp2_with fail
  refine (valid_is (some ⟨g, 0, none⟩) us.length c us false _ rfl HVU hule hU).mono ?_; rintro e w10 ⟨rfl, hb⟩
  replace hB := belT hB hb
  replace hP := prow_below hP hb
  replace hU := prow_below hU hb
  replace hBk := prow_below hBk hb
  replace hX := blk_call hX hb
  clear hb
  go_wp2_with fail
  refine (valid_is ao ps.length cap ps false _ rfl HV hle hP).mono ?_; rintro e w11 ⟨rfl, hb⟩
  replace hB := belT hB hb
  replace hP := prow_below hP hb
  replace hU := prow_below hU hb
  replace hBk := prow_below hBk hb
  replace hX := blk_call hX hb
  clear hb
  go_wp2_with fail
  refine (area_at (some ⟨g, 0, none⟩) us.length c us A _ rfl HAU hu0 hu12 hU huv).mono ?_; rintro e w12 ⟨rfl, hb⟩
  replace hB := belT hB hb
  replace hP := prow_below hP hb
  replace hU := prow_below hU hb
  replace hBk := prow_below hBk hb
  replace hX := blk_call hX hb
  clear hb
  go_wp2_with fail
  refine (area_at ao ps.length cap ps A _ rfl HA h0 h12 hP hv).mono ?_; rintro e w13 ⟨rfl, hb⟩
  replace hB := belT hB hb
  replace hP := prow_below hP hb
  replace hU := prow_below hU hb
  replace hBk := prow_below hBk hb
  replace hX := blk_call hX hb
  clear hb
  go_wp2_with fail
  refine (area_at (some ⟨g2, 0, none⟩) bs.length c2 bs (-A) _ rfl HAB hb0 hb12 hBk hbv).mono ?_; rintro e w14 ⟨rfl, hb⟩
  replace hB := belT hB hb
  replace hP := prow_below hP hb
  replace hU := prow_below hU hb
  replace hBk := prow_below hBk hb
  replace hX := blk_call hX hb
  clear hb
  go_wp2_with fail
  refine (area_at ao ps.length cap ps A _ rfl HA h0 h12 hP hv).mono ?_; rintro e w15 ⟨rfl, hb⟩
  replace hB := belT hB hb
  replace hP := prow_below hP hb
  replace hU := prow_below hU hb
  replace hBk := prow_below hBk hb
  replace hX := blk_call hX hb
  clear hb
  go_wp2_with fail
  refine (valid_is ao ps.length cap ps false _ rfl HV hle hP).mono ?_; rintro e w16 ⟨rfl, hb⟩
  replace hB := belT hB hb
  replace hP := prow_below hP hb
  replace hU := prow_below hU hb
  replace hBk := prow_below hBk hb
  replace hX := blk_call hX hb
  clear hb
  have x0 := blk_cell hX 0 _ rfl
  have x1 := blk_cell hX 1 _ rfl
  have hPx := hP
  have hUx := hU
  have hBx := hB
  clear hP hU hB hBk hX HA HAU HAB HVU hwA
  go_upto_region 7 with fail
  obtain ⟨sp, hsp⟩ : ∃ sp : Told, sp = [none, none, none, none, none, none, some (.inl (.bool true)), none, none, none, none, none, none, none, none, none, none, none, none, none, none, none, none, none, none, none, none, none, none, none, none, none, none, none, none, none, none, none, none, none, none, none, none, none, none, none, none, none, none, none, none, none, none, none, none, none, none, none, some (.inl (.bool true)), some (.inl (.bool true)), some (.inl (.slice ao ps.length cap)), some (.inl (.bool false)), some (.inl (.bool true)), some (.inl (.bool true)), none, none, none, none, none, none, none, some (.inl (.bool true)), some (.inl (.bool true))] := ⟨_, rfl⟩
  have s6 : sp.getD 6 none = some (.inl (.bool true)) := by rw [hsp]; rfl
  have s58 : sp.getD 58 none = some (.inl (.bool true)) := by rw [hsp]; rfl
  have s59 : sp.getD 59 none = some (.inl (.bool true)) := by rw [hsp]; rfl
  have s60 : sp.getD 60 none = some (.inl (.slice ao ps.length cap)) := by rw [hsp]; rfl
  have s61 : sp.getD 61 none = some (.inl (.bool false)) := by rw [hsp]; rfl
  have s62 : sp.getD 62 none = some (.inl (.bool true)) := by rw [hsp]; rfl
  have s63 : sp.getD 63 none = some (.inl (.bool true)) := by rw [hsp]; rfl
  have s64 : sp.getD 64 none = none := by rw [hsp]; rfl
  have s65 : sp.getD 65 none = none := by rw [hsp]; rfl
  have s66 : sp.getD 66 none = none := by rw [hsp]; rfl
  have s67 : sp.getD 67 none = none := by rw [hsp]; rfl
  have s68 : sp.getD 68 none = none := by rw [hsp]; rfl
  have s69 : sp.getD 69 none = none := by rw [hsp]; rfl
  have s70 : sp.getD 70 none = none := by rw [hsp]; rfl
  have s71 : sp.getD 71 none = some (.inl (.bool true)) := by rw [hsp]; rfl
  have s72 : sp.getD 72 none = some (.inl (.bool true)) := by rw [hsp]; rfl
  clear hsp
  refine region_obs sp (by kernel_rfl) (by kernel_rfl) ?_ ?_
  · rw [List.toList_toArray]
    refine obs_cons ?_ ?_
    · intro T wx K hB hF hD hK
      have g7 : T[7]? = some (.bool true) := hF 7 (free_of (by kernel_rfl))
      refine ob_yes (wanted_none rfl) ?_
      clear hF hD
      go_simp
      exact hK _ _ (Below.refl _ _) (rt_eq s58)
    refine obs_cons ?_ ?_
    · intro T wx K hB hF hD hK
      have g58 := get_eq (hD 0 58 (by simp [Region.binds]) (by kernel_rfl)) s58
      refine ob_yes (wanted_none rfl) ?_
      clear hF hD
      go_simp
      exact hK _ _ (Below.refl _ _) (rt_eq s59)
    refine obs_cons ?_ ?_
    · intro T wx K hB hF hD hK
      have g59 := get_eq (hD 1 59 (by simp [Region.binds]) (by kernel_rfl)) s59
      have g0 : T[0]? = some (.slice ao ps.length cap) := hF 0 (free_of (by kernel_rfl))
      refine ob_yes (wanted_yes rfl (by kernel_rfl) g59) ?_
      clear hF hD
      go_simp
      exact hK _ _ (Below.refl _ _) (rt_eq s60)
    refine obs_cons ?_ ?_
    · intro T wx K hB hF hD hK
      have g59 := get_eq (hD 1 59 (by simp [Region.binds]) (by kernel_rfl)) s59
      have g60 := get_eq (hD 2 60 (by simp [Region.binds]) (by kernel_rfl)) s60
      refine ob_yes (wanted_yes rfl (by kernel_rfl) g59) ?_
      clear hF hD
      go_simp
      refine (valid_is ao ps.length cap ps false _ rfl HV hle (prow_below hPx hB)).mono ?_; rintro e w9 ⟨rfl, hb⟩
      exact hK _ _ hb (rt_eq s61)
    refine obs_cons ?_ ?_
    · intro T wx K hB hF hD hK
      have g59 := get_eq (hD 1 59 (by simp [Region.binds]) (by kernel_rfl)) s59
      have g61 := get_eq (hD 3 61 (by simp [Region.binds]) (by kernel_rfl)) s61
      refine ob_yes (wanted_yes rfl (by kernel_rfl) g59) ?_
      clear hF hD
      go_simp
      exact hK _ _ (Below.refl _ _) (rt_eq s62)
    refine obs_cons ?_ ?_
    · intro T wx K hB hF hD hK
      have g59 := get_eq (hD 1 59 (by simp [Region.binds]) (by kernel_rfl)) s59
      have g62 := get_eq (hD 4 62 (by simp [Region.binds]) (by kernel_rfl)) s62
      refine ob_yes (wanted_yes rfl (by kernel_rfl) g59) ?_
      clear hF hD
      go_simp
      exact hK _ _ (Below.refl _ _) (rt_eq s63)
    refine obs_cons ?_ ?_
    · intro T wx K hB hF hD hK
      have g63 := get_eq (hD 5 63 (by simp [Region.binds]) (by kernel_rfl)) s63
      refine ob_no (wanted_no rfl (by kernel_rfl) g63 rfl) ?_
      exact hK _ _ (Below.refl _ _) (rt_any s64)
    refine obs_cons ?_ ?_
    · intro T wx K hB hF hD hK
      have g63 := get_eq (hD 5 63 (by simp [Region.binds]) (by kernel_rfl)) s63
      refine ob_no (wanted_no rfl (by kernel_rfl) g63 rfl) ?_
      exact hK _ _ (Below.refl _ _) (rt_any s65)
    refine obs_cons ?_ ?_
    · intro T wx K hB hF hD hK
      have g63 := get_eq (hD 5 63 (by simp [Region.binds]) (by kernel_rfl)) s63
      refine ob_no (wanted_no rfl (by kernel_rfl) g63 rfl) ?_
      exact hK _ _ (Below.refl _ _) (rt_any s66)
    refine obs_cons ?_ ?_
    · intro T wx K hB hF hD hK
      have g63 := get_eq (hD 5 63 (by simp [Region.binds]) (by kernel_rfl)) s63
      refine ob_no (wanted_no rfl (by kernel_rfl) g63 rfl) ?_
      exact hK _ _ (Below.refl _ _) (rt_any s67)
    refine obs_cons ?_ ?_
    · intro T wx K hB hF hD hK
      have g63 := get_eq (hD 5 63 (by simp [Region.binds]) (by kernel_rfl)) s63
      refine ob_no (wanted_no rfl (by kernel_rfl) g63 rfl) ?_
      exact hK _ _ (Below.refl _ _) (rt_any s68)
    refine obs_cons ?_ ?_
    · intro T wx K hB hF hD hK
      have g63 := get_eq (hD 5 63 (by simp [Region.binds]) (by kernel_rfl)) s63
      refine ob_no (wanted_no rfl (by kernel_rfl) g63 rfl) ?_
      exact hK _ _ (Below.refl _ _) (rt_any s69)
    refine obs_cons ?_ ?_
    · intro T wx K hB hF hD hK
      have g63 := get_eq (hD 5 63 (by simp [Region.binds]) (by kernel_rfl)) s63
      refine ob_no (wanted_no rfl (by kernel_rfl) g63 rfl) ?_
      exact hK _ _ (Below.refl _ _) (rt_any s70)
    refine obs_cons ?_ ?_
    · intro T wx K hB hF hD hK
      have g59 := get_eq (hD 1 59 (by simp [Region.binds]) (by kernel_rfl)) s59
      have g63 := get_eq (hD 5 63 (by simp [Region.binds]) (by kernel_rfl)) s63
      refine ob_yes (wanted_yes rfl (by kernel_rfl) g59) ?_
      clear hF hD
      go_simp
      exact hK _ _ (Below.refl _ _) (rt_eq s71)
    refine obs_cons ?_ ?_
    · intro T wx K hB hF hD hK
      have g59 := get_eq (hD 1 59 (by simp [Region.binds]) (by kernel_rfl)) s59
      have g71 := get_eq (hD 13 71 (by simp [Region.binds]) (by kernel_rfl)) s71
      refine ob_yes (wanted_none rfl) ?_
      clear hF hD
      go_simp
      exact hK _ _ (Below.refl _ _) (rt_eq s72)
    refine obs_cons ?_ ?_
    · intro T wx K hB hF hD hK
      have g72 := get_eq (hD 14 72 (by simp [Region.binds]) (by kernel_rfl)) s72
      refine ob_yes (wanted_none rfl) ?_
      clear hF hD
      go_simp
      exact hK _ _ (Below.refl _ _) (rt_eq s6)
    exact obs_nil
  · intro T w' hb hF hs hD
    have g6 := get_eq (hD 15 6 (by kernel_rfl)) s6
    have fin := Lib.hid (hBx.trans (hb.mono hBx.size))
    clear hF hD hs hb
    go_wp2_with fail
    refine bodyPost_ret (v := .bool true) (by simp [results, Tryd.f3, go_sem, g6]) rfl ?_
    exact ⟨rfl, fin.out⟩

set_option maxRecDepth 100000 in
set_option maxHeartbeats 4000000 in
theorem walk {w : World} (ao : Option Addr) (cap : Nat) (ps : List (Int × Int)) (hle : ps.length ≤ 9223372036854775807) (hP : PRow w ao ps) (a : Int) (ha : (Lit.int .u8 a).wf = true) (x y : Int) (hT : Rot.Tab w) :
    Calls Tryd.prog 3 #[.slice ao ps.length cap, .int .u8 a, .agg #[.int .i64 x, .int .i64 y]] w fun e w' => e = .returned (.bool true) ∧ Below w.heap.size w w' := by
  obtain ⟨m, hm, rfl⟩ : ∃ m : Nat, m ≤ 255 ∧ a = (m : Int) := by
    have hh : IntKind.u8.min ≤ a ∧ a ≤ IntKind.u8.max := by simpa [Lit.wf] using ha
    have e1 : IntKind.u8.min = 0 := by decide
    have e2 : IntKind.u8.max = 255 := by decide
    rw [e1, e2] at hh
    exact ⟨a.toNat, by omega, by omega⟩
  clear ha
  have hB : Below w.heap.size w w := Below.refl _ _
  by_cases hf : fitsB ps = true
  · obtain ⟨h12, hv⟩ := (fitsB_iff ps).1 hf
    have HF := Lib.hid hf
    by_cases h0 : 0 < ps.length
    · by_cases hm' : mayB x y = true
      · obtain ⟨ix, iy⟩ := (mayB_iff x y).1 hm'
        by_cases hval : validP ps = true
        · exact walk_true ao cap m ps hle hP hm x y hT h0 h12 hv ix iy (Lib.hid hval)
        · exact walk_false ao cap m ps hle hP hm x y hT h0 h12 hv ix iy (Lib.hid (by simpa using hval))
      · have HM : Hid (mayB x y = false) := Lib.hid (by simpa using hm')
        have hne : ((ps.length : Int) == 0) = false := by rw [beq_eq_false_iff_ne]; omega
        have hpe : ¬ ps = [] := fun e => by rw [e] at h0; simp at h0
        clear hm' hf
        go_enter Tryd.func3, Tryd.ntmps3
        go_wp2_with fail
        refine (head_any _ (hT.alloc _)).mono ?_; rintro e w1 ⟨rfl, hb⟩
        have hX := blk_call (blk_new w (.cells #[.int .i64 x, .int .i64 y] 25) _ rfl) hb
        replace hB := belT (belA hB _) hb
        replace hP := prow_below (prow_alloc hP _) hb
        clear hb hT
        go_wp2_with fail
        refine (fits_is ao _ cap ps true _ rfl HF hle hP).mono ?_; rintro e w2 ⟨rfl, hb⟩
        replace hX := blk_call hX hb
        replace hB := belT hB hb
        clear hb hP
        have x0 := blk_cell hX 0 _ rfl
        have x1 := blk_cell hX 1 _ rfl
        go_wp2_with fail
        refine (may_any x y false _ HM).mono ?_; rintro e w3 ⟨rfl, hb⟩
        replace hB := belT hB hb
        clear hb x0 x1 hX
        go_wp2_with fail
        go_ret
        exact ⟨rfl, hB⟩
    · obtain rfl : ps = [] := List.eq_nil_of_length_eq_zero (by omega)
      clear hf h0
      go_enter Tryd.func3, Tryd.ntmps3
      go_wp2_with fail
      refine (head_any _ (hT.alloc _)).mono ?_; rintro e w1 ⟨rfl, hb⟩
      replace hB := belT (belA hB _) hb
      replace hP := prow_below (prow_alloc hP _) hb
      clear hb hT
      go_wp2_with fail
      refine (fits_is ao _ cap [] true _ rfl HF (by simp) hP).mono ?_; rintro e w2 ⟨rfl, hb⟩
      replace hB := belT hB hb
      clear hb hP
      go_wp2_with fail
      go_ret
      exact ⟨rfl, hB⟩
  · have HF : Hid (fitsB ps = false) := Lib.hid (by simpa using hf)
    clear hf
    go_enter Tryd.func3, Tryd.ntmps3
    go_wp2_with fail
    refine (head_any _ (hT.alloc _)).mono ?_; rintro e w1 ⟨rfl, hb⟩
    replace hB := belT (belA hB _) hb
    replace hP := prow_below (prow_alloc hP _) hb
    clear hb hT
    go_wp2_with fail
    refine (fits_is ao _ cap ps false _ rfl HF hle hP).mono ?_; rintro e w2 ⟨rfl, hb⟩
    replace hB := belT hB hb
    clear hb hP
    go_wp2_with fail
    go_ret
    exact ⟨rfl, hB⟩

set_option maxRecDepth 100000 in
theorem lifted (os : Os) (started : os.Started) (H : Type) (enc : TypeId × Value → H) :
    ReturnsInHanded {} Tryd.checked os 3 .any (fun w args => (Rows.polygonInvariantUnderCyclicShiftSpec.pre enc Tryd.prog Tryd.f3 [] false w args ∧ laidMetH Tryd.prog Rows.polygonInvariantUnderCyclicShiftRow.laid w) ∧ sizedMet enc Tryd.prog Tryd.f3 (OpenSpec.ofChange Rows.polygonInvariantUnderCyclicShiftSpec) false w args)
      (Rows.polygonInvariantUnderCyclicShiftSpec.post enc Tryd.prog Tryd.f3 false true false false) := by
  refine returnsInHanded_of_change_and (C := Tryd.checked) (X := fun w _ => laidMetH Tryd.prog Rows.polygonInvariantUnderCyclicShiftRow.laid w) (fun _ _ _ hh h => h.of_heap hh) Rot.own started (by kernel_rfl) Tryd.func3
    (ChangeSpec.witness_shaped (enc := enc) (C := Tryd.checked) (os := os) (X := fun w _ => laidMetH Tryd.prog Rows.polygonInvariantUnderCyclicShiftRow.laid w) false (World.doorLaid Tryd.prog 600 os) #[.slice none 0 0, .int .u8 0, .agg #[.int .i64 0, .int .i64 0]] 8 rfl (World.shaped_of_RefB (by kernel_rfl) (by kernel_rfl)) (by kernel_rfl) (by kernel_rfl) (by kernel_rfl) (show laidMetH Tryd.prog [(Rot.qn, Rows.laid_ambidexter_rotation_quadrant)] _ from Rot.door_met os _)) ?_
  intro W base args ds gs before hval0 hW _ _ hL _
  have hval : ∀ (j : Nat) t v, Tryd.f3.params[j]? = some t → args[j]? = some v → Value.okWide Tryd.prog W .any base t v := hval0
  have hW' := hW
  obtain ⟨p, q, hA0, hV, rfl, hfz, hnd⟩ := hW
  have hA : DataW.TrodAll enc Tryd.prog W 0 (fun _ => true) true Tryd.f3.params.toList args.toList ds p := hA0
  rw [Tryd.params3] at hA hval
  obtain ⟨v0, vs0, d0, ds0, p0, q0, hargs, rfl, rfl, h0, r0⟩ := trodAll_cons hA
  obtain ⟨v1, vs1, d1, ds1, p1, q1, rfl, rfl, rfl, h1, r1⟩ := trodAll_cons r0
  obtain ⟨v2, vs2, d2, ds2, p2, q2, rfl, rfl, rfl, h2, r2⟩ := trodAll_cons r1
  obtain ⟨rfl, rfl, rfl⟩ := trodAll_nil r2
  obtain rfl : args = #[v0, v1, v2] := by cases args; simp_all
  obtain ⟨rfl, rfl⟩ := trodVars_none hV
  have k0 := h0
  have lt0 : ∀ x ∈ p0, x.block < W.heap.size := by obtain ⟨m, hm⟩ := k0; exact DataW.trod_lt m _ _ _ hm
  obtain ⟨a0, cap0, l0, rfl, n0, w0⟩ := Fr.open_pts (hval 0 23 v0 rfl rfl) h0
  obtain ⟨a1, rfl, rfl, rfl, w1⟩ := open_int Tryd.underlying5 (hval 1 5 v1 rfl rfl) h1
  have k2 := h2
  have lt2 : ∀ x ∈ p2, x.block < W.heap.size := by obtain ⟨m, hm⟩ := k2; exact DataW.trod_lt m _ _ _ hm
  obtain ⟨x2, y2, rfl⟩ := Fr.open_pt (hval 2 25 v2 rfl rfl) h2
  clear hA0 hval0
  simp only [List.append_nil] at hW'
  refine (walk a0 cap0 l0 n0 w0 a1 w1 x2 y2 (Rot.tab_of_laid hL)).mono fun e W' ⟨he, bel⟩ => ?_
  subst he
  exact ⟨_, rfl, _, _, _, [], _, [], hW', trodAll_mk1 (shut_bool Tryd.underlying4 _), (trodAll_cons_mk (Below.trod Fr.laidOut (by kernel_rfl) (of_decide_eq_true (by kernel_rfl)) k0 bel lt0) (trodAll_cons_mk (shut_int Tryd.underlying5 w1) (trodAll_cons_mk (Below.trod Fr.laidOut (by kernel_rfl) (of_decide_eq_true (by kernel_rfl)) k2 bel lt2) trodAll_mk0))), rfl, bel.frame _, fun h => by cases h⟩

theorem holds : Rows.PolygonInvariantUnderCyclicShiftSaid :=
  OpenClaim.holds_of_wide 3 Tryd.f3 rfl rfl rfl rfl rfl rfl rfl ⟨rfl, rfl, rfl, rfl, rfl⟩ rfl rfl rfl rfl rfl (by kernel_rfl) Tryd.func3 (by kernel_rfl)
    (of_decide_eq_true (by kernel_rfl)) (by unfold Func.isWrapper; first | (rw [if_pos (by decide +kernel)]; kernel_rfl) | (rw [if_neg (by decide +kernel)]; exact ⟨rfl, rfl⟩))
    (fun os started H enc _ => lifted os started H enc)

/-- THE STATEMENT: the tied card. -/
theorem card_holds : Rows.PolygonInvariantUnderCyclicShiftCardSaid :=
  Claim7.holds_tied_plain_at .later [] [.data] true Rows.polygonInvariantUnderCyclicShiftCard.stood.harness false
    holds (fun _ h => by cases h) (by kernel_rfl) (fun _ h => by cases h) polygonInvariantUnderCyclicShift_row_tie rfl ⟨rfl, rfl⟩ (by kernel_rfl) rfl
    (fun f fn hf hfn => by
      obtain rfl : f = 3 := Option.some.inj ((show Tryd.prog.funcNamed Rows.polygonInvariantUnderCyclicShiftRow.func = some 3 by kernel_rfl).symm.trans hf) |>.symm
      obtain rfl : fn = Tryd.f3 := (Option.some.inj (Tryd.func3.symm.trans hfn)).symm
      exact ⟨by kernel_rfl, fun j t ht => by
        rw [Tryd.params3] at ht
        have hm : t ∈ [23, 5, 25] := by have := Array.mem_of_getElem? ht; simp only [List.mem_toArray, List.mem_cons, List.not_mem_nil, or_false] at this ⊢; grind
        have hall : ([23, 5, 25].all fun u => !Tryd.prog.wantsStandIn u) = true := by kernel_rfl
        exact (show Tryd.prog.wantsStandIn t = false by simpa using List.all_eq_true.1 hall t hm)⟩)
    (by kernel_rfl)
#print axioms card_holds
end Go.Proofs.YthmcejeeohlafaaDoor.polygonInvariantUnderCyclicShift
