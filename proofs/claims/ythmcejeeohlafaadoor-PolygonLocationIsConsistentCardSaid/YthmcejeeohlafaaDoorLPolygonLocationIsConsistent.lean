/- Proved: in a valid polygon each corner is on the boundary, a segment from an interior point to a point that is not interior meets an edge, and what lies above or to the right of all corners lies outside (the law PolygonLocationIsConsistent returns true).
Conditions: none on the arguments: for every polygon and every two points. The table of package rotation lies as the program text lays it (the card ties it). -/
import Derived.Test.YthmcejeeohlafaaDoorPolN
import Derived.Test.YthmcejeeohlafaaDoorPolQ
import Derived.Test.YthmcejeeohlafaaDoorPolX
import Derived.Test.YthmcejeeohlafaaDoorPolFr
import Derived.Test.YthmcejeeohlafaaDoorTie
import Derived.Test.YthmcejeeohlafaaDoorCards
import Derived.SevenTiedAt
import Derived.Deep.DeepCutAuto
namespace Go.Proofs.YthmcejeeohlafaaDoor.polygonLocationIsConsistent
open Go.ChangeShapes Go.WideShapes Go.ChangeAt Go.RowKit
set_option linter.unusedVariables false
set_option linter.unusedSimpArgs false

def mxK (f : Nat → Int) : Nat → Int
  | 0 => f 0
  | k + 1 => mxI (mxK f k) (f k)
theorem mxK_ge (f : Nat → Int) : ∀ k i, i < k → f i ≤ mxK f k
  | 0, i, h => by omega
  | k + 1, i, h => by
    have b := mxI_bd (mxK f k) (f k)
    show f i ≤ mxI (mxK f k) (f k)
    by_cases e : i = k
    · subst e; exact b.1.2
    · exact Int.le_trans (mxK_ge f k i (by omega)) b.1.1
def segX (ps : List (Int × Int)) (x1 x2 y1 y2 : Int) (i : Nat) : Bool := segB (cx ps i) (cy ps i) (cx ps (nx ps.length i)) (cy ps (nx ps.length i)) x1 x2 y1 y2
def cutK (ps : List (Int × Int)) (x1 x2 y1 y2 : Int) (k : Nat) : Bool := (List.range k).any (segX ps x1 x2 y1 y2)
theorem cutK_next (ps : List (Int × Int)) (x1 x2 y1 y2 : Int) (k : Nat) : cutK ps x1 x2 y1 y2 (k + 1) = (cutK ps x1 x2 y1 y2 k || segX ps x1 x2 y1 y2 k) := by
  unfold cutK
  rw [List.range_succ, List.any_append]
  simp
theorem cutK_no (ps : List (Int × Int)) (x1 x2 y1 y2 : Int) (h : cutK ps x1 x2 y1 y2 ps.length = false) : Free2 ps x1 x2 y1 y2 := fun i hi => by
  unfold cutK at h
  rw [List.any_eq_false] at h
  simpa [segX] using h i (List.mem_range.2 hi)
theorem prow_drew {w : World} {b o : Nat} {ps : List (Int × Int)} (h : PRow w (some ⟨b, o, none⟩) ps) {i : Nat} (hi : i < ps.length) : w.cell? ⟨b, o + i * 2, none⟩ = some (.int .i64 (cx ps i)) ∧ w.cell? ⟨b, o + i * 2 + 1, none⟩ = some (.int .i64 (cy ps i)) := by
  obtain ⟨b', o', e, c1, c2⟩ := prow_at h hi
  cases e
  exact ⟨c1, c2⟩

set_option maxRecDepth 100000 in
set_option maxHeartbeats 16000000 in
theorem walk_main {w : World} (ao : Option Addr) (cap : Nat) (ps : List (Int × Int)) (hle : ps.length ≤ 9223372036854775807) (hP : PRow w ao ps) (x1 x2 y1 y2 : Int) (hT : Rot.Tab w) (hval : Hid (validP ps = true)) (h0 : 0 < ps.length) (h12 : ps.length ≤ 12) (hv : AllV ps) (jx1 : InV x1) (jx2 : InV x2) (jy1 : InV y1) (jy2 : InV y2) :
    Calls Tryd.prog 8 #[.slice ao ps.length cap, .agg #[.int .i64 x1, .int .i64 x2], .agg #[.int .i64 y1, .int .i64 y2]] w fun e w' => e = .returned (.bool true) ∧ Below w.heap.size w w' := by
  have hB : Below w.heap.size w w := Below.refl _ _
  have HM1 : Hid (mayB x1 x2 = true) := Lib.hid ((mayB_iff x1 x2).2 ⟨jx1, jx2⟩)
  have HM2 : Hid (mayB y1 y2 = true) := Lib.hid ((mayB_iff y1 y2).2 ⟨jy1, jy2⟩)
  have HO : Hid (mxK (cy ps) ps.length < x2 ∨ mxK (cx ps) ps.length < x1 → locE ps x1 x2 = -1) := Lib.hid (fun h => loc_out ps x1 x2 (h.imp (fun h i hi => by have := mxK_ge (cy ps) ps.length i hi; omega) (fun h i hi => by have := mxK_ge (cx ps) ps.length i hi; omega)))
  have HCO : Hid (∀ i, i < ps.length → locE ps (cx ps i) (cy ps i) = 0) := Lib.hid (fun i hi => loc_corner ps hi)
  have HST : Hid (cutK ps x1 x2 y1 y2 ps.length = false → locE ps x1 x2 = 1 → locE ps y1 y2 = 1) := Lib.hid (fun h => loc_stays ps h0 (cutK_no ps x1 x2 y1 y2 h))
  have i5 := jx1.inr
  have i6 := jx2.inr
  have i7 := jy1.inr
  have i8 := jy2.inr
  have hvr := hv.allr2
  have HVR := Lib.hid hvr
  have h0i : 0 < (ps.length : Int) := by omega
  have hpe : ¬ ps = [] := fun e => by rw [e] at h0; simp at h0
  obtain ⟨b, o, rfl, _, _⟩ := prow_at hP h0
  clear jx1 jx2 jy1 jy2
  go_enter Tryd.func8, Tryd.ntmps8
  go_wp2_with fail
  refine (head_any _ ((hT.alloc _).alloc _)).mono ?_; rintro e w1 ⟨rfl, hb⟩
  have hX := blk_call (blk_alloc (blk_new w (.cells #[.int .i64 x1, .int .i64 x2] 25) _ rfl) (.cells #[.int .i64 y1, .int .i64 y2] 25)) hb
  have hY := blk_call (blk_new (w.alloc (.cells #[.int .i64 x1, .int .i64 x2] 25)) (.cells #[.int .i64 y1, .int .i64 y2] 25) (w.heap.size + 1) (by simp)) hb
  replace hB := belT (belA (belA hB _) _) hb
  replace hP := prow_below (prow_alloc (prow_alloc hP _) _) hb
  clear hb hT
  go_wp2_with fail
  refine (valid_is _ _ cap ps true _ rfl hval hle hP).mono ?_; rintro e w2 ⟨rfl, hb⟩
  replace hB := belT hB hb
  replace hP := prow_below hP hb
  replace hX := blk_call hX hb
  replace hY := blk_call hY hb
  clear hb
  have x0 := blk_cell hX 0 _ rfl
  have x1' := blk_cell hX 1 _ rfl
  have y0 := blk_cell hY 0 _ rfl
  have y1' := blk_cell hY 1 _ rfl
  go_wp2_with fail
  refine (may_any x1 x2 true _ HM1).mono ?_; rintro e w3 ⟨rfl, hb⟩
  clear x0 x1' y0 y1'
  replace hB := belT hB hb
  replace hP := prow_below hP hb
  replace hX := blk_call hX hb
  replace hY := blk_call hY hb
  clear hb
  have x0 := blk_cell hX 0 _ rfl
  have x1' := blk_cell hX 1 _ rfl
  have y0 := blk_cell hY 0 _ rfl
  have y1' := blk_cell hY 1 _ rfl
  go_wp2_with fail
  refine (may_any y1 y2 true _ HM2).mono ?_; rintro e w4 ⟨rfl, hb⟩
  clear x0 x1' y0 y1' hval HM1 HM2
  replace hB := belT hB hb
  replace hP := prow_below hP hb
  replace hX := blk_call hX hb
  replace hY := blk_call hY hb
  clear hb
  obtain ⟨c0, c1⟩ := prow_drew hP h0
  have c0' : w4.cell? ⟨b, o, none⟩ = some (.int .i64 (cx ps 0)) := by simpa using c0
  have c1' : w4.cell? ⟨b, o + 1, none⟩ = some (.int .i64 (cy ps 0)) := by simpa using c1
  clear c0 c1
  go_upto_region 4 with fail
  go_region
  clear c0' c1'
  go_wp2_with fail
  go_loopw [8, 9, 10] (fun t r i wr => ∃ k : Nat, k ≤ ps.length ∧ i = .int .i64 k ∧ t = .int .i64 (mxK (cy ps) k) ∧ r = .int .i64 (mxK (cx ps) k) ∧ Below w.heap.size w wr ∧ PRow wr (some ⟨b, o, none⟩) ps ∧ wr.heap[w.heap.size]? = some (.cells #[.int .i64 x1, .int .i64 x2] 25 (0, 0)) ∧ wr.heap[w.heap.size + 1]? = some (.cells #[.int .i64 y1, .int .i64 y2] 25 (0, 0))) (fun _ _ i _ => ps.length - (intOf i).toNat)
  case atStart => exact ⟨0, Nat.zero_le _, rfl, rfl, rfl, hB.drew, prow_below hP (Below.refl _ _).drew, blk_call hX (Below.refl _ _).drew, blk_call hY (Below.refl _ _).drew⟩
  case round =>
    clear hB hP hX hY
    obtain ⟨k, hk, rfl, rfl, rfl, hB, hP, hX, hY⟩ := hrel
    by_cases hlt : k < ps.length
    · obtain ⟨c0, c1⟩ := prow_drew hP hlt
      have hki : (k : Int) < ps.length := by omega
      have HL : Hid (locE ps (cx ps k) (cy ps k) = 0) := Lib.hid (HCO.out k hlt)
      obtain ⟨r1, r2⟩ := HVR.out k hlt
      have HN : Hid (mxK (cy ps) (k + 1) = mxI (mxK (cy ps) k) (cy ps k) ∧ mxK (cx ps) (k + 1) = mxI (mxK (cx ps) k) (cx ps k)) := Lib.hid ⟨rfl, rfl⟩
      have HPR : Hid (∀ W, PRow W (some ⟨b, o, none⟩) ps → W.cell? ⟨b, o + k * 2, none⟩ = some (.int .i64 (cx ps k)) ∧ W.cell? ⟨b, o + k * 2 + 1, none⟩ = some (.int .i64 (cy ps k))) := Lib.hid (fun W h => prow_drew h hlt)
      generalize cx ps k = a1 at *
      generalize cy ps k = a2 at *
      generalize mxK (cy ps) k = m1 at *
      generalize mxK (cx ps) k = m2 at *
      go_wp2_with fail
      refine (locate_at _ _ cap ps a1 a2 0 _ rfl HL h0 h12 hP hvr r1 r2).mono ?_; rintro e w6 ⟨rfl, hb⟩
      clear c0 c1
      replace hB := belT hB hb
      replace hP := prow_below hP hb
      replace hX := blk_call hX hb
      replace hY := blk_call hY hb
      clear hb
      obtain ⟨c0, c1⟩ := HPR.out _ hP
      have q1 := run_max2 m1 a2
      have q2 := run_max2 m2 a1
      go_upto_region 10 with fail
      go_region
      go_wp2_with fail
      go_roundw
      case rel => exact ⟨k + 1, by omega, by go_num, by rw [HN.out.1], by rw [HN.out.2], hB.drew, prow_below hP (Below.refl _ _).drew, blk_call hX (Below.refl _ _).drew, blk_call hY (Below.refl _ _).drew⟩
      case measure => simp [intOf]; omega
    · obtain rfl : k = ps.length := by omega
      generalize mxK (cy ps) ps.length = tp at *
      generalize mxK (cx ps) ps.length = rg at *
      go_upto_region 11 with fail
      go_cut [78] (fun s wx => s = .bool false ∧ Below w.heap.size w wx ∧ PRow wx (some ⟨b, o, none⟩) ps ∧ wx.heap[w.heap.size]? = some (.cells #[.int .i64 x1, .int .i64 x2] 25 (0, 0)) ∧ wx.heap[w.heap.size + 1]? = some (.cells #[.int .i64 y1, .int .i64 y2] 25 (0, 0)))
      case first =>
        have x0 := blk_cell hX 0 _ rfl
        have x1' := blk_cell hX 1 _ rfl
        have y0 := blk_cell hY 0 _ rfl
        have y1' := blk_cell hY 1 _ rfl
        by_cases g1 : tp < x2
        · have HL : Hid (locE ps x1 x2 = -1) := Lib.hid (HO.out (.inl g1))
          go_wp2_with fail
          refine (locate_at _ _ cap ps x1 x2 (-1) _ rfl HL h0 h12 hP hvr i5 i6).mono ?_; rintro e w6 ⟨rfl, hb⟩
          clear x0 x1' y0 y1'
          replace hB := belT hB hb
          replace hP := prow_below hP hb
          replace hX := blk_call hX hb
          replace hY := blk_call hY hb
          clear hb
          go_wp2_with fail
          go_meet
          exact ⟨rfl, hB, hP, hX, hY⟩
        · by_cases g2 : rg < x1
          · have HL : Hid (locE ps x1 x2 = -1) := Lib.hid (HO.out (.inr g2))
            go_wp2_with fail
            refine (locate_at _ _ cap ps x1 x2 (-1) _ rfl HL h0 h12 hP hvr i5 i6).mono ?_; rintro e w6 ⟨rfl, hb⟩
            clear x0 x1' y0 y1'
            replace hB := belT hB hb
            replace hP := prow_below hP hb
            replace hX := blk_call hX hb
            replace hY := blk_call hY hb
            clear hb
            go_wp2_with fail
            go_meet
            exact ⟨rfl, hB, hP, hX, hY⟩
          · go_wp2_with fail
            go_meet
            exact ⟨rfl, hB, hP, hX, hY⟩
      case rest =>
        clear hB hP hX hY
        obtain ⟨rfl, hB, hP, hX, hY⟩ := hcut
        clear HO
        go_wp2_with fail
        go_loopw [11, 12] (fun c i wr => ∃ k : Nat, k ≤ ps.length ∧ i = .int .i64 k ∧ c = .bool (cutK ps x1 x2 y1 y2 k) ∧ Below w.heap.size w wr ∧ PRow wr (some ⟨b, o, none⟩) ps ∧ wr.heap[w.heap.size]? = some (.cells #[.int .i64 x1, .int .i64 x2] 25 (0, 0)) ∧ wr.heap[w.heap.size + 1]? = some (.cells #[.int .i64 y1, .int .i64 y2] 25 (0, 0))) (fun _ i _ => ps.length - (intOf i).toNat)
        case atStart => exact ⟨0, Nat.zero_le _, rfl, rfl, hB, hP, hX, hY⟩
        case round =>
          clear hB hP hX hY
          obtain ⟨k, hk, rfl, rfl, hB, hP, hX, hY⟩ := hrel
          by_cases hlt : k < ps.length
          · obtain ⟨d0, d1⟩ := prow_drew hP hlt
            obtain ⟨j, hj⟩ : ∃ j, nx ps.length k = j := ⟨_, rfl⟩
            have hjl : j < ps.length := by rw [← hj]; exact nx_lt' hlt
            obtain ⟨d2, d3⟩ := prow_drew hP hjl
            obtain ⟨i1, i2⟩ := HVR.out k hlt
            obtain ⟨i3, i4⟩ := HVR.out j hjl
            have hki : (k : Int) < ps.length := by omega
            have hji : (j : Int) < ps.length := by omega
            have hw1 : IntKind.i64.wrap ((k : Int) + 1) = (k : Int) + 1 := wrap_k _ (by omega)
            have htm : ((k : Int) + 1).tmod (ps.length : Int) = (j : Int) := by
              rw [← hj, Int.tmod_eq_emod_of_nonneg (by omega)]; unfold nx; simp
            have hn0 : (ps.length : Int) ≠ 0 := by omega
            obtain ⟨t, ht⟩ : ∃ t, segX ps x1 x2 y1 y2 k = t := ⟨_, rfl⟩
            have HS := Lib.hid ht
            have HT : Hid (segB (cx ps k) (cy ps k) (cx ps j) (cy ps j) x1 x2 y1 y2 = t) := Lib.hid (by rw [← ht]; unfold segX; rw [hj])
            have fx0 := blk_cell hX 0 _ rfl
            have fx1 := blk_cell hX 1 _ rfl
            have fy0 := blk_cell hY 0 _ rfl
            have fy1 := blk_cell hY 1 _ rfl
            have HBB := Lib.hid hB
            have HPP := Lib.hid hP
            have HXX := Lib.hid hX
            have HYY := Lib.hid hY
            clear ht hj hB hP hX hY hvr
            generalize hcc : cutK ps x1 x2 y1 y2 k = c at *
            have HC := Lib.hid hcc
            clear hcc
            generalize cx ps k = a1 at *
            generalize cy ps k = a2 at *
            generalize cx ps j = e1 at *
            generalize cy ps j = e2 at *
            cases c
            · go_upto_region 17 with fail
              obtain ⟨sp, hsp⟩ : ∃ sp : Told, sp = [none, none, none, none, none, none, none, none, none, none, none, none, none, none, none, none, none, none, none, none, none, none, none, none, none, none, none, none, none, none, none, none, none, none, none, none, none, none, none, none, none, none, none, none, none, none, none, none, none, none, none, none, none, none, none, none, none, none, none, none, none, none, none, none, none, none, none, none, none, none, none, none, none, none, none, none, none, none, none, none, none, none, none, none, none, some (.inl (.bool false)), some (.inl (.bool false)), some (.inl (.slice (some ⟨b, o, none⟩) ps.length cap)), some (.inl (.int .i64 (k : Int))), some (.inl (.pointer (some ⟨b, o + k * 2, none⟩))), some (.inl (.agg #[.int .i64 a1, .int .i64 a2])), some (.inl (.slice (some ⟨b, o, none⟩) ps.length cap)), some (.inl (.int .i64 (k : Int))), some (.inl (.int .i64 ((k : Int) + 1))), some (.inl (.slice (some ⟨b, o, none⟩) ps.length cap)), some (.inl (.int .i64 (ps.length : Int))), some (.inl (.int .i64 (j : Int))), some (.inl (.pointer (some ⟨b, o + j * 2, none⟩))), some (.inl (.agg #[.int .i64 e1, .int .i64 e2])), some (.inl (.agg #[.int .i64 x1, .int .i64 x2])), some (.inl (.agg #[.int .i64 y1, .int .i64 y2])), some (.inl (.bool t)), some (.inl (.bool t))] := ⟨_, rfl⟩
              have s85 : sp.getD 85 none = some (.inl (.bool false)) := by rw [hsp]; rfl
              have s86 : sp.getD 86 none = some (.inl (.bool false)) := by rw [hsp]; rfl
              have s87 : sp.getD 87 none = some (.inl (.slice (some ⟨b, o, none⟩) ps.length cap)) := by rw [hsp]; rfl
              have s88 : sp.getD 88 none = some (.inl (.int .i64 (k : Int))) := by rw [hsp]; rfl
              have s89 : sp.getD 89 none = some (.inl (.pointer (some ⟨b, o + k * 2, none⟩))) := by rw [hsp]; rfl
              have s90 : sp.getD 90 none = some (.inl (.agg #[.int .i64 a1, .int .i64 a2])) := by rw [hsp]; rfl
              have s91 : sp.getD 91 none = some (.inl (.slice (some ⟨b, o, none⟩) ps.length cap)) := by rw [hsp]; rfl
              have s92 : sp.getD 92 none = some (.inl (.int .i64 (k : Int))) := by rw [hsp]; rfl
              have s93 : sp.getD 93 none = some (.inl (.int .i64 ((k : Int) + 1))) := by rw [hsp]; rfl
              have s94 : sp.getD 94 none = some (.inl (.slice (some ⟨b, o, none⟩) ps.length cap)) := by rw [hsp]; rfl
              have s95 : sp.getD 95 none = some (.inl (.int .i64 (ps.length : Int))) := by rw [hsp]; rfl
              have s96 : sp.getD 96 none = some (.inl (.int .i64 (j : Int))) := by rw [hsp]; rfl
              have s97 : sp.getD 97 none = some (.inl (.pointer (some ⟨b, o + j * 2, none⟩))) := by rw [hsp]; rfl
              have s98 : sp.getD 98 none = some (.inl (.agg #[.int .i64 e1, .int .i64 e2])) := by rw [hsp]; rfl
              have s99 : sp.getD 99 none = some (.inl (.agg #[.int .i64 x1, .int .i64 x2])) := by rw [hsp]; rfl
              have s100 : sp.getD 100 none = some (.inl (.agg #[.int .i64 y1, .int .i64 y2])) := by rw [hsp]; rfl
              have s101 : sp.getD 101 none = some (.inl (.bool t)) := by rw [hsp]; rfl
              have s102 : sp.getD 102 none = some (.inl (.bool t)) := by rw [hsp]; rfl
              clear hsp
              refine (wpIn_wide (n := 0)).1 (region_headM sp 18 rfl rfl rfl (by kernel_rfl) (by decide) (by kernel_rfl) (by kernel_rfl) (by kernel_rfl) ?_ ?_)
              · intro Q'; show ObsM _ _ _ _ _ _ _ _ (List.take _ _); simp only [List.take_succ_cons, List.take_zero]
                refine obsM_cons ?_ ?_
                · intro T wx K hB hF hD hK
                  have g11 : T[11]? = some (.bool false) := hF 11 (freeM_of (by kernel_rfl))
                  refine ob_yes (wanted_none rfl) ?_
                  clear hF hD
                  go_simp
                  exact hK _ _ (Below.refl _ _) (rt_eq s85)
                refine obsM_cons ?_ ?_
                · intro T wx K hB hF hD hK
                  have g85 := get_eq (hD 0 85 (by simp [Region.binds]) (by kernel_rfl)) s85
                  refine ob_yes (wanted_none rfl) ?_
                  clear hF hD
                  go_simp
                  exact hK _ _ (Below.refl _ _) (rt_eq s86)
                refine obsM_cons ?_ ?_
                · intro T wx K hB hF hD hK
                  have g86 := get_eq (hD 1 86 (by simp [Region.binds]) (by kernel_rfl)) s86
                  have g0 : T[0]? = some (.slice (some ⟨b, o, none⟩) ps.length cap) := hF 0 (freeM_of (by kernel_rfl))
                  refine ob_yes (wanted_yes rfl (by kernel_rfl) g86) ?_
                  clear hF hD
                  go_simp
                  exact hK _ _ (Below.refl _ _) (rt_eq s87)
                refine obsM_cons ?_ ?_
                · intro T wx K hB hF hD hK
                  have g86 := get_eq (hD 1 86 (by simp [Region.binds]) (by kernel_rfl)) s86
                  have g12 : T[12]? = some (.int .i64 (k : Int)) := hF 12 (freeM_of (by kernel_rfl))
                  refine ob_yes (wanted_yes rfl (by kernel_rfl) g86) ?_
                  clear hF hD
                  go_simp
                  exact hK _ _ (Below.refl _ _) (rt_eq s88)
                refine obsM_cons ?_ ?_
                · intro T wx K hB hF hD hK
                  have g86 := get_eq (hD 1 86 (by simp [Region.binds]) (by kernel_rfl)) s86
                  have g87 := get_eq (hD 2 87 (by simp [Region.binds]) (by kernel_rfl)) s87
                  have g88 := get_eq (hD 3 88 (by simp [Region.binds]) (by kernel_rfl)) s88
                  refine ob_yes (wanted_yes rfl (by kernel_rfl) g86) ?_
                  clear hF hD
                  go_simp
                  exact hK _ _ (Below.refl _ _) (rt_eq s89)
                refine obsM_cons ?_ ?_
                · intro T wx K hB hF hD hK
                  have g86 := get_eq (hD 1 86 (by simp [Region.binds]) (by kernel_rfl)) s86
                  have g89 := get_eq (hD 4 89 (by simp [Region.binds]) (by kernel_rfl)) s89
                  refine ob_yes (wanted_yes rfl (by kernel_rfl) g86) ?_
                  clear hF hD
                  have c0 := cell_call d0 hB
                  have c1 := cell_call d1 hB
                  go_simp
                  exact hK _ _ (Below.refl _ _) (rt_eq s90)
                refine obsM_cons ?_ ?_
                · intro T wx K hB hF hD hK
                  have g86 := get_eq (hD 1 86 (by simp [Region.binds]) (by kernel_rfl)) s86
                  have g0 : T[0]? = some (.slice (some ⟨b, o, none⟩) ps.length cap) := hF 0 (freeM_of (by kernel_rfl))
                  refine ob_yes (wanted_yes rfl (by kernel_rfl) g86) ?_
                  clear hF hD
                  go_simp
                  exact hK _ _ (Below.refl _ _) (rt_eq s91)
                refine obsM_cons ?_ ?_
                · intro T wx K hB hF hD hK
                  have g86 := get_eq (hD 1 86 (by simp [Region.binds]) (by kernel_rfl)) s86
                  have g12 : T[12]? = some (.int .i64 (k : Int)) := hF 12 (freeM_of (by kernel_rfl))
                  refine ob_yes (wanted_yes rfl (by kernel_rfl) g86) ?_
                  clear hF hD
                  go_simp
                  exact hK _ _ (Below.refl _ _) (rt_eq s92)
                refine obsM_cons ?_ ?_
                · intro T wx K hB hF hD hK
                  have g86 := get_eq (hD 1 86 (by simp [Region.binds]) (by kernel_rfl)) s86
                  have g92 := get_eq (hD 7 92 (by simp [Region.binds]) (by kernel_rfl)) s92
                  refine ob_yes (wanted_yes rfl (by kernel_rfl) g86) ?_
                  clear hF hD
                  go_simp
                  exact hK _ _ (Below.refl _ _) (rt_eq s93)
                refine obsM_cons ?_ ?_
                · intro T wx K hB hF hD hK
                  have g86 := get_eq (hD 1 86 (by simp [Region.binds]) (by kernel_rfl)) s86
                  have g0 : T[0]? = some (.slice (some ⟨b, o, none⟩) ps.length cap) := hF 0 (freeM_of (by kernel_rfl))
                  refine ob_yes (wanted_yes rfl (by kernel_rfl) g86) ?_
                  clear hF hD
                  go_simp
                  exact hK _ _ (Below.refl _ _) (rt_eq s94)
                refine obsM_cons ?_ ?_
                · intro T wx K hB hF hD hK
                  have g86 := get_eq (hD 1 86 (by simp [Region.binds]) (by kernel_rfl)) s86
                  have g94 := get_eq (hD 9 94 (by simp [Region.binds]) (by kernel_rfl)) s94
                  refine ob_yes (wanted_yes rfl (by kernel_rfl) g86) ?_
                  clear hF hD
                  go_simp
                  exact hK _ _ (Below.refl _ _) (rt_eq s95)
                refine obsM_cons ?_ ?_
                · intro T wx K hB hF hD hK
                  have g86 := get_eq (hD 1 86 (by simp [Region.binds]) (by kernel_rfl)) s86
                  have g93 := get_eq (hD 8 93 (by simp [Region.binds]) (by kernel_rfl)) s93
                  have g95 := get_eq (hD 10 95 (by simp [Region.binds]) (by kernel_rfl)) s95
                  refine ob_yes (wanted_yes rfl (by kernel_rfl) g86) ?_
                  clear hF hD
                  go_simp
                  exact hK _ _ (Below.refl _ _) (rt_eq s96)
                refine obsM_cons ?_ ?_
                · intro T wx K hB hF hD hK
                  have g86 := get_eq (hD 1 86 (by simp [Region.binds]) (by kernel_rfl)) s86
                  have g91 := get_eq (hD 6 91 (by simp [Region.binds]) (by kernel_rfl)) s91
                  have g96 := get_eq (hD 11 96 (by simp [Region.binds]) (by kernel_rfl)) s96
                  refine ob_yes (wanted_yes rfl (by kernel_rfl) g86) ?_
                  clear hF hD
                  go_simp
                  exact hK _ _ (Below.refl _ _) (rt_eq s97)
                refine obsM_cons ?_ ?_
                · intro T wx K hB hF hD hK
                  have g86 := get_eq (hD 1 86 (by simp [Region.binds]) (by kernel_rfl)) s86
                  have g97 := get_eq (hD 12 97 (by simp [Region.binds]) (by kernel_rfl)) s97
                  refine ob_yes (wanted_yes rfl (by kernel_rfl) g86) ?_
                  clear hF hD
                  have c0 := cell_call d2 hB
                  have c1 := cell_call d3 hB
                  go_simp
                  exact hK _ _ (Below.refl _ _) (rt_eq s98)
                refine obsM_cons ?_ ?_
                · intro T wx K hB hF hD hK
                  have g86 := get_eq (hD 1 86 (by simp [Region.binds]) (by kernel_rfl)) s86
                  have g4 : T[4]? = some (.pointer (some ⟨w.heap.size, 0, none⟩)) := hF 4 (freeM_of (by kernel_rfl))
                  refine ob_yes (wanted_yes rfl (by kernel_rfl) g86) ?_
                  clear hF hD
                  have c0 := cell_call fx0 hB
                  have c1 := cell_call fx1 hB
                  go_simp
                  exact hK _ _ (Below.refl _ _) (rt_eq s99)
                refine obsM_cons ?_ ?_
                · intro T wx K hB hF hD hK
                  have g86 := get_eq (hD 1 86 (by simp [Region.binds]) (by kernel_rfl)) s86
                  have g5 : T[5]? = some (.pointer (some ⟨w.heap.size + 1, 0, none⟩)) := hF 5 (freeM_of (by kernel_rfl))
                  refine ob_yes (wanted_yes rfl (by kernel_rfl) g86) ?_
                  clear hF hD
                  have c0 := cell_call fy0 hB
                  have c1 := cell_call fy1 hB
                  go_simp
                  exact hK _ _ (Below.refl _ _) (rt_eq s100)
                refine obsM_cons ?_ ?_
                · intro T wx K hB hF hD hK
                  have g86 := get_eq (hD 1 86 (by simp [Region.binds]) (by kernel_rfl)) s86
                  have g90 := get_eq (hD 5 90 (by simp [Region.binds]) (by kernel_rfl)) s90
                  have g98 := get_eq (hD 13 98 (by simp [Region.binds]) (by kernel_rfl)) s98
                  have g99 := get_eq (hD 14 99 (by simp [Region.binds]) (by kernel_rfl)) s99
                  have g100 := get_eq (hD 15 100 (by simp [Region.binds]) (by kernel_rfl)) s100
                  refine ob_yes (wanted_yes rfl (by kernel_rfl) g86) ?_
                  clear hF hD
                  go_simp
                  refine (cross_is a1 a2 e1 e2 x1 x2 y1 y2 t _ HT i1 i2 i3 i4 i5 i6 i7 i8).mono ?_; rintro e w9 ⟨rfl, hb⟩
                  exact hK _ _ hb (rt_eq s101)
                refine obsM_cons ?_ ?_
                · intro T wx K hB hF hD hK
                  have g86 := get_eq (hD 1 86 (by simp [Region.binds]) (by kernel_rfl)) s86
                  have g101 := get_eq (hD 16 101 (by simp [Region.binds]) (by kernel_rfl)) s101
                  refine ob_yes (wanted_none rfl) ?_
                  clear hF hD
                  go_simp
                  exact hK _ _ (Below.refl _ _) (rt_eq s102)
                exact obsM_nil
              · intro T w8 hb hF hs hD
                have g85 := get_eq (hD 0 85 (by decide) (by kernel_rfl)) s85
                have g86 := get_eq (hD 1 86 (by decide) (by kernel_rfl)) s86
                have g87 := get_eq (hD 2 87 (by decide) (by kernel_rfl)) s87
                have g88 := get_eq (hD 3 88 (by decide) (by kernel_rfl)) s88
                have g89 := get_eq (hD 4 89 (by decide) (by kernel_rfl)) s89
                have g90 := get_eq (hD 5 90 (by decide) (by kernel_rfl)) s90
                have g91 := get_eq (hD 6 91 (by decide) (by kernel_rfl)) s91
                have g92 := get_eq (hD 7 92 (by decide) (by kernel_rfl)) s92
                have g93 := get_eq (hD 8 93 (by decide) (by kernel_rfl)) s93
                have g94 := get_eq (hD 9 94 (by decide) (by kernel_rfl)) s94
                have g95 := get_eq (hD 10 95 (by decide) (by kernel_rfl)) s95
                have g96 := get_eq (hD 11 96 (by decide) (by kernel_rfl)) s96
                have g97 := get_eq (hD 12 97 (by decide) (by kernel_rfl)) s97
                have g98 := get_eq (hD 13 98 (by decide) (by kernel_rfl)) s98
                have g99 := get_eq (hD 14 99 (by decide) (by kernel_rfl)) s99
                have g100 := get_eq (hD 15 100 (by decide) (by kernel_rfl)) s100
                have g101 := get_eq (hD 16 101 (by decide) (by kernel_rfl)) s101
                have g102 := get_eq (hD 17 102 (by decide) (by kernel_rfl)) s102
                have hT := conc [(85, .bool false), (86, .bool false), (87, .slice (some ⟨b, o, none⟩) ps.length cap), (88, .int .i64 (k : Int)), (89, .pointer (some ⟨b, o + k * 2, none⟩)), (90, .agg #[.int .i64 a1, .int .i64 a2]), (91, .slice (some ⟨b, o, none⟩) ps.length cap), (92, .int .i64 (k : Int)), (93, .int .i64 ((k : Int) + 1)), (94, .slice (some ⟨b, o, none⟩) ps.length cap), (95, .int .i64 (ps.length : Int)), (96, .int .i64 (j : Int)), (97, .pointer (some ⟨b, o + j * 2, none⟩)), (98, .agg #[.int .i64 e1, .int .i64 e2]), (99, .agg #[.int .i64 x1, .int .i64 x2]), (100, .agg #[.int .i64 y1, .int .i64 y2]), (101, .bool t), (102, .bool t)] hs hF (by simp only [List.forall_mem_cons]; exact ⟨g85, g86, g87, g88, g89, g90, g91, g92, g93, g94, g95, g96, g97, g98, g99, g100, g101, g102, fun p hp => absurd hp List.not_mem_nil⟩) (by kernel_rfl)
                simp only [List.foldl, List.setIfInBounds_toArray, List.set_cons_succ, List.set_cons_zero] at hT
                subst hT
                clear hF hD hs g85 g86 g87 g88 g89 g90 g91 g92 g93 g94 g95 g96 g97 g98 g99 g100 g101 g102 s85 s86 s87 s88 s89 s90 s91 s92 s93 s94 s95 s96 s97 s98 s99 s100 s101 s102
                have hB8 := HBB.out.trans (hb.mono HBB.out.size)
                have hP8 := prow_below HPP.out hb
                have hX8 := blk_call HXX.out hb
                have hY8 := blk_call HYY.out hb
                clear hb d0 d1 d2 d3 fx0 fx1 fy0 fy1
                show wpOpsIn _ _ _ _ _ [18] _ _
                simp only [wpOpsIn]
                go_simp
                go_wp2
                go_roundw
                case rel => exact ⟨k + 1, by omega, by go_num, congrArg Value.bool (Eq.symm (by rw [cutK_next, HC.out, HS.out]; rfl)), hB8, hP8, hX8, hY8⟩
                case measure => simp [intOf]; omega
            · go_upto_region 17 with fail
              obtain ⟨sp, hsp⟩ : ∃ sp : Told, sp = [none, none, none, none, none, none, none, none, none, none, none, none, none, none, none, none, none, none, none, none, none, none, none, none, none, none, none, none, none, none, none, none, none, none, none, none, none, none, none, none, none, none, none, none, none, none, none, none, none, none, none, none, none, none, none, none, none, none, none, none, none, none, none, none, none, none, none, none, none, none, none, none, none, none, none, none, none, none, none, none, none, none, none, none, none, some (.inl (.bool true)), some (.inl (.bool true)), none, none, none, none, none, none, none, none, none, none, none, none, none, none, none, some (.inl (.bool true))] := ⟨_, rfl⟩
              have s85 : sp.getD 85 none = some (.inl (.bool true)) := by rw [hsp]; rfl
              have s86 : sp.getD 86 none = some (.inl (.bool true)) := by rw [hsp]; rfl
              have s87 : sp.getD 87 none = none := by rw [hsp]; rfl
              have s88 : sp.getD 88 none = none := by rw [hsp]; rfl
              have s89 : sp.getD 89 none = none := by rw [hsp]; rfl
              have s90 : sp.getD 90 none = none := by rw [hsp]; rfl
              have s91 : sp.getD 91 none = none := by rw [hsp]; rfl
              have s92 : sp.getD 92 none = none := by rw [hsp]; rfl
              have s93 : sp.getD 93 none = none := by rw [hsp]; rfl
              have s94 : sp.getD 94 none = none := by rw [hsp]; rfl
              have s95 : sp.getD 95 none = none := by rw [hsp]; rfl
              have s96 : sp.getD 96 none = none := by rw [hsp]; rfl
              have s97 : sp.getD 97 none = none := by rw [hsp]; rfl
              have s98 : sp.getD 98 none = none := by rw [hsp]; rfl
              have s99 : sp.getD 99 none = none := by rw [hsp]; rfl
              have s100 : sp.getD 100 none = none := by rw [hsp]; rfl
              have s101 : sp.getD 101 none = none := by rw [hsp]; rfl
              have s102 : sp.getD 102 none = some (.inl (.bool true)) := by rw [hsp]; rfl
              clear hsp
              refine (wpIn_wide (n := 0)).1 (region_headM sp 18 rfl rfl rfl (by kernel_rfl) (by decide) (by kernel_rfl) (by kernel_rfl) (by kernel_rfl) ?_ ?_)
              · intro Q'; show ObsM _ _ _ _ _ _ _ _ (List.take _ _); simp only [List.take_succ_cons, List.take_zero]
                refine obsM_cons ?_ ?_
                · intro T wx K hB hF hD hK
                  have g11 : T[11]? = some (.bool true) := hF 11 (freeM_of (by kernel_rfl))
                  refine ob_yes (wanted_none rfl) ?_
                  clear hF hD
                  go_simp
                  exact hK _ _ (Below.refl _ _) (rt_eq s85)
                refine obsM_cons ?_ ?_
                · intro T wx K hB hF hD hK
                  have g85 := get_eq (hD 0 85 (by simp [Region.binds]) (by kernel_rfl)) s85
                  refine ob_yes (wanted_none rfl) ?_
                  clear hF hD
                  go_simp
                  exact hK _ _ (Below.refl _ _) (rt_eq s86)
                refine obsM_cons ?_ ?_
                · intro T wx K hB hF hD hK
                  have g86 := get_eq (hD 1 86 (by simp [Region.binds]) (by kernel_rfl)) s86
                  refine ob_no (wanted_no rfl (by kernel_rfl) g86 rfl) ?_
                  exact hK _ _ (Below.refl _ _) (rt_any s87)
                refine obsM_cons ?_ ?_
                · intro T wx K hB hF hD hK
                  have g86 := get_eq (hD 1 86 (by simp [Region.binds]) (by kernel_rfl)) s86
                  refine ob_no (wanted_no rfl (by kernel_rfl) g86 rfl) ?_
                  exact hK _ _ (Below.refl _ _) (rt_any s88)
                refine obsM_cons ?_ ?_
                · intro T wx K hB hF hD hK
                  have g86 := get_eq (hD 1 86 (by simp [Region.binds]) (by kernel_rfl)) s86
                  refine ob_no (wanted_no rfl (by kernel_rfl) g86 rfl) ?_
                  exact hK _ _ (Below.refl _ _) (rt_any s89)
                refine obsM_cons ?_ ?_
                · intro T wx K hB hF hD hK
                  have g86 := get_eq (hD 1 86 (by simp [Region.binds]) (by kernel_rfl)) s86
                  refine ob_no (wanted_no rfl (by kernel_rfl) g86 rfl) ?_
                  exact hK _ _ (Below.refl _ _) (rt_any s90)
                refine obsM_cons ?_ ?_
                · intro T wx K hB hF hD hK
                  have g86 := get_eq (hD 1 86 (by simp [Region.binds]) (by kernel_rfl)) s86
                  refine ob_no (wanted_no rfl (by kernel_rfl) g86 rfl) ?_
                  exact hK _ _ (Below.refl _ _) (rt_any s91)
                refine obsM_cons ?_ ?_
                · intro T wx K hB hF hD hK
                  have g86 := get_eq (hD 1 86 (by simp [Region.binds]) (by kernel_rfl)) s86
                  refine ob_no (wanted_no rfl (by kernel_rfl) g86 rfl) ?_
                  exact hK _ _ (Below.refl _ _) (rt_any s92)
                refine obsM_cons ?_ ?_
                · intro T wx K hB hF hD hK
                  have g86 := get_eq (hD 1 86 (by simp [Region.binds]) (by kernel_rfl)) s86
                  refine ob_no (wanted_no rfl (by kernel_rfl) g86 rfl) ?_
                  exact hK _ _ (Below.refl _ _) (rt_any s93)
                refine obsM_cons ?_ ?_
                · intro T wx K hB hF hD hK
                  have g86 := get_eq (hD 1 86 (by simp [Region.binds]) (by kernel_rfl)) s86
                  refine ob_no (wanted_no rfl (by kernel_rfl) g86 rfl) ?_
                  exact hK _ _ (Below.refl _ _) (rt_any s94)
                refine obsM_cons ?_ ?_
                · intro T wx K hB hF hD hK
                  have g86 := get_eq (hD 1 86 (by simp [Region.binds]) (by kernel_rfl)) s86
                  refine ob_no (wanted_no rfl (by kernel_rfl) g86 rfl) ?_
                  exact hK _ _ (Below.refl _ _) (rt_any s95)
                refine obsM_cons ?_ ?_
                · intro T wx K hB hF hD hK
                  have g86 := get_eq (hD 1 86 (by simp [Region.binds]) (by kernel_rfl)) s86
                  refine ob_no (wanted_no rfl (by kernel_rfl) g86 rfl) ?_
                  exact hK _ _ (Below.refl _ _) (rt_any s96)
                refine obsM_cons ?_ ?_
                · intro T wx K hB hF hD hK
                  have g86 := get_eq (hD 1 86 (by simp [Region.binds]) (by kernel_rfl)) s86
                  refine ob_no (wanted_no rfl (by kernel_rfl) g86 rfl) ?_
                  exact hK _ _ (Below.refl _ _) (rt_any s97)
                refine obsM_cons ?_ ?_
                · intro T wx K hB hF hD hK
                  have g86 := get_eq (hD 1 86 (by simp [Region.binds]) (by kernel_rfl)) s86
                  refine ob_no (wanted_no rfl (by kernel_rfl) g86 rfl) ?_
                  exact hK _ _ (Below.refl _ _) (rt_any s98)
                refine obsM_cons ?_ ?_
                · intro T wx K hB hF hD hK
                  have g86 := get_eq (hD 1 86 (by simp [Region.binds]) (by kernel_rfl)) s86
                  refine ob_no (wanted_no rfl (by kernel_rfl) g86 rfl) ?_
                  exact hK _ _ (Below.refl _ _) (rt_any s99)
                refine obsM_cons ?_ ?_
                · intro T wx K hB hF hD hK
                  have g86 := get_eq (hD 1 86 (by simp [Region.binds]) (by kernel_rfl)) s86
                  refine ob_no (wanted_no rfl (by kernel_rfl) g86 rfl) ?_
                  exact hK _ _ (Below.refl _ _) (rt_any s100)
                refine obsM_cons ?_ ?_
                · intro T wx K hB hF hD hK
                  have g86 := get_eq (hD 1 86 (by simp [Region.binds]) (by kernel_rfl)) s86
                  refine ob_no (wanted_no rfl (by kernel_rfl) g86 rfl) ?_
                  exact hK _ _ (Below.refl _ _) (rt_any s101)
                refine obsM_cons ?_ ?_
                · intro T wx K hB hF hD hK
                  have g86 := get_eq (hD 1 86 (by simp [Region.binds]) (by kernel_rfl)) s86
                  refine ob_yes (wanted_none rfl) ?_
                  clear hF hD
                  go_simp
                  exact hK _ _ (Below.refl _ _) (rt_eq s102)
                exact obsM_nil
              · intro T w8 hb hF hs hD
                have g85 := get_eq (hD 0 85 (by decide) (by kernel_rfl)) s85
                have g86 := get_eq (hD 1 86 (by decide) (by kernel_rfl)) s86
                obtain ⟨z87, g87, _⟩ := hD 2 87 (by decide) (by kernel_rfl)
                obtain ⟨z88, g88, _⟩ := hD 3 88 (by decide) (by kernel_rfl)
                obtain ⟨z89, g89, _⟩ := hD 4 89 (by decide) (by kernel_rfl)
                obtain ⟨z90, g90, _⟩ := hD 5 90 (by decide) (by kernel_rfl)
                obtain ⟨z91, g91, _⟩ := hD 6 91 (by decide) (by kernel_rfl)
                obtain ⟨z92, g92, _⟩ := hD 7 92 (by decide) (by kernel_rfl)
                obtain ⟨z93, g93, _⟩ := hD 8 93 (by decide) (by kernel_rfl)
                obtain ⟨z94, g94, _⟩ := hD 9 94 (by decide) (by kernel_rfl)
                obtain ⟨z95, g95, _⟩ := hD 10 95 (by decide) (by kernel_rfl)
                obtain ⟨z96, g96, _⟩ := hD 11 96 (by decide) (by kernel_rfl)
                obtain ⟨z97, g97, _⟩ := hD 12 97 (by decide) (by kernel_rfl)
                obtain ⟨z98, g98, _⟩ := hD 13 98 (by decide) (by kernel_rfl)
                obtain ⟨z99, g99, _⟩ := hD 14 99 (by decide) (by kernel_rfl)
                obtain ⟨z100, g100, _⟩ := hD 15 100 (by decide) (by kernel_rfl)
                obtain ⟨z101, g101, _⟩ := hD 16 101 (by decide) (by kernel_rfl)
                have g102 := get_eq (hD 17 102 (by decide) (by kernel_rfl)) s102
                have hT := conc [(85, .bool true), (86, .bool true), (87, z87), (88, z88), (89, z89), (90, z90), (91, z91), (92, z92), (93, z93), (94, z94), (95, z95), (96, z96), (97, z97), (98, z98), (99, z99), (100, z100), (101, z101), (102, .bool true)] hs hF (by simp only [List.forall_mem_cons]; exact ⟨g85, g86, g87, g88, g89, g90, g91, g92, g93, g94, g95, g96, g97, g98, g99, g100, g101, g102, fun p hp => absurd hp List.not_mem_nil⟩) (by kernel_rfl)
                simp only [List.foldl, List.setIfInBounds_toArray, List.set_cons_succ, List.set_cons_zero] at hT
                subst hT
                clear hF hD hs g85 g86 g87 g88 g89 g90 g91 g92 g93 g94 g95 g96 g97 g98 g99 g100 g101 g102 s85 s86 s102
                have hB8 := HBB.out.trans (hb.mono HBB.out.size)
                have hP8 := prow_below HPP.out hb
                have hX8 := blk_call HXX.out hb
                have hY8 := blk_call HYY.out hb
                clear hb d0 d1 d2 d3 fx0 fx1 fy0 fy1
                show wpOpsIn _ _ _ _ _ [18] _ _
                simp only [wpOpsIn]
                go_simp
                go_wp2
                go_roundw
                case rel => exact ⟨k + 1, by omega, by go_num, congrArg Value.bool (Eq.symm (by rw [cutK_next, HC.out]; rfl)), hB8, hP8, hX8, hY8⟩
                case measure => simp [intOf]; omega
          · obtain rfl : k = ps.length := by omega
            generalize hcc : cutK ps x1 x2 y1 y2 ps.length = c at *
            obtain ⟨u, hu⟩ : ∃ u, locE ps x1 x2 = u := ⟨_, rfl⟩
            obtain ⟨v, hv'⟩ : ∃ v, locE ps y1 y2 = v := ⟨_, rfl⟩
            have HU := Lib.hid hu
            have HV := Lib.hid hv'
            have HW : Hid (u = 1 → ¬ v = 1 → c = true) := Lib.hid (fun e1 e2 => by
              cases c
              · exact absurd (by rw [← hv']; exact HST.out rfl (by rw [hu]; exact e1)) e2
              · rfl)
            clear hu hv' HST hcc
            have x0 := blk_cell hX 0 _ rfl
            have x1' := blk_cell hX 1 _ rfl
            have y0 := blk_cell hY 0 _ rfl
            have y1' := blk_cell hY 1 _ rfl
            by_cases e1 : u = 1
            · subst e1
              go_wp2_with fail
              refine (locate_at _ _ cap ps x1 x2 1 _ rfl HU h0 h12 hP hvr i5 i6).mono ?_; rintro e w6 ⟨rfl, hb⟩
              clear x0 x1' y0 y1'
              replace hB := belT hB hb
              replace hP := prow_below hP hb
              replace hX := blk_call hX hb
              replace hY := blk_call hY hb
              clear hb
              have x0 := blk_cell hX 0 _ rfl
              have x1' := blk_cell hX 1 _ rfl
              have y0 := blk_cell hY 0 _ rfl
              have y1' := blk_cell hY 1 _ rfl
              by_cases e2 : v = 1
              · subst e2
                go_wp2_with fail
                refine (locate_at _ _ cap ps y1 y2 1 _ rfl HV h0 h12 hP hvr i7 i8).mono ?_; rintro e w7 ⟨rfl, hb⟩
                clear x0 x1' y0 y1'
                replace hB := belT hB hb
                replace hP := prow_below hP hb
                replace hX := blk_call hX hb
                replace hY := blk_call hY hb
                clear hb
                go_wp2_with fail
                go_ret
                exact ⟨rfl, hB⟩
              · obtain rfl := HW.out (by trivial) e2
                go_wp2_with fail
                refine (locate_at _ _ cap ps y1 y2 v _ rfl HV h0 h12 hP hvr i7 i8).mono ?_; rintro e w7 ⟨rfl, hb⟩
                clear x0 x1' y0 y1'
                replace hB := belT hB hb
                replace hP := prow_below hP hb
                replace hX := blk_call hX hb
                replace hY := blk_call hY hb
                clear hb
                have e3 : (v == 1) = false := by rw [beq_eq_false_iff_ne]; exact e2
                go_wp2_with fail
                go_ret
                exact ⟨rfl, hB⟩
            · go_wp2_with fail
              refine (locate_at _ _ cap ps x1 x2 u _ rfl HU h0 h12 hP hvr i5 i6).mono ?_; rintro e w6 ⟨rfl, hb⟩
              clear x0 x1' y0 y1'
              replace hB := belT hB hb
              replace hP := prow_below hP hb
              replace hX := blk_call hX hb
              replace hY := blk_call hY hb
              clear hb
              have e3 : (u == 1) = false := by rw [beq_eq_false_iff_ne]; exact e1
              go_wp2_with fail
              go_ret
              exact ⟨rfl, hB⟩

set_option maxRecDepth 100000 in
set_option maxHeartbeats 4000000 in
theorem walk {w : World} (ao : Option Addr) (cap : Nat) (ps : List (Int × Int)) (hle : ps.length ≤ 9223372036854775807) (hP : PRow w ao ps) (x1 x2 y1 y2 : Int) (hT : Rot.Tab w) :
    Calls Tryd.prog 8 #[.slice ao ps.length cap, .agg #[.int .i64 x1, .int .i64 x2], .agg #[.int .i64 y1, .int .i64 y2]] w fun e w' => e = .returned (.bool true) ∧ Below w.heap.size w w' := by
  have hB : Below w.heap.size w w := Below.refl _ _
  by_cases hva : validP ps = true
  · have hval := Lib.hid hva
    by_cases hm1 : mayB x1 x2 = true
    · by_cases hm2 : mayB y1 y2 = true
      · obtain ⟨k1, k2⟩ := (mayB_iff x1 x2).1 hm1
        obtain ⟨k3, k4⟩ := (mayB_iff y1 y2).1 hm2
        have hc : validC ps = true := by unfold validP at hva; rw [Bool.and_eq_true] at hva; exact hva.1
        obtain ⟨l1, l2, l3⟩ := (validC_iff ps).1 hc
        exact walk_main ao cap ps hle hP x1 x2 y1 y2 hT hval (by omega) l2 l3 k1 k2 k3 k4
      · have HM1 : Hid (mayB x1 x2 = true) := Lib.hid hm1
        have HM2 : Hid (mayB y1 y2 = false) := Lib.hid (by simpa using hm2)
        clear hm1 hm2 hva
        go_enter Tryd.func8, Tryd.ntmps8
        go_wp2_with fail
        refine (head_any _ ((hT.alloc _).alloc _)).mono ?_; rintro e w1 ⟨rfl, hb⟩
        have hX := blk_call (blk_alloc (blk_new w (.cells #[.int .i64 x1, .int .i64 x2] 25) _ rfl) (.cells #[.int .i64 y1, .int .i64 y2] 25)) hb
        have hY := blk_call (blk_new (w.alloc (.cells #[.int .i64 x1, .int .i64 x2] 25)) (.cells #[.int .i64 y1, .int .i64 y2] 25) (w.heap.size + 1) (by simp)) hb
        replace hB := belT (belA (belA hB _) _) hb
        replace hP := prow_below (prow_alloc (prow_alloc hP _) _) hb
        clear hb hT
        go_wp2_with fail
        refine (valid_is _ _ cap ps true _ rfl hval hle hP).mono ?_; rintro e w2 ⟨rfl, hb⟩
        replace hB := belT hB hb
        replace hP := prow_below hP hb
        replace hX := blk_call hX hb
        replace hY := blk_call hY hb
        clear hb
        have x0 := blk_cell hX 0 _ rfl
        have x1' := blk_cell hX 1 _ rfl
        have y0 := blk_cell hY 0 _ rfl
        have y1' := blk_cell hY 1 _ rfl
        go_wp2_with fail
        refine (may_any x1 x2 true _ HM1).mono ?_; rintro e w3 ⟨rfl, hb⟩
        clear x0 x1' y0 y1'
        replace hB := belT hB hb
        replace hP := prow_below hP hb
        replace hX := blk_call hX hb
        replace hY := blk_call hY hb
        clear hb
        have x0 := blk_cell hX 0 _ rfl
        have x1' := blk_cell hX 1 _ rfl
        have y0 := blk_cell hY 0 _ rfl
        have y1' := blk_cell hY 1 _ rfl
        go_wp2_with fail
        refine (may_any y1 y2 false _ HM2).mono ?_; rintro e w4 ⟨rfl, hb⟩
        clear x0 x1' y0 y1'
        replace hB := belT hB hb
        replace hP := prow_below hP hb
        replace hX := blk_call hX hb
        replace hY := blk_call hY hb
        clear hb
        go_wp2_with fail
        go_ret
        exact ⟨rfl, hB⟩
    · have HM1 : Hid (mayB x1 x2 = false) := Lib.hid (by simpa using hm1)
      clear hm1 hva
      go_enter Tryd.func8, Tryd.ntmps8
      go_wp2_with fail
      refine (head_any _ ((hT.alloc _).alloc _)).mono ?_; rintro e w1 ⟨rfl, hb⟩
      have hX := blk_call (blk_alloc (blk_new w (.cells #[.int .i64 x1, .int .i64 x2] 25) _ rfl) (.cells #[.int .i64 y1, .int .i64 y2] 25)) hb
      have hY := blk_call (blk_new (w.alloc (.cells #[.int .i64 x1, .int .i64 x2] 25)) (.cells #[.int .i64 y1, .int .i64 y2] 25) (w.heap.size + 1) (by simp)) hb
      replace hB := belT (belA (belA hB _) _) hb
      replace hP := prow_below (prow_alloc (prow_alloc hP _) _) hb
      clear hb hT
      go_wp2_with fail
      refine (valid_is _ _ cap ps true _ rfl hval hle hP).mono ?_; rintro e w2 ⟨rfl, hb⟩
      replace hB := belT hB hb
      replace hP := prow_below hP hb
      replace hX := blk_call hX hb
      replace hY := blk_call hY hb
      clear hb
      have x0 := blk_cell hX 0 _ rfl
      have x1' := blk_cell hX 1 _ rfl
      have y0 := blk_cell hY 0 _ rfl
      have y1' := blk_cell hY 1 _ rfl
      go_wp2_with fail
      refine (may_any x1 x2 false _ HM1).mono ?_; rintro e w3 ⟨rfl, hb⟩
      clear x0 x1' y0 y1'
      replace hB := belT hB hb
      replace hP := prow_below hP hb
      replace hX := blk_call hX hb
      replace hY := blk_call hY hb
      clear hb
      go_wp2_with fail
      go_ret
      exact ⟨rfl, hB⟩
  · have hval : Hid (validP ps = false) := Lib.hid (by simpa using hva)
    clear hva
    go_enter Tryd.func8, Tryd.ntmps8
    go_wp2_with fail
    refine (head_any _ ((hT.alloc _).alloc _)).mono ?_; rintro e w1 ⟨rfl, hb⟩
    have hX := blk_call (blk_alloc (blk_new w (.cells #[.int .i64 x1, .int .i64 x2] 25) _ rfl) (.cells #[.int .i64 y1, .int .i64 y2] 25)) hb
    have hY := blk_call (blk_new (w.alloc (.cells #[.int .i64 x1, .int .i64 x2] 25)) (.cells #[.int .i64 y1, .int .i64 y2] 25) (w.heap.size + 1) (by simp)) hb
    replace hB := belT (belA (belA hB _) _) hb
    replace hP := prow_below (prow_alloc (prow_alloc hP _) _) hb
    clear hb hT
    go_wp2_with fail
    refine (valid_is _ _ cap ps false _ rfl hval hle hP).mono ?_; rintro e w2 ⟨rfl, hb⟩
    replace hB := belT hB hb
    replace hP := prow_below hP hb
    replace hX := blk_call hX hb
    replace hY := blk_call hY hb
    clear hb
    go_wp2_with fail
    go_ret
    exact ⟨rfl, hB⟩

set_option maxRecDepth 100000 in
theorem lifted (os : Os) (started : os.Started) (H : Type) (enc : TypeId × Value → H) :
    ReturnsInHanded {} Tryd.checked os 8 .any (fun w args => (Rows.polygonLocationIsConsistentSpec.pre enc Tryd.prog Tryd.f8 [] false w args ∧ laidMetH Tryd.prog Rows.polygonLocationIsConsistentRow.laid w) ∧ sizedMet enc Tryd.prog Tryd.f8 (OpenSpec.ofChange Rows.polygonLocationIsConsistentSpec) false w args)
      (Rows.polygonLocationIsConsistentSpec.post enc Tryd.prog Tryd.f8 false true false false) := by
  refine returnsInHanded_of_change_and (C := Tryd.checked) (X := fun w _ => laidMetH Tryd.prog Rows.polygonLocationIsConsistentRow.laid w) (fun _ _ _ hh h => h.of_heap hh) Rot.own started (by kernel_rfl) Tryd.func8
    (ChangeSpec.witness_shaped (enc := enc) (C := Tryd.checked) (os := os) (X := fun w _ => laidMetH Tryd.prog Rows.polygonLocationIsConsistentRow.laid w) false (World.doorLaid Tryd.prog 600 os) #[.slice none 0 0, .agg #[.int .i64 0, .int .i64 0], .agg #[.int .i64 0, .int .i64 0]] 8 rfl (World.shaped_of_RefB (by kernel_rfl) (by kernel_rfl)) (by kernel_rfl) (by kernel_rfl) (by kernel_rfl) (show laidMetH Tryd.prog [(Rot.qn, Rows.laid_ambidexter_rotation_quadrant)] _ from Rot.door_met os _)) ?_
  intro W base args ds gs before hval0 hW _ _ hL _
  have hval : ∀ (j : Nat) t v, Tryd.f8.params[j]? = some t → args[j]? = some v → Value.okWide Tryd.prog W .any base t v := hval0
  have hW' := hW
  obtain ⟨p, q, hA0, hV, rfl, hfz, hnd⟩ := hW
  have hA : DataW.TrodAll enc Tryd.prog W 0 (fun _ => true) true Tryd.f8.params.toList args.toList ds p := hA0
  rw [Tryd.params8] at hA hval
  obtain ⟨v0, vs0, d0, ds0, p0, q0, hargs, rfl, rfl, h0, r0⟩ := trodAll_cons hA
  obtain ⟨v1, vs1, d1, ds1, p1, q1, rfl, rfl, rfl, h1, r1⟩ := trodAll_cons r0
  obtain ⟨v2, vs2, d2, ds2, p2, q2, rfl, rfl, rfl, h2, r2⟩ := trodAll_cons r1
  obtain ⟨rfl, rfl, rfl⟩ := trodAll_nil r2
  obtain rfl : args = #[v0, v1, v2] := by cases args; simp_all
  obtain ⟨rfl, rfl⟩ := trodVars_none hV
  have k0 := h0
  have lt0 : ∀ x ∈ p0, x.block < W.heap.size := by obtain ⟨m, hm⟩ := k0; exact DataW.trod_lt m _ _ _ hm
  obtain ⟨a0, cap0, l0, rfl, n0, w0⟩ := Fr.open_pts (hval 0 23 v0 rfl rfl) h0
  have k1 := h1
  have lt1 : ∀ x ∈ p1, x.block < W.heap.size := by obtain ⟨m, hm⟩ := k1; exact DataW.trod_lt m _ _ _ hm
  obtain ⟨x1, y1, rfl⟩ := Fr.open_pt (hval 1 25 v1 rfl rfl) h1
  have k2 := h2
  have lt2 : ∀ x ∈ p2, x.block < W.heap.size := by obtain ⟨m, hm⟩ := k2; exact DataW.trod_lt m _ _ _ hm
  obtain ⟨x2, y2, rfl⟩ := Fr.open_pt (hval 2 25 v2 rfl rfl) h2
  clear hA0 hval0
  simp only [List.append_nil] at hW'
  refine (walk a0 cap0 l0 n0 w0 x1 y1 x2 y2 (Rot.tab_of_laid hL)).mono fun e W' ⟨he, bel⟩ => ?_
  subst he
  exact ⟨_, rfl, _, _, _, [], _, [], hW', trodAll_mk1 (shut_bool Tryd.underlying4 _), (trodAll_cons_mk (Below.trod Fr.laidOut (by kernel_rfl) (of_decide_eq_true (by kernel_rfl)) k0 bel lt0) (trodAll_cons_mk (Below.trod Fr.laidOut (by kernel_rfl) (of_decide_eq_true (by kernel_rfl)) k1 bel lt1) (trodAll_cons_mk (Below.trod Fr.laidOut (by kernel_rfl) (of_decide_eq_true (by kernel_rfl)) k2 bel lt2) trodAll_mk0))), rfl, bel.frame _, fun h => by cases h⟩

theorem holds : Rows.PolygonLocationIsConsistentSaid :=
  OpenClaim.holds_of_wide 8 Tryd.f8 rfl rfl rfl rfl rfl rfl rfl ⟨rfl, rfl, rfl, rfl, rfl⟩ rfl rfl rfl rfl rfl (by kernel_rfl) Tryd.func8 (by kernel_rfl)
    (of_decide_eq_true (by kernel_rfl)) (by unfold Func.isWrapper; first | (rw [if_pos (by decide +kernel)]; kernel_rfl) | (rw [if_neg (by decide +kernel)]; exact ⟨rfl, rfl⟩))
    (fun os started H enc _ => lifted os started H enc)

/-- THE STATEMENT: the tied card. -/
theorem card_holds : Rows.PolygonLocationIsConsistentCardSaid :=
  Claim7.holds_tied_plain_at .later [] [.data] true Rows.polygonLocationIsConsistentCard.stood.harness false
    holds (fun _ h => by cases h) (by kernel_rfl) (fun _ h => by cases h) polygonLocationIsConsistent_row_tie rfl ⟨rfl, rfl⟩ (by kernel_rfl) rfl
    (fun f fn hf hfn => by
      obtain rfl : f = 8 := Option.some.inj ((show Tryd.prog.funcNamed Rows.polygonLocationIsConsistentRow.func = some 8 by kernel_rfl).symm.trans hf) |>.symm
      obtain rfl : fn = Tryd.f8 := (Option.some.inj (Tryd.func8.symm.trans hfn)).symm
      exact ⟨by kernel_rfl, fun j t ht => by
        rw [Tryd.params8] at ht
        have hm : t ∈ [23, 25] := by have := Array.mem_of_getElem? ht; simp only [List.mem_toArray, List.mem_cons, List.not_mem_nil, or_false] at this ⊢; grind
        have hall : ([23, 25].all fun u => !Tryd.prog.wantsStandIn u) = true := by kernel_rfl
        exact (show Tryd.prog.wantsStandIn t = false by simpa using List.all_eq_true.1 hall t hm)⟩)
    (by kernel_rfl)
#print axioms card_holds
end Go.Proofs.YthmcejeeohlafaaDoor.polygonLocationIsConsistent
