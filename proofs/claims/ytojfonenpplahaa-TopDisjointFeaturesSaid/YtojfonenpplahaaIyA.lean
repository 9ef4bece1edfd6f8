/- Contracts of yardR14, boxR14 and head05 of the combined statements: the fixed examples; head05 returns true in every world. -/
import Derived.Test.YtojfonenpplahaaIxH
import Derived.Test.YtojfonenpplahaaIxI
import Derived.Test.YtojfonenpplahaaHlV
import Derived.Test.YtojfonenpplahaaHlN
import Derived.Test.YtojfonenpplahaaHlO
import Derived.Test.YtojfonenpplahaaHuG
namespace Go.Proofs.Ytojfonenpplahaa
open Go.ChangeShapes Go.WideShapes Go.ChangeAt Go.RowKit
set_option linter.unusedVariables false
set_option linter.unusedSimpArgs false

def yardL : List (Int × Int) := [(0, 0), (8, 0), (8, 2), (2, 2), (2, 6), (8, 6), (8, 8), (0, 8)]
def yardH : List (Int × Int) := [(0, 0), (8, 0), (8, 8), (0, 8)]
def yardP : List (List (Int × Int)) := [[(0, 0), (8, 0), (8, 2)], [(0, 0), (8, 2), (2, 2)], [(0, 8), (0, 0), (2, 2)], [(0, 8), (2, 2), (2, 6)], [(0, 8), (2, 6), (8, 6)], [(8, 6), (8, 8), (0, 8)]]
theorem yard_valid : validP yardL = true := by kernel_rfl
theorem yard_area : area2 yardL = 80 := by kernel_rfl
theorem yardH_area : area2 yardH = 128 := by kernel_rfl
theorem yard_hull : hullL yardL = yardH := hullL_eq (isHull_of (by kernel_rfl))
theorem yard_dec : decL yardL = yardP := by kernel_rfl
theorem yard_ori : ori 0 0 8 0 8 2 = 1 := by kernel_rfl
theorem yard_t1 : touchB yardL (sqL 5 3 7 5) = false := by kernel_rfl
theorem yard_t2 : touchB yardL (sqL 0 3 2 5) = true := by kernel_rfl
theorem yard_t3 : touchB yardH (sqL 5 3 7 5) = true := by kernel_rfl
theorem yard_s : sepT (sqL 0 0 2 2) (sqL 3 0 5 2) = (0, 1, true) := by kernel_rfl
theorem yard_sums : ∀ k, k < 6 → (0 ≤ sumA (yardP.take k) ∧ sumA (yardP.take k) ≤ 80) ∧ (yardP.getD k []).length = 3 ∧ sumA (yardP.take (k + 1)) = sumA (yardP.take k) + area2 (yardP.getD k []) ∧ 0 ≤ area2 (yardP.getD k []) ∧ area2 (yardP.getD k []) ≤ 80 := by decide
theorem yard_sum : sumA (yardP.take 6) = 80 := by decide
theorem yard_bd : AllV yardL := allV_of (by decide)
theorem yardH_bd : AllV yardH := allV_of (by decide)
theorem yardP_bd : ∀ k, k < 6 → AllV (yardP.getD k []) := fun k hk => by
  match k, hk with
  | 0, _ => exact allV_of (by decide)
  | 1, _ => exact allV_of (by decide)
  | 2, _ => exact allV_of (by decide)
  | 3, _ => exact allV_of (by decide)
  | 4, _ => exact allV_of (by decide)
  | 5, _ => exact allV_of (by decide)
theorem prow_z {w : World} {g : Nat} {l : List (Int × Int)} (h : PRow w (some ⟨g, 0, none⟩) l) {i : Nat} (hi : i < l.length) : w.cell? ⟨g, i * 2, none⟩ = some (.int .i64 (cx l i)) ∧ w.cell? ⟨g, i * 2 + 1, none⟩ = some (.int .i64 (cy l i)) := by
  obtain ⟨b, o, e, c1, c2⟩ := prow_at h hi
  obtain ⟨rfl, rfl⟩ : g = b ∧ 0 = o := by simpa using e
  rw [Nat.zero_add] at c1 c2
  exact ⟨c1, c2⟩

theorem yard_is (w : World) : Calls Try.prog 81 #[] w fun e w' => (∃ g, e = .returned (.slice (some ⟨g, 0, none⟩) 8 8) ∧ PRow w' (some ⟨g, 0, none⟩) yardL) ∧ Below w.heap.size w w' := by
  go_enter Try.func81, Try.ntmps81
  go_wp2
  go_ret
  exact ⟨⟨_, rfl, row_of5 (T := 47) (blk_new _ _ _ rfl)⟩, belA (Below.refl _ _) _⟩
theorem box_is (x y a b : Int) (w : World) (ha : Hid (x + 2 = a)) (hb : Hid (y + 2 = b)) (b1 : -1000 ≤ x ∧ x ≤ 1000) (b2 : -1000 ≤ y ∧ y ≤ 1000) :
    Calls Try.prog 82 #[.int .i64 x, .int .i64 y] w fun e w' => (∃ g, e = .returned (.slice (some ⟨g, 0, none⟩) 4 4) ∧ PRow w' (some ⟨g, 0, none⟩) (sqL x y a b)) ∧ Below w.heap.size w w' := by
  have h1 : IntKind.i64.wrap (x + 2) = a := by rw [wrap_k _ (by omega)]; exact ha.out
  have h2 : IntKind.i64.wrap (y + 2) = b := by rw [wrap_k _ (by omega)]; exact hb.out
  go_enter Try.func82, Try.ntmps82
  go_wp2
  go_ret
  refine ⟨⟨_, rfl, row_of5 (T := 47) (blk_new _ _ _ rfl)⟩, belA (Below.refl _ _) _⟩
theorem ar_sq {x y a b : Int} (h1 : -1000 ≤ x ∧ x ≤ 1000) (h2 : -1000 ≤ y ∧ y ≤ 1000) (h3 : -1000 ≤ a ∧ a ≤ 1000) (h4 : -1000 ≤ b ∧ b ≤ 1000) : AllR2 (sqL x y a b) := allr_sq (by unfold InR; omega) (by unfold InR; omega) (by unfold InR; omega) (by unfold InR; omega)

set_option maxRecDepth 100000 in
set_option maxHeartbeats 32000000 in
theorem head05_is (w : World) : Calls Try.prog 40 #[] w fun e w' => e = .returned (.bool true) ∧ Below w.heap.size w w' := by
  go_enter Try.func40, Try.ntmps40
  go_wp2_with fail
  refine (yard_is _).mono ?_
  rintro e w1 ⟨⟨gy, rfl, R1⟩, hb1⟩
  have HB := Lib.hid hb1
  have RY := Lib.hid R1
  clear hb1 R1
  go_wp2_with fail
  refine (decompose_is (some ⟨gy, 0, none⟩) 8 8 yardL yardP w1 rfl (Lib.hid yard_dec) (by decide) (by decide) RY.out yard_bd).mono ?_
  rintro e w2 ⟨⟨bo, cb, rfl, hp⟩, hb⟩
  have QP := Lib.hid hp
  replace RY := Lib.hid (prow_below RY.out hb)
  replace HB := Lib.hid (belT HB.out hb)
  clear hp hb
  go_wp2_with fail
  refine (of_is (some ⟨gy, 0, none⟩) 8 8 yardL yardH true w2 rfl (Lib.hid yard_hull) (Lib.hid (by decide)) (by decide) RY.out yard_bd).mono ?_
  rintro e w3 ⟨⟨ah, ch, rfl, hp⟩, hb⟩
  have RH := Lib.hid hp
  replace QP := Lib.hid (prows_below QP.out hb)
  replace RY := Lib.hid (prow_below RY.out hb)
  replace HB := Lib.hid (belT HB.out hb)
  clear hp hb
  have lp : yardP.length = 6 := rfl
  have lh : yardH.length = 4 := rfl
  rw [lp, lh]
  go_wp2_with fail
  go_loopw [5, 6] (fun s i wr => ∃ k : Nat, k ≤ 6 ∧ i = .int .i64 k ∧ s = .int .i64 (sumA (yardP.take k)) ∧ Below w3.heap.size w3 wr) (fun _ i _ => 6 - (intOf i).toNat)
  case atStart => exact ⟨0, Nat.zero_le _, rfl, rfl, Below.refl _ _⟩
  case round =>
    obtain ⟨k, hk, rfl, rfl, hB⟩ := hrel
    by_cases hlt : k < 6
    · obtain ⟨b, o, ao, c, rfl, c1, hpr⟩ := QP.out k hlt
      obtain ⟨⟨s1, s2⟩, s3, s4, s5, s6⟩ := yard_sums k hlt
      have hV := yardP_bd k hlt
      have hki : (k : Int) < 6 := by omega
      have HS := Lib.hid s4
      generalize yardP.getD k [] = T at *
      rw [s3] at c1
      have d1 := (hB.cell (World.block_lt_of_cell? w3 _ c1)).trans c1
      have hpr2 := prow_below hpr hB
      have P2 := Lib.hid hpr2
      have V2 := Lib.hid hV
      have B2 := Lib.hid hB
      generalize sumA (yardP.take k) = S at *
      obtain ⟨v, hv⟩ : ∃ v, area2 T = v := ⟨_, rfl⟩
      rw [hv] at s5 s6 HS
      have HV := Lib.hid hv
      have hw : IntKind.i64.wrap (S + v) = S + v := wrap_k _ (by omega)
      clear c1 hpr hpr2 hV hB s4 hv
      go_wp2_with fail
      refine (area_at ao 3 c T v wr s3 HV (by omega) (by omega) P2.out V2.out).mono ?_
      rintro e wx ⟨rfl, hb⟩
      have B3 := Lib.hid (belT B2.out hb)
      clear hb d1 P2 V2 B2
      go_wp2_with fail
      go_roundw
      case rel => exact ⟨k + 1, by omega, by go_num, by rw [HS.out], B3.out⟩
      case measure => simp [intOf]; omega
    · obtain rfl : k = 6 := by omega
      rw [yard_sum]
      have hki : ¬ (((6 : Nat) : Int) < 6) := by omega
      replace RY := Lib.hid (prow_below RY.out hB)
      replace RH := Lib.hid (prow_below RH.out hB)
      replace HB := Lib.hid (belT HB.out hB)
      clear hB QP
      go_wp2_with fail
      refine (box_is 0 0 2 2 _ (Lib.hid (by omega)) (Lib.hid (by omega)) (by omega) (by omega)).mono ?_
      rintro e w4 ⟨⟨g4, rfl, R4⟩, hb⟩
      replace RY := Lib.hid (prow_below RY.out hb)
      replace RH := Lib.hid (prow_below RH.out hb)
      replace HB := Lib.hid (belT HB.out hb)
      have RA := Lib.hid R4
      clear hb R4
      go_wp2_with fail
      refine (box_is 3 0 5 2 _ (Lib.hid (by omega)) (Lib.hid (by omega)) (by omega) (by omega)).mono ?_
      rintro e w5 ⟨⟨g5, rfl, R5⟩, hb⟩
      replace RY := Lib.hid (prow_below RY.out hb)
      replace RH := Lib.hid (prow_below RH.out hb)
      replace HB := Lib.hid (belT HB.out hb)
      replace RA := Lib.hid (prow_below RA.out hb)
      have RB := Lib.hid R5
      clear hb R5
      go_wp2_with fail
      refine (sepedge_is (some ⟨g4, 0, none⟩) (some ⟨g5, 0, none⟩) 4 4 4 4 (sqL 0 0 2 2) (sqL 3 0 5 2) 0 1 true _ rfl rfl (Lib.hid yard_s) (by omega) (by omega) (by omega) (by omega) RA.out RB.out (ar_sq (by omega) (by omega) (by omega) (by omega)) (ar_sq (by omega) (by omega) (by omega) (by omega))).mono ?_
      rintro e w6 ⟨rfl, hb⟩
      have hpy := prow_alloc (prow_below RY.out hb) (.cells #[.int .i64 0, .int .i64 1] 35)
      have hph := prow_alloc (prow_below RH.out hb) (.cells #[.int .i64 0, .int .i64 1] 35)
      have hbb := belA (belT HB.out hb) (.cells #[.int .i64 0, .int .i64 1] 35)
      clear hb HB RY RH RA RB
      go_upto_region 10 with fail
      generalize w6.alloc (.cells #[.int .i64 0, .int .i64 1] 35) = wr at *
      have y0 : wr.cell? ⟨gy, 0, none⟩ = some (.int .i64 0) := (prow_z hpy (i := 0) (by decide)).1
      have y1 : wr.cell? ⟨gy, 1, none⟩ = some (.int .i64 0) := (prow_z hpy (i := 0) (by decide)).2
      have y2 : wr.cell? ⟨gy, 2, none⟩ = some (.int .i64 8) := (prow_z hpy (i := 1) (by decide)).1
      have y3 : wr.cell? ⟨gy, 3, none⟩ = some (.int .i64 0) := (prow_z hpy (i := 1) (by decide)).2
      have y4 : wr.cell? ⟨gy, 4, none⟩ = some (.int .i64 8) := (prow_z hpy (i := 2) (by decide)).1
      have y5 : wr.cell? ⟨gy, 5, none⟩ = some (.int .i64 2) := (prow_z hpy (i := 2) (by decide)).2
      have PY := Lib.hid hpy
      have PH := Lib.hid hph
      have HB := Lib.hid hbb
      clear hpy hph hbb
      obtain ⟨sp, hsp⟩ : ∃ sp : ToldS, sp = [none, none, none, none, none, none, none, none, none, none, none, none, none, none, none, none, none, none, none, none, none, none, none, none, none, none, none, none, none, none, none, none, none, none, none, none, some (eqS (.slice (some ⟨gy, 0, none⟩) 8 8)), some (eqS (.bool true)), some (eqS (.bool true)), some (eqS (.int .i64 80)), some (eqS (.bool true)), some (eqS (.bool true)), some (eqS (.bool true)), some (eqS (.slice (some ⟨gy, 0, none⟩) 8 8)), some (eqS (.int .i64 80)), some (eqS (.bool true)), some (eqS (.bool true)), some (eqS (.bool true)), some (eqS (.bool true)), some (eqS (.bool true)), some (eqS (.bool true)), some (eqS (.slice ah 4 ch)), some (eqS (.int .i64 128)), some (eqS (.bool true)), some (eqS (.bool true)), some (eqS (.bool true)), some (eqS (.slice (some ⟨gy, 0, none⟩) 8 8)), some (rowS (sqL 5 3 7 5)), some (eqS (.bool false)), some (eqS (.bool true)), some (eqS (.bool true)), some (eqS (.bool true)), some (eqS (.slice (some ⟨gy, 0, none⟩) 8 8)), some (rowS (sqL 0 3 2 5)), some (eqS (.bool true)), some (eqS (.bool true)), some (eqS (.bool true)), some (eqS (.slice ah 4 ch)), some (rowS (sqL 5 3 7 5)), some (eqS (.bool true)), some (eqS (.bool true)), some (eqS (.bool true)), some (eqS (.bool true)), some (eqS (.bool true)), some (eqS (.bool true)), some (eqS (.slice (some ⟨gy, 0, none⟩) 8 8)), some (eqS (.pointer (some ⟨gy, 0, none⟩))), some (eqS (.agg #[.int .i64 0, .int .i64 0])), some (eqS (.slice (some ⟨gy, 0, none⟩) 8 8)), some (eqS (.pointer (some ⟨gy, 2, none⟩))), some (eqS (.agg #[.int .i64 8, .int .i64 0])), some (eqS (.slice (some ⟨gy, 0, none⟩) 8 8)), some (eqS (.pointer (some ⟨gy, 4, none⟩))), some (eqS (.agg #[.int .i64 8, .int .i64 2])), some (eqS (.int .i64 1)), some (eqS (.bool true)), some (eqS (.bool true))] := ⟨_, rfl⟩
      have s36 : sp.getD 36 none = some (eqS (.slice (some ⟨gy, 0, none⟩) 8 8)) := by rw [hsp]; rfl
      have s37 : sp.getD 37 none = some (eqS (.bool true)) := by rw [hsp]; rfl
      have s38 : sp.getD 38 none = some (eqS (.bool true)) := by rw [hsp]; rfl
      have s39 : sp.getD 39 none = some (eqS (.int .i64 80)) := by rw [hsp]; rfl
      have s40 : sp.getD 40 none = some (eqS (.bool true)) := by rw [hsp]; rfl
      have s41 : sp.getD 41 none = some (eqS (.bool true)) := by rw [hsp]; rfl
      have s42 : sp.getD 42 none = some (eqS (.bool true)) := by rw [hsp]; rfl
      have s43 : sp.getD 43 none = some (eqS (.slice (some ⟨gy, 0, none⟩) 8 8)) := by rw [hsp]; rfl
      have s44 : sp.getD 44 none = some (eqS (.int .i64 80)) := by rw [hsp]; rfl
      have s45 : sp.getD 45 none = some (eqS (.bool true)) := by rw [hsp]; rfl
      have s46 : sp.getD 46 none = some (eqS (.bool true)) := by rw [hsp]; rfl
      have s47 : sp.getD 47 none = some (eqS (.bool true)) := by rw [hsp]; rfl
      have s48 : sp.getD 48 none = some (eqS (.bool true)) := by rw [hsp]; rfl
      have s49 : sp.getD 49 none = some (eqS (.bool true)) := by rw [hsp]; rfl
      have s50 : sp.getD 50 none = some (eqS (.bool true)) := by rw [hsp]; rfl
      have s51 : sp.getD 51 none = some (eqS (.slice ah 4 ch)) := by rw [hsp]; rfl
      have s52 : sp.getD 52 none = some (eqS (.int .i64 128)) := by rw [hsp]; rfl
      have s53 : sp.getD 53 none = some (eqS (.bool true)) := by rw [hsp]; rfl
      have s54 : sp.getD 54 none = some (eqS (.bool true)) := by rw [hsp]; rfl
      have s55 : sp.getD 55 none = some (eqS (.bool true)) := by rw [hsp]; rfl
      have s56 : sp.getD 56 none = some (eqS (.slice (some ⟨gy, 0, none⟩) 8 8)) := by rw [hsp]; rfl
      have s57 : sp.getD 57 none = some (rowS (sqL 5 3 7 5)) := by rw [hsp]; rfl
      have s58 : sp.getD 58 none = some (eqS (.bool false)) := by rw [hsp]; rfl
      have s59 : sp.getD 59 none = some (eqS (.bool true)) := by rw [hsp]; rfl
      have s60 : sp.getD 60 none = some (eqS (.bool true)) := by rw [hsp]; rfl
      have s61 : sp.getD 61 none = some (eqS (.bool true)) := by rw [hsp]; rfl
      have s62 : sp.getD 62 none = some (eqS (.slice (some ⟨gy, 0, none⟩) 8 8)) := by rw [hsp]; rfl
      have s63 : sp.getD 63 none = some (rowS (sqL 0 3 2 5)) := by rw [hsp]; rfl
      have s64 : sp.getD 64 none = some (eqS (.bool true)) := by rw [hsp]; rfl
      have s65 : sp.getD 65 none = some (eqS (.bool true)) := by rw [hsp]; rfl
      have s66 : sp.getD 66 none = some (eqS (.bool true)) := by rw [hsp]; rfl
      have s67 : sp.getD 67 none = some (eqS (.slice ah 4 ch)) := by rw [hsp]; rfl
      have s68 : sp.getD 68 none = some (rowS (sqL 5 3 7 5)) := by rw [hsp]; rfl
      have s69 : sp.getD 69 none = some (eqS (.bool true)) := by rw [hsp]; rfl
      have s70 : sp.getD 70 none = some (eqS (.bool true)) := by rw [hsp]; rfl
      have s71 : sp.getD 71 none = some (eqS (.bool true)) := by rw [hsp]; rfl
      have s72 : sp.getD 72 none = some (eqS (.bool true)) := by rw [hsp]; rfl
      have s73 : sp.getD 73 none = some (eqS (.bool true)) := by rw [hsp]; rfl
      have s74 : sp.getD 74 none = some (eqS (.bool true)) := by rw [hsp]; rfl
      have s75 : sp.getD 75 none = some (eqS (.slice (some ⟨gy, 0, none⟩) 8 8)) := by rw [hsp]; rfl
      have s76 : sp.getD 76 none = some (eqS (.pointer (some ⟨gy, 0, none⟩))) := by rw [hsp]; rfl
      have s77 : sp.getD 77 none = some (eqS (.agg #[.int .i64 0, .int .i64 0])) := by rw [hsp]; rfl
      have s78 : sp.getD 78 none = some (eqS (.slice (some ⟨gy, 0, none⟩) 8 8)) := by rw [hsp]; rfl
      have s79 : sp.getD 79 none = some (eqS (.pointer (some ⟨gy, 2, none⟩))) := by rw [hsp]; rfl
      have s80 : sp.getD 80 none = some (eqS (.agg #[.int .i64 8, .int .i64 0])) := by rw [hsp]; rfl
      have s81 : sp.getD 81 none = some (eqS (.slice (some ⟨gy, 0, none⟩) 8 8)) := by rw [hsp]; rfl
      have s82 : sp.getD 82 none = some (eqS (.pointer (some ⟨gy, 4, none⟩))) := by rw [hsp]; rfl
      have s83 : sp.getD 83 none = some (eqS (.agg #[.int .i64 8, .int .i64 2])) := by rw [hsp]; rfl
      have s84 : sp.getD 84 none = some (eqS (.int .i64 1)) := by rw [hsp]; rfl
      have s85 : sp.getD 85 none = some (eqS (.bool true)) := by rw [hsp]; rfl
      have s86 : sp.getD 86 none = some (eqS (.bool true)) := by rw [hsp]; rfl
      clear hsp
      refine (wpIn_wide (n := 0)).1 (region_headR (RtS sp) (rtS_keep sp) 51 rfl rfl rfl (by kernel_rfl) (by decide) (by kernel_rfl) (by kernel_rfl) (by kernel_rfl) ?_ ?_)
      · intro Q'; show ObsR _ _ _ _ _ _ _ _ (List.take _ _); simp only [List.take_succ_cons, List.take_zero]
        refine obsR_cons ?_ ?_
        · intro T wx K hB hF hD hK
          have g1 : T[1]? = some (.slice (some ⟨gy, 0, none⟩) 8 8) := hF 1 (freeM_of (by kernel_rfl))
          refine ob_yes (wanted_none rfl) ?_
          clear hF hD
          go_simp
          exact hK _ _ (Below.refl _ _) (rt_eqS s36)
        refine obsR_cons ?_ ?_
        · intro T wx K hB hF hD hK
          have g36 := get_eqS (hD 0 36 (by simp [Region.binds]) (by kernel_rfl)) s36
          refine ob_yes (wanted_none rfl) ?_
          clear hF hD
          go_simp
          refine (valid_is (some ⟨gy, 0, none⟩) 8 8 yardL true _ rfl (Lib.hid yard_valid) (by decide) (prow_below PY.out hB)).mono ?_; rintro e w9 ⟨rfl, hb⟩
          exact hK _ _ hb (rt_eqS s37)
        refine obsR_cons ?_ ?_
        · intro T wx K hB hF hD hK
          have g37 := get_eqS (hD 1 37 (by simp [Region.binds]) (by kernel_rfl)) s37
          refine ob_yes (wanted_none rfl) ?_
          clear hF hD
          go_simp
          exact hK _ _ (Below.refl _ _) (rt_eqS s38)
        refine obsR_cons ?_ ?_
        · intro T wx K hB hF hD hK
          have g38 := get_eqS (hD 2 38 (by simp [Region.binds]) (by kernel_rfl)) s38
          have g5 : T[5]? = some (.int .i64 80) := hF 5 (freeM_of (by kernel_rfl))
          refine ob_yes (wanted_yes rfl (by kernel_rfl) g38) ?_
          clear hF hD
          go_simp
          exact hK _ _ (Below.refl _ _) (rt_eqS s39)
        refine obsR_cons ?_ ?_
        · intro T wx K hB hF hD hK
          have g38 := get_eqS (hD 2 38 (by simp [Region.binds]) (by kernel_rfl)) s38
          have g39 := get_eqS (hD 3 39 (by simp [Region.binds]) (by kernel_rfl)) s39
          refine ob_yes (wanted_yes rfl (by kernel_rfl) g38) ?_
          clear hF hD
          go_simp
          exact hK _ _ (Below.refl _ _) (rt_eqS s40)
        refine obsR_cons ?_ ?_
        · intro T wx K hB hF hD hK
          have g38 := get_eqS (hD 2 38 (by simp [Region.binds]) (by kernel_rfl)) s38
          have g40 := get_eqS (hD 4 40 (by simp [Region.binds]) (by kernel_rfl)) s40
          refine ob_yes (wanted_none rfl) ?_
          clear hF hD
          go_simp
          exact hK _ _ (Below.refl _ _) (rt_eqS s41)
        refine obsR_cons ?_ ?_
        · intro T wx K hB hF hD hK
          have g41 := get_eqS (hD 5 41 (by simp [Region.binds]) (by kernel_rfl)) s41
          refine ob_yes (wanted_none rfl) ?_
          clear hF hD
          go_simp
          exact hK _ _ (Below.refl _ _) (rt_eqS s42)
        refine obsR_cons ?_ ?_
        · intro T wx K hB hF hD hK
          have g42 := get_eqS (hD 6 42 (by simp [Region.binds]) (by kernel_rfl)) s42
          have g1 : T[1]? = some (.slice (some ⟨gy, 0, none⟩) 8 8) := hF 1 (freeM_of (by kernel_rfl))
          refine ob_yes (wanted_yes rfl (by kernel_rfl) g42) ?_
          clear hF hD
          go_simp
          exact hK _ _ (Below.refl _ _) (rt_eqS s43)
        refine obsR_cons ?_ ?_
        · intro T wx K hB hF hD hK
          have g42 := get_eqS (hD 6 42 (by simp [Region.binds]) (by kernel_rfl)) s42
          have g43 := get_eqS (hD 7 43 (by simp [Region.binds]) (by kernel_rfl)) s43
          refine ob_yes (wanted_yes rfl (by kernel_rfl) g42) ?_
          clear hF hD
          go_simp
          refine (area_at (some ⟨gy, 0, none⟩) 8 8 yardL 80 _ rfl (Lib.hid yard_area) (by decide) (by decide) (prow_below PY.out hB) yard_bd).mono ?_; rintro e w9 ⟨rfl, hb⟩
          exact hK _ _ hb (rt_eqS s44)
        refine obsR_cons ?_ ?_
        · intro T wx K hB hF hD hK
          have g42 := get_eqS (hD 6 42 (by simp [Region.binds]) (by kernel_rfl)) s42
          have g44 := get_eqS (hD 8 44 (by simp [Region.binds]) (by kernel_rfl)) s44
          refine ob_yes (wanted_yes rfl (by kernel_rfl) g42) ?_
          clear hF hD
          go_simp
          exact hK _ _ (Below.refl _ _) (rt_eqS s45)
        refine obsR_cons ?_ ?_
        · intro T wx K hB hF hD hK
          have g42 := get_eqS (hD 6 42 (by simp [Region.binds]) (by kernel_rfl)) s42
          have g45 := get_eqS (hD 9 45 (by simp [Region.binds]) (by kernel_rfl)) s45
          refine ob_yes (wanted_none rfl) ?_
          clear hF hD
          go_simp
          exact hK _ _ (Below.refl _ _) (rt_eqS s46)
        refine obsR_cons ?_ ?_
        · intro T wx K hB hF hD hK
          have g46 := get_eqS (hD 10 46 (by simp [Region.binds]) (by kernel_rfl)) s46
          refine ob_yes (wanted_none rfl) ?_
          clear hF hD
          go_simp
          exact hK _ _ (Below.refl _ _) (rt_eqS s47)
        refine obsR_cons ?_ ?_
        · intro T wx K hB hF hD hK
          have g47 := get_eqS (hD 11 47 (by simp [Region.binds]) (by kernel_rfl)) s47
          have g4 : T[4]? = some (.bool true) := hF 4 (freeM_of (by kernel_rfl))
          refine ob_yes (wanted_yes rfl (by kernel_rfl) g47) ?_
          clear hF hD
          go_simp
          exact hK _ _ (Below.refl _ _) (rt_eqS s48)
        refine obsR_cons ?_ ?_
        · intro T wx K hB hF hD hK
          have g47 := get_eqS (hD 11 47 (by simp [Region.binds]) (by kernel_rfl)) s47
          have g48 := get_eqS (hD 12 48 (by simp [Region.binds]) (by kernel_rfl)) s48
          refine ob_yes (wanted_none rfl) ?_
          clear hF hD
          go_simp
          exact hK _ _ (Below.refl _ _) (rt_eqS s49)
        refine obsR_cons ?_ ?_
        · intro T wx K hB hF hD hK
          have g49 := get_eqS (hD 13 49 (by simp [Region.binds]) (by kernel_rfl)) s49
          refine ob_yes (wanted_none rfl) ?_
          clear hF hD
          go_simp
          exact hK _ _ (Below.refl _ _) (rt_eqS s50)
        refine obsR_cons ?_ ?_
        · intro T wx K hB hF hD hK
          have g50 := get_eqS (hD 14 50 (by simp [Region.binds]) (by kernel_rfl)) s50
          have g3 : T[3]? = some (.slice ah 4 ch) := hF 3 (freeM_of (by kernel_rfl))
          refine ob_yes (wanted_yes rfl (by kernel_rfl) g50) ?_
          clear hF hD
          go_simp
          exact hK _ _ (Below.refl _ _) (rt_eqS s51)
        refine obsR_cons ?_ ?_
        · intro T wx K hB hF hD hK
          have g50 := get_eqS (hD 14 50 (by simp [Region.binds]) (by kernel_rfl)) s50
          have g51 := get_eqS (hD 15 51 (by simp [Region.binds]) (by kernel_rfl)) s51
          refine ob_yes (wanted_yes rfl (by kernel_rfl) g50) ?_
          clear hF hD
          go_simp
          refine (area_at ah 4 ch yardH 128 _ rfl (Lib.hid yardH_area) (by decide) (by decide) (prow_below PH.out hB) yardH_bd).mono ?_; rintro e w9 ⟨rfl, hb⟩
          exact hK _ _ hb (rt_eqS s52)
        refine obsR_cons ?_ ?_
        · intro T wx K hB hF hD hK
          have g50 := get_eqS (hD 14 50 (by simp [Region.binds]) (by kernel_rfl)) s50
          have g52 := get_eqS (hD 16 52 (by simp [Region.binds]) (by kernel_rfl)) s52
          refine ob_yes (wanted_yes rfl (by kernel_rfl) g50) ?_
          clear hF hD
          go_simp
          exact hK _ _ (Below.refl _ _) (rt_eqS s53)
        refine obsR_cons ?_ ?_
        · intro T wx K hB hF hD hK
          have g50 := get_eqS (hD 14 50 (by simp [Region.binds]) (by kernel_rfl)) s50
          have g53 := get_eqS (hD 17 53 (by simp [Region.binds]) (by kernel_rfl)) s53
          refine ob_yes (wanted_none rfl) ?_
          clear hF hD
          go_simp
          exact hK _ _ (Below.refl _ _) (rt_eqS s54)
        refine obsR_cons ?_ ?_
        · intro T wx K hB hF hD hK
          have g54 := get_eqS (hD 18 54 (by simp [Region.binds]) (by kernel_rfl)) s54
          refine ob_yes (wanted_none rfl) ?_
          clear hF hD
          go_simp
          exact hK _ _ (Below.refl _ _) (rt_eqS s55)
        refine obsR_cons ?_ ?_
        · intro T wx K hB hF hD hK
          have g55 := get_eqS (hD 19 55 (by simp [Region.binds]) (by kernel_rfl)) s55
          have g1 : T[1]? = some (.slice (some ⟨gy, 0, none⟩) 8 8) := hF 1 (freeM_of (by kernel_rfl))
          refine ob_yes (wanted_yes rfl (by kernel_rfl) g55) ?_
          clear hF hD
          go_simp
          exact hK _ _ (Below.refl _ _) (rt_eqS s56)
        refine obsR_cons ?_ ?_
        · intro T wx K hB hF hD hK
          have g55 := get_eqS (hD 19 55 (by simp [Region.binds]) (by kernel_rfl)) s55
          refine ob_yes (wanted_yes rfl (by kernel_rfl) g55) ?_
          clear hF hD
          go_simp
          refine (box_is 5 3 7 5 _ (Lib.hid (by omega)) (Lib.hid (by omega)) (by omega) (by omega)).mono ?_; rintro e w9 ⟨⟨g9, rfl, r9⟩, hb⟩
          exact hK _ _ hb (rt_S s57 ⟨_, _, rfl, r9⟩)
        refine obsR_cons ?_ ?_
        · intro T wx K hB hF hD hK
          have g55 := get_eqS (hD 19 55 (by simp [Region.binds]) (by kernel_rfl)) s55
          have g56 := get_eqS (hD 20 56 (by simp [Region.binds]) (by kernel_rfl)) s56
          obtain ⟨v57, g57, ao57, c57, rfl, p57⟩ := getS (hD 21 57 (by simp [Region.binds]) (by kernel_rfl)) s57
          refine ob_yes (wanted_yes rfl (by kernel_rfl) g55) ?_
          clear hF hD
          go_simp
          refine (polygons_is (some ⟨gy, 0, none⟩) ao57 8 4 8 c57 yardL (sqL 5 3 7 5) false _ rfl rfl (Lib.hid yard_t1) (by decide) (by decide) (by decide) (by decide) (prow_below PY.out hB) p57 yard_bd.r2 (ar_sq (by omega) (by omega) (by omega) (by omega))).mono ?_; rintro e w9 ⟨rfl, hb⟩
          exact hK _ _ hb (rt_eqS s58)
        refine obsR_cons ?_ ?_
        · intro T wx K hB hF hD hK
          have g55 := get_eqS (hD 19 55 (by simp [Region.binds]) (by kernel_rfl)) s55
          have g58 := get_eqS (hD 22 58 (by simp [Region.binds]) (by kernel_rfl)) s58
          refine ob_yes (wanted_yes rfl (by kernel_rfl) g55) ?_
          clear hF hD
          go_simp
          exact hK _ _ (Below.refl _ _) (rt_eqS s59)
        refine obsR_cons ?_ ?_
        · intro T wx K hB hF hD hK
          have g55 := get_eqS (hD 19 55 (by simp [Region.binds]) (by kernel_rfl)) s55
          have g59 := get_eqS (hD 23 59 (by simp [Region.binds]) (by kernel_rfl)) s59
          refine ob_yes (wanted_none rfl) ?_
          clear hF hD
          go_simp
          exact hK _ _ (Below.refl _ _) (rt_eqS s60)
        refine obsR_cons ?_ ?_
        · intro T wx K hB hF hD hK
          have g60 := get_eqS (hD 24 60 (by simp [Region.binds]) (by kernel_rfl)) s60
          refine ob_yes (wanted_none rfl) ?_
          clear hF hD
          go_simp
          exact hK _ _ (Below.refl _ _) (rt_eqS s61)
        refine obsR_cons ?_ ?_
        · intro T wx K hB hF hD hK
          have g61 := get_eqS (hD 25 61 (by simp [Region.binds]) (by kernel_rfl)) s61
          have g1 : T[1]? = some (.slice (some ⟨gy, 0, none⟩) 8 8) := hF 1 (freeM_of (by kernel_rfl))
          refine ob_yes (wanted_yes rfl (by kernel_rfl) g61) ?_
          clear hF hD
          go_simp
          exact hK _ _ (Below.refl _ _) (rt_eqS s62)
        refine obsR_cons ?_ ?_
        · intro T wx K hB hF hD hK
          have g61 := get_eqS (hD 25 61 (by simp [Region.binds]) (by kernel_rfl)) s61
          refine ob_yes (wanted_yes rfl (by kernel_rfl) g61) ?_
          clear hF hD
          go_simp
          refine (box_is 0 3 2 5 _ (Lib.hid (by omega)) (Lib.hid (by omega)) (by omega) (by omega)).mono ?_; rintro e w9 ⟨⟨g9, rfl, r9⟩, hb⟩
          exact hK _ _ hb (rt_S s63 ⟨_, _, rfl, r9⟩)
        refine obsR_cons ?_ ?_
        · intro T wx K hB hF hD hK
          have g61 := get_eqS (hD 25 61 (by simp [Region.binds]) (by kernel_rfl)) s61
          have g62 := get_eqS (hD 26 62 (by simp [Region.binds]) (by kernel_rfl)) s62
          obtain ⟨v63, g63, ao63, c63, rfl, p63⟩ := getS (hD 27 63 (by simp [Region.binds]) (by kernel_rfl)) s63
          refine ob_yes (wanted_yes rfl (by kernel_rfl) g61) ?_
          clear hF hD
          go_simp
          refine (polygons_is (some ⟨gy, 0, none⟩) ao63 8 4 8 c63 yardL (sqL 0 3 2 5) true _ rfl rfl (Lib.hid yard_t2) (by decide) (by decide) (by decide) (by decide) (prow_below PY.out hB) p63 yard_bd.r2 (ar_sq (by omega) (by omega) (by omega) (by omega))).mono ?_; rintro e w9 ⟨rfl, hb⟩
          exact hK _ _ hb (rt_eqS s64)
        refine obsR_cons ?_ ?_
        · intro T wx K hB hF hD hK
          have g61 := get_eqS (hD 25 61 (by simp [Region.binds]) (by kernel_rfl)) s61
          have g64 := get_eqS (hD 28 64 (by simp [Region.binds]) (by kernel_rfl)) s64
          refine ob_yes (wanted_none rfl) ?_
          clear hF hD
          go_simp
          exact hK _ _ (Below.refl _ _) (rt_eqS s65)
        refine obsR_cons ?_ ?_
        · intro T wx K hB hF hD hK
          have g65 := get_eqS (hD 29 65 (by simp [Region.binds]) (by kernel_rfl)) s65
          refine ob_yes (wanted_none rfl) ?_
          clear hF hD
          go_simp
          exact hK _ _ (Below.refl _ _) (rt_eqS s66)
        refine obsR_cons ?_ ?_
        · intro T wx K hB hF hD hK
          have g66 := get_eqS (hD 30 66 (by simp [Region.binds]) (by kernel_rfl)) s66
          have g3 : T[3]? = some (.slice ah 4 ch) := hF 3 (freeM_of (by kernel_rfl))
          refine ob_yes (wanted_yes rfl (by kernel_rfl) g66) ?_
          clear hF hD
          go_simp
          exact hK _ _ (Below.refl _ _) (rt_eqS s67)
        refine obsR_cons ?_ ?_
        · intro T wx K hB hF hD hK
          have g66 := get_eqS (hD 30 66 (by simp [Region.binds]) (by kernel_rfl)) s66
          refine ob_yes (wanted_yes rfl (by kernel_rfl) g66) ?_
          clear hF hD
          go_simp
          refine (box_is 5 3 7 5 _ (Lib.hid (by omega)) (Lib.hid (by omega)) (by omega) (by omega)).mono ?_; rintro e w9 ⟨⟨g9, rfl, r9⟩, hb⟩
          exact hK _ _ hb (rt_S s68 ⟨_, _, rfl, r9⟩)
        refine obsR_cons ?_ ?_
        · intro T wx K hB hF hD hK
          have g66 := get_eqS (hD 30 66 (by simp [Region.binds]) (by kernel_rfl)) s66
          have g67 := get_eqS (hD 31 67 (by simp [Region.binds]) (by kernel_rfl)) s67
          obtain ⟨v68, g68, ao68, c68, rfl, p68⟩ := getS (hD 32 68 (by simp [Region.binds]) (by kernel_rfl)) s68
          refine ob_yes (wanted_yes rfl (by kernel_rfl) g66) ?_
          clear hF hD
          go_simp
          refine (polygons_is ah ao68 4 4 ch c68 yardH (sqL 5 3 7 5) true _ rfl rfl (Lib.hid yard_t3) (by decide) (by decide) (by decide) (by decide) (prow_below PH.out hB) p68 yardH_bd.r2 (ar_sq (by omega) (by omega) (by omega) (by omega))).mono ?_; rintro e w9 ⟨rfl, hb⟩
          exact hK _ _ hb (rt_eqS s69)
        refine obsR_cons ?_ ?_
        · intro T wx K hB hF hD hK
          have g66 := get_eqS (hD 30 66 (by simp [Region.binds]) (by kernel_rfl)) s66
          have g69 := get_eqS (hD 33 69 (by simp [Region.binds]) (by kernel_rfl)) s69
          refine ob_yes (wanted_none rfl) ?_
          clear hF hD
          go_simp
          exact hK _ _ (Below.refl _ _) (rt_eqS s70)
        refine obsR_cons ?_ ?_
        · intro T wx K hB hF hD hK
          have g70 := get_eqS (hD 34 70 (by simp [Region.binds]) (by kernel_rfl)) s70
          refine ob_yes (wanted_none rfl) ?_
          clear hF hD
          go_simp
          exact hK _ _ (Below.refl _ _) (rt_eqS s71)
        refine obsR_cons ?_ ?_
        · intro T wx K hB hF hD hK
          have g71 := get_eqS (hD 35 71 (by simp [Region.binds]) (by kernel_rfl)) s71
          have g8 : T[8]? = some (.bool true) := hF 8 (freeM_of (by kernel_rfl))
          refine ob_yes (wanted_yes rfl (by kernel_rfl) g71) ?_
          clear hF hD
          go_simp
          exact hK _ _ (Below.refl _ _) (rt_eqS s72)
        refine obsR_cons ?_ ?_
        · intro T wx K hB hF hD hK
          have g71 := get_eqS (hD 35 71 (by simp [Region.binds]) (by kernel_rfl)) s71
          have g72 := get_eqS (hD 36 72 (by simp [Region.binds]) (by kernel_rfl)) s72
          refine ob_yes (wanted_none rfl) ?_
          clear hF hD
          go_simp
          exact hK _ _ (Below.refl _ _) (rt_eqS s73)
        refine obsR_cons ?_ ?_
        · intro T wx K hB hF hD hK
          have g73 := get_eqS (hD 37 73 (by simp [Region.binds]) (by kernel_rfl)) s73
          refine ob_yes (wanted_none rfl) ?_
          clear hF hD
          go_simp
          exact hK _ _ (Below.refl _ _) (rt_eqS s74)
        refine obsR_cons ?_ ?_
        · intro T wx K hB hF hD hK
          have g74 := get_eqS (hD 38 74 (by simp [Region.binds]) (by kernel_rfl)) s74
          have g1 : T[1]? = some (.slice (some ⟨gy, 0, none⟩) 8 8) := hF 1 (freeM_of (by kernel_rfl))
          refine ob_yes (wanted_yes rfl (by kernel_rfl) g74) ?_
          clear hF hD
          go_simp
          exact hK _ _ (Below.refl _ _) (rt_eqS s75)
        refine obsR_cons ?_ ?_
        · intro T wx K hB hF hD hK
          have g74 := get_eqS (hD 38 74 (by simp [Region.binds]) (by kernel_rfl)) s74
          have g75 := get_eqS (hD 39 75 (by simp [Region.binds]) (by kernel_rfl)) s75
          refine ob_yes (wanted_yes rfl (by kernel_rfl) g74) ?_
          clear hF hD
          go_simp
          exact hK _ _ (Below.refl _ _) (rt_eqS s76)
        refine obsR_cons ?_ ?_
        · intro T wx K hB hF hD hK
          have g74 := get_eqS (hD 38 74 (by simp [Region.binds]) (by kernel_rfl)) s74
          have g76 := get_eqS (hD 40 76 (by simp [Region.binds]) (by kernel_rfl)) s76
          refine ob_yes (wanted_yes rfl (by kernel_rfl) g74) ?_
          clear hF hD
          have c0 := cell_call y0 hB
          have c1 := cell_call y1 hB
          go_simp
          exact hK _ _ (Below.refl _ _) (rt_eqS s77)
        refine obsR_cons ?_ ?_
        · intro T wx K hB hF hD hK
          have g74 := get_eqS (hD 38 74 (by simp [Region.binds]) (by kernel_rfl)) s74
          have g1 : T[1]? = some (.slice (some ⟨gy, 0, none⟩) 8 8) := hF 1 (freeM_of (by kernel_rfl))
          refine ob_yes (wanted_yes rfl (by kernel_rfl) g74) ?_
          clear hF hD
          go_simp
          exact hK _ _ (Below.refl _ _) (rt_eqS s78)
        refine obsR_cons ?_ ?_
        · intro T wx K hB hF hD hK
          have g74 := get_eqS (hD 38 74 (by simp [Region.binds]) (by kernel_rfl)) s74
          have g78 := get_eqS (hD 42 78 (by simp [Region.binds]) (by kernel_rfl)) s78
          refine ob_yes (wanted_yes rfl (by kernel_rfl) g74) ?_
          clear hF hD
          go_simp
          exact hK _ _ (Below.refl _ _) (rt_eqS s79)
        refine obsR_cons ?_ ?_
        · intro T wx K hB hF hD hK
          have g74 := get_eqS (hD 38 74 (by simp [Region.binds]) (by kernel_rfl)) s74
          have g79 := get_eqS (hD 43 79 (by simp [Region.binds]) (by kernel_rfl)) s79
          refine ob_yes (wanted_yes rfl (by kernel_rfl) g74) ?_
          clear hF hD
          have c0 := cell_call y2 hB
          have c1 := cell_call y3 hB
          go_simp
          exact hK _ _ (Below.refl _ _) (rt_eqS s80)
        refine obsR_cons ?_ ?_
        · intro T wx K hB hF hD hK
          have g74 := get_eqS (hD 38 74 (by simp [Region.binds]) (by kernel_rfl)) s74
          have g1 : T[1]? = some (.slice (some ⟨gy, 0, none⟩) 8 8) := hF 1 (freeM_of (by kernel_rfl))
          refine ob_yes (wanted_yes rfl (by kernel_rfl) g74) ?_
          clear hF hD
          go_simp
          exact hK _ _ (Below.refl _ _) (rt_eqS s81)
        refine obsR_cons ?_ ?_
        · intro T wx K hB hF hD hK
          have g74 := get_eqS (hD 38 74 (by simp [Region.binds]) (by kernel_rfl)) s74
          have g81 := get_eqS (hD 45 81 (by simp [Region.binds]) (by kernel_rfl)) s81
          refine ob_yes (wanted_yes rfl (by kernel_rfl) g74) ?_
          clear hF hD
          go_simp
          exact hK _ _ (Below.refl _ _) (rt_eqS s82)
        refine obsR_cons ?_ ?_
        · intro T wx K hB hF hD hK
          have g74 := get_eqS (hD 38 74 (by simp [Region.binds]) (by kernel_rfl)) s74
          have g82 := get_eqS (hD 46 82 (by simp [Region.binds]) (by kernel_rfl)) s82
          refine ob_yes (wanted_yes rfl (by kernel_rfl) g74) ?_
          clear hF hD
          have c0 := cell_call y4 hB
          have c1 := cell_call y5 hB
          go_simp
          exact hK _ _ (Below.refl _ _) (rt_eqS s83)
        refine obsR_cons ?_ ?_
        · intro T wx K hB hF hD hK
          have g74 := get_eqS (hD 38 74 (by simp [Region.binds]) (by kernel_rfl)) s74
          have g77 := get_eqS (hD 41 77 (by simp [Region.binds]) (by kernel_rfl)) s77
          have g80 := get_eqS (hD 44 80 (by simp [Region.binds]) (by kernel_rfl)) s80
          have g83 := get_eqS (hD 47 83 (by simp [Region.binds]) (by kernel_rfl)) s83
          refine ob_yes (wanted_yes rfl (by kernel_rfl) g74) ?_
          clear hF hD
          go_simp
          refine (orient_is 0 0 8 0 8 2 1 _ (Lib.hid yard_ori) (by unfold InR; omega) (by unfold InR; omega) (by unfold InR; omega) (by unfold InR; omega) (by unfold InR; omega) (by unfold InR; omega)).mono ?_; rintro e w9 ⟨rfl, hb⟩
          exact hK _ _ hb (rt_eqS s84)
        refine obsR_cons ?_ ?_
        · intro T wx K hB hF hD hK
          have g74 := get_eqS (hD 38 74 (by simp [Region.binds]) (by kernel_rfl)) s74
          have g84 := get_eqS (hD 48 84 (by simp [Region.binds]) (by kernel_rfl)) s84
          refine ob_yes (wanted_yes rfl (by kernel_rfl) g74) ?_
          clear hF hD
          go_simp
          exact hK _ _ (Below.refl _ _) (rt_eqS s85)
        refine obsR_cons ?_ ?_
        · intro T wx K hB hF hD hK
          have g74 := get_eqS (hD 38 74 (by simp [Region.binds]) (by kernel_rfl)) s74
          have g85 := get_eqS (hD 49 85 (by simp [Region.binds]) (by kernel_rfl)) s85
          refine ob_yes (wanted_none rfl) ?_
          clear hF hD
          go_simp
          exact hK _ _ (Below.refl _ _) (rt_eqS s86)
        exact obsR_nil
      · intro T w8 hb hF hs hD
        have g36 := get_eqS (hD 0 36 (by decide) (by kernel_rfl)) s36
        have g37 := get_eqS (hD 1 37 (by decide) (by kernel_rfl)) s37
        have g38 := get_eqS (hD 2 38 (by decide) (by kernel_rfl)) s38
        have g39 := get_eqS (hD 3 39 (by decide) (by kernel_rfl)) s39
        have g40 := get_eqS (hD 4 40 (by decide) (by kernel_rfl)) s40
        have g41 := get_eqS (hD 5 41 (by decide) (by kernel_rfl)) s41
        have g42 := get_eqS (hD 6 42 (by decide) (by kernel_rfl)) s42
        have g43 := get_eqS (hD 7 43 (by decide) (by kernel_rfl)) s43
        have g44 := get_eqS (hD 8 44 (by decide) (by kernel_rfl)) s44
        have g45 := get_eqS (hD 9 45 (by decide) (by kernel_rfl)) s45
        have g46 := get_eqS (hD 10 46 (by decide) (by kernel_rfl)) s46
        have g47 := get_eqS (hD 11 47 (by decide) (by kernel_rfl)) s47
        have g48 := get_eqS (hD 12 48 (by decide) (by kernel_rfl)) s48
        have g49 := get_eqS (hD 13 49 (by decide) (by kernel_rfl)) s49
        have g50 := get_eqS (hD 14 50 (by decide) (by kernel_rfl)) s50
        have g51 := get_eqS (hD 15 51 (by decide) (by kernel_rfl)) s51
        have g52 := get_eqS (hD 16 52 (by decide) (by kernel_rfl)) s52
        have g53 := get_eqS (hD 17 53 (by decide) (by kernel_rfl)) s53
        have g54 := get_eqS (hD 18 54 (by decide) (by kernel_rfl)) s54
        have g55 := get_eqS (hD 19 55 (by decide) (by kernel_rfl)) s55
        have g56 := get_eqS (hD 20 56 (by decide) (by kernel_rfl)) s56
        obtain ⟨v57, g57, p57⟩ := getS (hD 21 57 (by decide) (by kernel_rfl)) s57
        have g58 := get_eqS (hD 22 58 (by decide) (by kernel_rfl)) s58
        have g59 := get_eqS (hD 23 59 (by decide) (by kernel_rfl)) s59
        have g60 := get_eqS (hD 24 60 (by decide) (by kernel_rfl)) s60
        have g61 := get_eqS (hD 25 61 (by decide) (by kernel_rfl)) s61
        have g62 := get_eqS (hD 26 62 (by decide) (by kernel_rfl)) s62
        obtain ⟨v63, g63, p63⟩ := getS (hD 27 63 (by decide) (by kernel_rfl)) s63
        have g64 := get_eqS (hD 28 64 (by decide) (by kernel_rfl)) s64
        have g65 := get_eqS (hD 29 65 (by decide) (by kernel_rfl)) s65
        have g66 := get_eqS (hD 30 66 (by decide) (by kernel_rfl)) s66
        have g67 := get_eqS (hD 31 67 (by decide) (by kernel_rfl)) s67
        obtain ⟨v68, g68, p68⟩ := getS (hD 32 68 (by decide) (by kernel_rfl)) s68
        have g69 := get_eqS (hD 33 69 (by decide) (by kernel_rfl)) s69
        have g70 := get_eqS (hD 34 70 (by decide) (by kernel_rfl)) s70
        have g71 := get_eqS (hD 35 71 (by decide) (by kernel_rfl)) s71
        have g72 := get_eqS (hD 36 72 (by decide) (by kernel_rfl)) s72
        have g73 := get_eqS (hD 37 73 (by decide) (by kernel_rfl)) s73
        have g74 := get_eqS (hD 38 74 (by decide) (by kernel_rfl)) s74
        have g75 := get_eqS (hD 39 75 (by decide) (by kernel_rfl)) s75
        have g76 := get_eqS (hD 40 76 (by decide) (by kernel_rfl)) s76
        have g77 := get_eqS (hD 41 77 (by decide) (by kernel_rfl)) s77
        have g78 := get_eqS (hD 42 78 (by decide) (by kernel_rfl)) s78
        have g79 := get_eqS (hD 43 79 (by decide) (by kernel_rfl)) s79
        have g80 := get_eqS (hD 44 80 (by decide) (by kernel_rfl)) s80
        have g81 := get_eqS (hD 45 81 (by decide) (by kernel_rfl)) s81
        have g82 := get_eqS (hD 46 82 (by decide) (by kernel_rfl)) s82
        have g83 := get_eqS (hD 47 83 (by decide) (by kernel_rfl)) s83
        have g84 := get_eqS (hD 48 84 (by decide) (by kernel_rfl)) s84
        have g85 := get_eqS (hD 49 85 (by decide) (by kernel_rfl)) s85
        have g86 := get_eqS (hD 50 86 (by decide) (by kernel_rfl)) s86
        have hT := conc [(36, .slice (some ⟨gy, 0, none⟩) 8 8), (37, .bool true), (38, .bool true), (39, .int .i64 80), (40, .bool true), (41, .bool true), (42, .bool true), (43, .slice (some ⟨gy, 0, none⟩) 8 8), (44, .int .i64 80), (45, .bool true), (46, .bool true), (47, .bool true), (48, .bool true), (49, .bool true), (50, .bool true), (51, .slice ah 4 ch), (52, .int .i64 128), (53, .bool true), (54, .bool true), (55, .bool true), (56, .slice (some ⟨gy, 0, none⟩) 8 8), (57, v57), (58, .bool false), (59, .bool true), (60, .bool true), (61, .bool true), (62, .slice (some ⟨gy, 0, none⟩) 8 8), (63, v63), (64, .bool true), (65, .bool true), (66, .bool true), (67, .slice ah 4 ch), (68, v68), (69, .bool true), (70, .bool true), (71, .bool true), (72, .bool true), (73, .bool true), (74, .bool true), (75, .slice (some ⟨gy, 0, none⟩) 8 8), (76, .pointer (some ⟨gy, 0, none⟩)), (77, .agg #[.int .i64 0, .int .i64 0]), (78, .slice (some ⟨gy, 0, none⟩) 8 8), (79, .pointer (some ⟨gy, 2, none⟩)), (80, .agg #[.int .i64 8, .int .i64 0]), (81, .slice (some ⟨gy, 0, none⟩) 8 8), (82, .pointer (some ⟨gy, 4, none⟩)), (83, .agg #[.int .i64 8, .int .i64 2]), (84, .int .i64 1), (85, .bool true), (86, .bool true)] hs hF (by simp only [List.forall_mem_cons]; exact ⟨g36, g37, g38, g39, g40, g41, g42, g43, g44, g45, g46, g47, g48, g49, g50, g51, g52, g53, g54, g55, g56, g57, g58, g59, g60, g61, g62, g63, g64, g65, g66, g67, g68, g69, g70, g71, g72, g73, g74, g75, g76, g77, g78, g79, g80, g81, g82, g83, g84, g85, g86, fun p hp => absurd hp List.not_mem_nil⟩) (by kernel_rfl)
        simp only [List.foldl, List.setIfInBounds_toArray, List.set_cons_succ, List.set_cons_zero] at hT
        subst hT
        clear hF hD hs g36 g37 g38 g39 g40 g41 g42 g43 g44 g45 g46 g47 g48 g49 g50 g51 g52 g53 g54 g55 g56 g57 g58 g59 g60 g61 g62 g63 g64 g65 g66 g67 g68 g69 g70 g71 g72 g73 g74 g75 g76 g77 g78 g79 g80 g81 g82 g83 g84 g85 g86 s36 s37 s38 s39 s40 s41 s42 s43 s44 s45 s46 s47 s48 s49 s50 s51 s52 s53 s54 s55 s56 s57 s58 s59 s60 s61 s62 s63 s64 s65 s66 s67 s68 s69 s70 s71 s72 s73 s74 s75 s76 s77 s78 s79 s80 s81 s82 s83 s84 s85 s86
        show wpOpsIn _ _ _ _ _ [51] _ _
        have HB8 := Lib.hid (belT HB.out hb)
        clear hb y0 y1 y2 y3 y4 y5 PY PH HB p57 p63 p68
        simp only [wpOpsIn]
        go_simp
        go_wp2
        go_ret
        exact ⟨rfl, HB8.out⟩
end Go.Proofs.Ytojfonenpplahaa
