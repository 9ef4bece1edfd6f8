/- Contract of the reference ambidexterref03: Move. Conditions: the slice reads as the list says; the coordinates are bounded. -/
import Derived.Test.YtojfonenpplahaaHlV
import Derived.Laws.MakeOwn
namespace Go.Proofs.Ytojfonenpplahaa
open Go.ChangeShapes Go.WideShapes Go.ChangeAt Go.RowKit
set_option linter.unusedVariables false
set_option linter.unusedSimpArgs false

set_option maxRecDepth 100000 in
set_option maxHeartbeats 4000000 in
theorem move_is (ao : Option Addr) (n cap : Nat) (l us : List (Int × Int)) (x y : Int) (w : World) (hn : l.length = n) (hu : Hid (movL l x y = us)) (hle : n ≤ 1000) (hP : PRow w ao l) (hV : AllV l) (kx : InV x) (ky : InV y) :
    Calls Try.prog 38 #[.slice ao n cap, .agg #[.int .i64 x, .int .i64 y]] w fun e w' => (∃ ao' c, e = .returned (.slice ao' n c) ∧ PRow w' ao' us) ∧ Below w.heap.size w w' := by
  subst hn
  have HP := Lib.hid hP
  have HV := Lib.hid hV
  have HK := Lib.hid (And.intro kx ky)
  have HUL : us.length = l.length := by rw [← hu.out, movL_len]
  obtain ⟨i0, hi, hz0, hz1', hz2⟩ := info_parts infoP
  clear hP hV kx ky
  go_enter Try.func38, Try.ntmps38
  go_wp2
  have hb0 := belA (Below.refl _ w) (.cells #[.int .i64 x, .int .i64 y] 47)
  have X1 := blk_new w (.cells #[.int .i64 x, .int .i64 y] 47) _ rfl
  have hs1 : (w.alloc (.cells #[.int .i64 x, .int .i64 y] 47)).heap.size = w.heap.size + 1 := by simp
  have P1 := Lib.hid (prow_below HP.out hb0)
  have B0 := Lib.hid hb0
  generalize w.alloc (.cells #[.int .i64 x, .int .i64 y] 47) = w1 at *
  generalize hzx : w.heap.size = zx at *
  have HZX := Lib.hid hzx
  have HX1 := Lib.hid X1
  clear hb0 X1
  go_loopw [5, 6] (fun v i wr => ∃ (vv : Value) (k : Nat), vv = v ∧ k ≤ l.length ∧ i = .int .i64 k ∧ wr.ownsRow (zx + 1) 47 2 v k (flat (us.take k)) ∧ Below w1.heap.size w1 wr) (fun _ i _ => l.length - (intOf i).toNat)
  case atStart => exact ⟨_, 0, rfl, Nat.zero_le _, rfl, by have := World.ownsRow_lit w1 (base := w1.heap.size) (e := 47) (size := 2) #[] 0 (Nat.le_refl _) (by decide) rfl; rw [hs1] at this; exact this, belA (Below.refl _ _) _⟩
  case round =>
    obtain ⟨v, k, rfl, hk, rfl, hown, hB⟩ := hrel
    by_cases hlt : k < l.length
    · obtain ⟨b, o, rfl, c1, c2⟩ := prow_at P1.out hlt
      have hki : (k : Int) < l.length := by omega
      have zb0 : b < w1.heap.size := World.block_lt_of_cell? w1 _ c1
      have d0 := (hB.cell zb0).trans c1
      have d1 := (hB.cell zb0).trans c2
      have X2 := blk_call HX1.out hB
      have f0 := blk_cell X2 0 _ rfl
      have f1 := blk_cell X2 1 _ rfl
      have E : Hid (flat (us.take (k + 1)) = flat (us.take k) ++ [.int .i64 (cx l k + x), .int .i64 (cy l k + y)]) := Lib.hid (by
        rw [flat_take us k (by omega), ← hu.out, (movL_at l x y hlt).1, (movL_at l x y hlt).2])
      obtain ⟨⟨v1, v2⟩, v3, v4⟩ := HV.out k hlt
      obtain ⟨⟨x1, x2⟩, y1, y2⟩ := HK.out
      have hBs := hB.size
      generalize cx l k = A at *
      generalize cy l k = B at *
      have hw1 : IntKind.i64.wrap (A + x) = A + x := by rw [IntKind.wrap_i64]; omega
      have hw2 : IntKind.i64.wrap (B + y) = B + y := by rw [IntKind.wrap_i64]; omega
      have HB := Lib.hid hB
      have HO := Lib.hid hown
      clear c1 c2 hB hown X2
      go_upto_region 5 with fail
      obtain ⟨sp, hsp⟩ : ∃ sp : ToldS, sp = [none, none, none, none, none, none, none, none, none, none, none, none, none, none, some (eqS (v)), some (eqS (.slice (some ⟨b, o, none⟩) l.length cap)), some (eqS (.int .i64 (k : Int))), some (eqS (.pointer (some ⟨b, o + k * 2, none⟩))), some (eqS (.pointer (some ⟨b, o + k * 2, none⟩))), some (eqS (.int .i64 A)), some (eqS (.pointer (some ⟨zx, 0, none⟩))), some (eqS (.int .i64 x)), some (eqS (.int .i64 (A + x))), some (eqS (.slice (some ⟨b, o, none⟩) l.length cap)), some (eqS (.int .i64 (k : Int))), some (eqS (.pointer (some ⟨b, o + k * 2, none⟩))), some (eqS (.pointer (some ⟨b, o + k * 2 + 1, none⟩))), some (eqS (.int .i64 B)), some (eqS (.pointer (some ⟨zx, 1, none⟩))), some (eqS (.int .i64 y)), some (eqS (.int .i64 (B + y))), some (eqS (.agg #[.int .i64 (A + x), .int .i64 (B + y)])), some (rowB [(A + x, B + y)])] := ⟨_, rfl⟩
      have s14 : sp.getD 14 none = some (eqS (v)) := by rw [hsp]; rfl
      have s15 : sp.getD 15 none = some (eqS (.slice (some ⟨b, o, none⟩) l.length cap)) := by rw [hsp]; rfl
      have s16 : sp.getD 16 none = some (eqS (.int .i64 (k : Int))) := by rw [hsp]; rfl
      have s17 : sp.getD 17 none = some (eqS (.pointer (some ⟨b, o + k * 2, none⟩))) := by rw [hsp]; rfl
      have s18 : sp.getD 18 none = some (eqS (.pointer (some ⟨b, o + k * 2, none⟩))) := by rw [hsp]; rfl
      have s19 : sp.getD 19 none = some (eqS (.int .i64 A)) := by rw [hsp]; rfl
      have s20 : sp.getD 20 none = some (eqS (.pointer (some ⟨zx, 0, none⟩))) := by rw [hsp]; rfl
      have s21 : sp.getD 21 none = some (eqS (.int .i64 x)) := by rw [hsp]; rfl
      have s22 : sp.getD 22 none = some (eqS (.int .i64 (A + x))) := by rw [hsp]; rfl
      have s23 : sp.getD 23 none = some (eqS (.slice (some ⟨b, o, none⟩) l.length cap)) := by rw [hsp]; rfl
      have s24 : sp.getD 24 none = some (eqS (.int .i64 (k : Int))) := by rw [hsp]; rfl
      have s25 : sp.getD 25 none = some (eqS (.pointer (some ⟨b, o + k * 2, none⟩))) := by rw [hsp]; rfl
      have s26 : sp.getD 26 none = some (eqS (.pointer (some ⟨b, o + k * 2 + 1, none⟩))) := by rw [hsp]; rfl
      have s27 : sp.getD 27 none = some (eqS (.int .i64 B)) := by rw [hsp]; rfl
      have s28 : sp.getD 28 none = some (eqS (.pointer (some ⟨zx, 1, none⟩))) := by rw [hsp]; rfl
      have s29 : sp.getD 29 none = some (eqS (.int .i64 y)) := by rw [hsp]; rfl
      have s30 : sp.getD 30 none = some (eqS (.int .i64 (B + y))) := by rw [hsp]; rfl
      have s31 : sp.getD 31 none = some (eqS (.agg #[.int .i64 (A + x), .int .i64 (B + y)])) := by rw [hsp]; rfl
      have s32 : sp.getD 32 none = some (rowB [(A + x, B + y)]) := by rw [hsp]; rfl
      clear hsp
      refine (wpIn_wide (n := 0)).1 (region_headR (RtS sp) (rtS_keep sp) 19 rfl rfl rfl (by kernel_rfl) (by decide) (by kernel_rfl) (by kernel_rfl) (by kernel_rfl) ?_ ?_)
      · intro Q'; show ObsR _ _ _ _ _ _ _ _ (List.take _ _); simp only [List.take_succ_cons, List.take_zero]
        refine obsR_cons ?_ ?_
        · intro T wx K hB hF hD hK
          have g5 : T[5]? = some (v) := hF 5 (freeM_of (by kernel_rfl))
          refine ob_yes (wanted_none rfl) ?_
          clear hF hD
          go_simp
          exact hK _ _ (Below.refl _ _) (rt_eqS s14)
        refine obsR_cons ?_ ?_
        · intro T wx K hB hF hD hK
          have g0 : T[0]? = some (.slice (some ⟨b, o, none⟩) l.length cap) := hF 0 (freeM_of (by kernel_rfl))
          refine ob_yes (wanted_none rfl) ?_
          clear hF hD
          go_simp
          exact hK _ _ (Below.refl _ _) (rt_eqS s15)
        refine obsR_cons ?_ ?_
        · intro T wx K hB hF hD hK
          have g6 : T[6]? = some (.int .i64 (k : Int)) := hF 6 (freeM_of (by kernel_rfl))
          refine ob_yes (wanted_none rfl) ?_
          clear hF hD
          go_simp
          exact hK _ _ (Below.refl _ _) (rt_eqS s16)
        refine obsR_cons ?_ ?_
        · intro T wx K hB hF hD hK
          have g15 := get_eqS (hD 1 15 (by simp [Region.binds]) (by kernel_rfl)) s15
          have g16 := get_eqS (hD 2 16 (by simp [Region.binds]) (by kernel_rfl)) s16
          refine ob_yes (wanted_none rfl) ?_
          clear hF hD
          go_simp
          exact hK _ _ (Below.refl _ _) (rt_eqS s17)
        refine obsR_cons ?_ ?_
        · intro T wx K hB hF hD hK
          have g17 := get_eqS (hD 3 17 (by simp [Region.binds]) (by kernel_rfl)) s17
          refine ob_yes (wanted_none rfl) ?_
          clear hF hD
          go_simp
          exact hK _ _ (Below.refl _ _) (rt_eqS s18)
        refine obsR_cons ?_ ?_
        · intro T wx K hB hF hD hK
          have g18 := get_eqS (hD 4 18 (by simp [Region.binds]) (by kernel_rfl)) s18
          refine ob_yes (wanted_none rfl) ?_
          clear hF hD
          have c0 := cell_call d0 hB
          go_simp
          exact hK _ _ (Below.refl _ _) (rt_eqS s19)
        refine obsR_cons ?_ ?_
        · intro T wx K hB hF hD hK
          have g3 : T[3]? = some (.pointer (some ⟨zx, 0, none⟩)) := hF 3 (freeM_of (by kernel_rfl))
          refine ob_yes (wanted_none rfl) ?_
          clear hF hD
          go_simp
          exact hK _ _ (Below.refl _ _) (rt_eqS s20)
        refine obsR_cons ?_ ?_
        · intro T wx K hB hF hD hK
          have g20 := get_eqS (hD 6 20 (by simp [Region.binds]) (by kernel_rfl)) s20
          refine ob_yes (wanted_none rfl) ?_
          clear hF hD
          have c0 := cell_call f0 hB
          go_simp
          exact hK _ _ (Below.refl _ _) (rt_eqS s21)
        refine obsR_cons ?_ ?_
        · intro T wx K hB hF hD hK
          have g19 := get_eqS (hD 5 19 (by simp [Region.binds]) (by kernel_rfl)) s19
          have g21 := get_eqS (hD 7 21 (by simp [Region.binds]) (by kernel_rfl)) s21
          refine ob_yes (wanted_none rfl) ?_
          clear hF hD
          go_simp
          exact hK _ _ (Below.refl _ _) (rt_eqS s22)
        refine obsR_cons ?_ ?_
        · intro T wx K hB hF hD hK
          have g0 : T[0]? = some (.slice (some ⟨b, o, none⟩) l.length cap) := hF 0 (freeM_of (by kernel_rfl))
          refine ob_yes (wanted_none rfl) ?_
          clear hF hD
          go_simp
          exact hK _ _ (Below.refl _ _) (rt_eqS s23)
        refine obsR_cons ?_ ?_
        · intro T wx K hB hF hD hK
          have g6 : T[6]? = some (.int .i64 (k : Int)) := hF 6 (freeM_of (by kernel_rfl))
          refine ob_yes (wanted_none rfl) ?_
          clear hF hD
          go_simp
          exact hK _ _ (Below.refl _ _) (rt_eqS s24)
        refine obsR_cons ?_ ?_
        · intro T wx K hB hF hD hK
          have g23 := get_eqS (hD 9 23 (by simp [Region.binds]) (by kernel_rfl)) s23
          have g24 := get_eqS (hD 10 24 (by simp [Region.binds]) (by kernel_rfl)) s24
          refine ob_yes (wanted_none rfl) ?_
          clear hF hD
          go_simp
          exact hK _ _ (Below.refl _ _) (rt_eqS s25)
        refine obsR_cons ?_ ?_
        · intro T wx K hB hF hD hK
          have g25 := get_eqS (hD 11 25 (by simp [Region.binds]) (by kernel_rfl)) s25
          refine ob_yes (wanted_none rfl) ?_
          clear hF hD
          go_simp
          exact hK _ _ (Below.refl _ _) (rt_eqS s26)
        refine obsR_cons ?_ ?_
        · intro T wx K hB hF hD hK
          have g26 := get_eqS (hD 12 26 (by simp [Region.binds]) (by kernel_rfl)) s26
          refine ob_yes (wanted_none rfl) ?_
          clear hF hD
          have c0 := cell_call d1 hB
          go_simp
          exact hK _ _ (Below.refl _ _) (rt_eqS s27)
        refine obsR_cons ?_ ?_
        · intro T wx K hB hF hD hK
          have g3 : T[3]? = some (.pointer (some ⟨zx, 0, none⟩)) := hF 3 (freeM_of (by kernel_rfl))
          refine ob_yes (wanted_none rfl) ?_
          clear hF hD
          go_simp
          exact hK _ _ (Below.refl _ _) (rt_eqS s28)
        refine obsR_cons ?_ ?_
        · intro T wx K hB hF hD hK
          have g28 := get_eqS (hD 14 28 (by simp [Region.binds]) (by kernel_rfl)) s28
          refine ob_yes (wanted_none rfl) ?_
          clear hF hD
          have c0 := cell_call f1 hB
          go_simp
          exact hK _ _ (Below.refl _ _) (rt_eqS s29)
        refine obsR_cons ?_ ?_
        · intro T wx K hB hF hD hK
          have g27 := get_eqS (hD 13 27 (by simp [Region.binds]) (by kernel_rfl)) s27
          have g29 := get_eqS (hD 15 29 (by simp [Region.binds]) (by kernel_rfl)) s29
          refine ob_yes (wanted_none rfl) ?_
          clear hF hD
          go_simp
          exact hK _ _ (Below.refl _ _) (rt_eqS s30)
        refine obsR_cons ?_ ?_
        · intro T wx K hB hF hD hK
          have g22 := get_eqS (hD 8 22 (by simp [Region.binds]) (by kernel_rfl)) s22
          have g30 := get_eqS (hD 16 30 (by simp [Region.binds]) (by kernel_rfl)) s30
          refine ob_yes (wanted_none rfl) ?_
          clear hF hD
          go_simp
          exact hK _ _ (Below.refl _ _) (rt_eqS s31)
        refine obsR_cons ?_ ?_
        · intro T wx K hB hF hD hK
          have g31 := get_eqS (hD 17 31 (by simp [Region.binds]) (by kernel_rfl)) s31
          refine ob_yes (wanted_none rfl) ?_
          clear hF hD
          go_simp
          exact hK _ _ (belA (Below.refl _ _) _) (rt_S s32 (app_fresh _ _ _ _))
        exact obsR_nil
      · intro T w8 hb hF hs hD
        have g14 := get_eqS (hD 0 14 (by decide) (by kernel_rfl)) s14
        have g15 := get_eqS (hD 1 15 (by decide) (by kernel_rfl)) s15
        have g16 := get_eqS (hD 2 16 (by decide) (by kernel_rfl)) s16
        have g17 := get_eqS (hD 3 17 (by decide) (by kernel_rfl)) s17
        have g18 := get_eqS (hD 4 18 (by decide) (by kernel_rfl)) s18
        have g19 := get_eqS (hD 5 19 (by decide) (by kernel_rfl)) s19
        have g20 := get_eqS (hD 6 20 (by decide) (by kernel_rfl)) s20
        have g21 := get_eqS (hD 7 21 (by decide) (by kernel_rfl)) s21
        have g22 := get_eqS (hD 8 22 (by decide) (by kernel_rfl)) s22
        have g23 := get_eqS (hD 9 23 (by decide) (by kernel_rfl)) s23
        have g24 := get_eqS (hD 10 24 (by decide) (by kernel_rfl)) s24
        have g25 := get_eqS (hD 11 25 (by decide) (by kernel_rfl)) s25
        have g26 := get_eqS (hD 12 26 (by decide) (by kernel_rfl)) s26
        have g27 := get_eqS (hD 13 27 (by decide) (by kernel_rfl)) s27
        have g28 := get_eqS (hD 14 28 (by decide) (by kernel_rfl)) s28
        have g29 := get_eqS (hD 15 29 (by decide) (by kernel_rfl)) s29
        have g30 := get_eqS (hD 16 30 (by decide) (by kernel_rfl)) s30
        have g31 := get_eqS (hD 17 31 (by decide) (by kernel_rfl)) s31
        obtain ⟨v32, g32, p32⟩ := getS (hD 18 32 (by decide) (by kernel_rfl)) s32
        have hT := conc [(14, v), (15, .slice (some ⟨b, o, none⟩) l.length cap), (16, .int .i64 (k : Int)), (17, .pointer (some ⟨b, o + k * 2, none⟩)), (18, .pointer (some ⟨b, o + k * 2, none⟩)), (19, .int .i64 A), (20, .pointer (some ⟨zx, 0, none⟩)), (21, .int .i64 x), (22, .int .i64 (A + x)), (23, .slice (some ⟨b, o, none⟩) l.length cap), (24, .int .i64 (k : Int)), (25, .pointer (some ⟨b, o + k * 2, none⟩)), (26, .pointer (some ⟨b, o + k * 2 + 1, none⟩)), (27, .int .i64 B), (28, .pointer (some ⟨zx, 1, none⟩)), (29, .int .i64 y), (30, .int .i64 (B + y)), (31, .agg #[.int .i64 (A + x), .int .i64 (B + y)]), (32, v32)] hs hF (by simp only [List.forall_mem_cons]; exact ⟨g14, g15, g16, g17, g18, g19, g20, g21, g22, g23, g24, g25, g26, g27, g28, g29, g30, g31, g32, fun p hp => absurd hp List.not_mem_nil⟩) (by kernel_rfl)
        simp only [List.foldl, List.setIfInBounds_toArray, List.set_cons_succ, List.set_cons_zero] at hT
        subst hT
        clear hF hD hs g14 g15 g16 g17 g18 g19 g20 g21 g22 g23 g24 g25 g26 g27 g28 g29 g30 g31 g32 s14 s15 s16 s17 s18 s19 s20 s21 s22 s23 s24 s25 s26 s27 s28 s29 s30 s31 s32
        show wpOpsIn _ _ _ _ _ [19, 20] _ _
        have hs8 := hb.size
        have HB8 := Lib.hid (HB.out.trans (hb.mono HB.out.size))
        have HO8 := own_bel HO.out hb
        obtain ⟨bn, cn, rfl, pn⟩ := p32
        clear hb d0 d1 f0 f1
        refine tail_append rfl rfl rfl rfl rfl (.tmp 14) (.tmp 32) 23 rfl (zx + 1) 47 i0 (.agg #[.int .i64 0, .int .i64 0]) 2 16 Try.underlying23 hi hz0 hz1' hz2 rfl (by decide) _ _ _ rfl HO8 ⟨bn, 0, none⟩ 1 cn [.int .i64 (A + x), .int .i64 (B + y)] rfl rfl (row_news pn) (by intro u hu; simp at hu; rcases hu with rfl | rfl <;> rfl) (by decide) (by unfold maxLen; omega) (by omega) (by omega) ?_
        intro g' cap' w9 hown' hgrow hat hlt'
        have HB9 : Hid (Below w1.heap.size w1 w9) := Lib.hid (HB8.out.grown hgrow (by omega) (fun g e => by have := (HO8.lt g e).1; omega))
        rw [← E.out] at hown'
        have HO9 := Lib.hid hown'
        clear hgrow hown' HO8 hat
        simp only [wpOpsIn]
        go_simp
        go_wp2
        go_roundw
        case rel => exact ⟨_, k + 1, rfl, by omega, by go_num, HO9.out, HB9.out⟩
        case measure => simp [intOf]; omega
    · obtain rfl : k = l.length := by omega
      obtain ⟨ao', c', rfl, pr⟩ := own_row (l := us) (base := zx + 1) (by rw [HUL]; have := hown; rw [List.take_of_length_le (by omega)] at this; exact this)
      have PR := Lib.hid pr
      have HB2 : Hid (Below zx w wr) := Lib.hid (B0.out.trans (hB.mono (by omega)))
      rw [HUL]
      clear pr hB hown
      go_wp2
      go_ret
      exact ⟨⟨ao', c', rfl, PR.out⟩, by rw [HZX.out]; exact HB2.out⟩
end Go.Proofs.Ytojfonenpplahaa
