/- Proved: a point inside the hull or on its boundary does not change the hull; any other point is a corner of the new hull, whose other corners are corners of the old one (the law HullAddPoint returns true).
Conditions: none on the arguments. -/
import Derived.Test.YtjgkipgllpelhaaHlW
import Derived.Test.YtjgkipgllpelhaaHlQ
import Derived.Test.YtjgkipgllpelhaaHlN
import Derived.Test.YtjgkipgllpelhaaHuE
import Derived.Test.YtjgkipgllpelhaaHlFr
namespace Go.Proofs.Ytjgkipgllpelhaa.hullAddPoint
open Go.ChangeShapes Go.WideShapes Go.ChangeAt Go.RowKit
set_option linter.unusedVariables false
set_option linter.unusedSimpArgs false

theorem hull_allV {l : List (Int × Int)} (h : AllV l) : AllV (hullL l) := by
  rcases hull_cases l with ⟨e, _⟩ | ⟨_, hH⟩
  · rw [e]; intro i hi; simp at hi
  · exact (allV_iff _).2 fun q hq => by
      obtain ⟨j, hj, e⟩ := mem_gp hq
      rw [← e]
      exact (allV_iff l).1 h _ (hH.2.1 j hj)
theorem hull_len' {l : List (Int × Int)} (h : l.length ≤ 40) : (hullL l).length ≤ 80 := by
  unfold hullL
  split
  · simp
  · have := hull_len l; omega

set_option maxRecDepth 100000 in
set_option maxHeartbeats 8000000 in
theorem walk_w {w : World} (ao : Option Addr) (cap : Nat) (l : List (Int × Int)) (nl : l.length * 16 ≤ 140737488351232) (hP : PRow w ao l) (x y : Int) :
    Calls Try.prog 6 #[.slice ao l.length cap, .agg #[.int .i64 x, .int .i64 y]] w fun e w' => e = .returned (.bool true) ∧ Below w.heap.size w w' := by
  have HP := Lib.hid hP
  obtain ⟨i0, hi, hz0, hz1', hz2⟩ := info_parts infoP
  clear hP
  go_enter Try.func6, Try.ntmps6
  go_wp2_with fail
  refine (head_is _).mono ?_
  rintro e w1 ⟨rfl, b1⟩
  have B0 := belA (Below.refl _ w) (.cells #[.int .i64 x, .int .i64 y] 35)
  have X1 := blk_call (blk_new w (.cells #[.int .i64 x, .int .i64 y] 35) _ rfl) b1
  have B1 := Lib.hid (belT B0 b1)
  have P1 := Lib.hid (prow_below HP.out B1.out)
  clear b1 B0
  generalize hzx : w.heap.size = zx at *
  have HZX := Lib.hid hzx
  have f0 := blk_cell X1 0 _ rfl
  have f1 := blk_cell X1 1 _ rfl
  have zX := blk_lt X1
  have HX1 := Lib.hid X1
  generalize hzb : w1.heap.size = zb at *
  have HZB := Lib.hid hzb
  clear X1 hzx
  go_upto_region 2 with fail
  obtain ⟨sp, hsp⟩ : ∃ sp : ToldS, sp = [none, none, none, none, none, none, none, none, none, none, none, none, none, none, none, none, none, some (freshS zb), some (eqS (.slice ao l.length cap)), some (ownS zb l), some (eqS (.agg #[.int .i64 x, .int .i64 y])), some (rowB [(x, y)])] := ⟨_, rfl⟩
  have s17 : sp.getD 17 none = some (freshS zb) := by rw [hsp]; rfl
  have s18 : sp.getD 18 none = some (eqS (.slice ao l.length cap)) := by rw [hsp]; rfl
  have s19 : sp.getD 19 none = some (ownS zb l) := by rw [hsp]; rfl
  have s20 : sp.getD 20 none = some (eqS (.agg #[.int .i64 x, .int .i64 y])) := by rw [hsp]; rfl
  have s21 : sp.getD 21 none = some (rowB [(x, y)]) := by rw [hsp]; rfl
  clear hsp
  refine (wpIn_wide (n := 0)).1 (region_headR (RtS sp) (rtS_keep sp) 5 rfl rfl rfl (by kernel_rfl) (by decide) (by kernel_rfl) (by kernel_rfl) (by kernel_rfl) ?_ ?_)
  · intro Q'; show ObsR _ _ _ _ _ _ _ _ (List.take _ _); simp only [List.take_succ_cons, List.take_zero]
    refine obsR_cons ?_ ?_
    · intro T wx K hB hF hD hK
      refine ob_yes (wanted_none rfl) ?_
      clear hF hD
      go_simp
      exact hK _ _ (belA (Below.refl _ _) _) (rt_S s17 ⟨wx.heap.size, rfl, by have := hB.size; omega, blk_new _ _ _ rfl⟩)
    refine obsR_cons ?_ ?_
    · intro T wx K hB hF hD hK
      have g0 : T[0]? = some (.slice ao l.length cap) := hF 0 (freeM_of (by kernel_rfl))
      refine ob_yes (wanted_none rfl) ?_
      clear hF hD
      go_simp
      exact hK _ _ (Below.refl _ _) (rt_eqS s18)
    refine obsR_cons ?_ ?_
    · intro T wx K hB hF hD hK
      obtain ⟨v17, g17, p17⟩ := getS (hD 0 17 (by simp [Region.binds]) (by kernel_rfl)) s17
      have g18 := get_eqS (hD 1 18 (by simp [Region.binds]) (by kernel_rfl)) s18
      refine ob_yes (wanted_none rfl) ?_
      clear hF hD
      obtain ⟨g17', rfl, hbg, hhg⟩ := p17
      refine wp_append_new wx (.tmp 17) (.tmp 18) 22 rfl zb i0 (.agg #[.int .i64 0, .int .i64 0]) Try.underlying22 hi hz0 hz1' hz2 rfl g17' (by go_simp) hbg hhg (by have := hB.size; omega) ao cap l (by go_simp) (prow_below P1.out hB) (by omega) ?_
      intro v9 w9 ho9 hb9
      exact hK _ _ hb9 (rt_S s19 ho9)
    refine obsR_cons ?_ ?_
    · intro T wx K hB hF hD hK
      have g3 : T[3]? = some (.pointer (some ⟨zx, 0, none⟩)) := hF 3 (freeM_of (by kernel_rfl))
      refine ob_yes (wanted_none rfl) ?_
      clear hF hD
      have c0 := cell_call f0 hB
      have c1 := cell_call f1 hB
      go_simp
      exact hK _ _ (Below.refl _ _) (rt_eqS s20)
    refine obsR_cons ?_ ?_
    · intro T wx K hB hF hD hK
      have g20 := get_eqS (hD 3 20 (by simp [Region.binds]) (by kernel_rfl)) s20
      refine ob_yes (wanted_none rfl) ?_
      clear hF hD
      go_simp
      exact hK _ _ (belA (Below.refl _ _) _) (rt_S s21 (app_fresh _ _ _ _))
    exact obsR_nil
  · intro T w8 hb hF hs hD
    obtain ⟨v17, g17, p17⟩ := getS (hD 0 17 (by decide) (by kernel_rfl)) s17
    have g18 := get_eqS (hD 1 18 (by decide) (by kernel_rfl)) s18
    obtain ⟨v19, g19, p19⟩ := getS (hD 2 19 (by decide) (by kernel_rfl)) s19
    have g20 := get_eqS (hD 3 20 (by decide) (by kernel_rfl)) s20
    obtain ⟨v21, g21, p21⟩ := getS (hD 4 21 (by decide) (by kernel_rfl)) s21
    have hT := conc [(17, v17), (18, .slice ao l.length cap), (19, v19), (20, .agg #[.int .i64 x, .int .i64 y]), (21, v21)] hs hF (by simp only [List.forall_mem_cons]; exact ⟨g17, g18, g19, g20, g21, fun p hp => absurd hp List.not_mem_nil⟩) (by kernel_rfl)
    simp only [List.foldl, List.setIfInBounds_toArray, List.set_cons_succ, List.set_cons_zero] at hT
    subst hT
    clear hF hD hs g17 g18 g19 g20 g21 s17 s18 s19 s20 s21
    show wpOpsIn _ _ _ _ _ [5, 6] _ _
    have hs8 := hb.size
    have HX8 := blk_call HX1.out hb
    have P8 := Lib.hid (prow_below P1.out hb)
    have HB8 := Lib.hid (B1.out.trans (hb.mono (by rw [hzb]; have := B1.out.size; omega)))
    have HB8' := Lib.hid hb
    obtain ⟨bn, cn, rfl, pn⟩ := p21
    clear hb f0 f1 p17
    refine tail_append rfl rfl rfl rfl rfl (.tmp 19) (.tmp 21) 22 rfl zb 35 i0 (.agg #[.int .i64 0, .int .i64 0]) 2 16 Try.underlying22 hi hz0 hz1' hz2 rfl (by decide) _ _ _ rfl p19 ⟨bn, 0, none⟩ 1 cn [.int .i64 x, .int .i64 y] rfl rfl (row_news pn) (by intro u hu; simp at hu; rcases hu with rfl | rfl <;> rfl) (by decide) (by unfold maxLen; omega) (by omega) (by omega) ?_
    intro g' cap' w2 hown' hgrow hat hlt'
    have hb2 : Below w1.heap.size w1 w2 := HB8'.out.grown hgrow (by omega) (fun g e => by have := (p19.lt g e).1; omega)
    have B2 := Lib.hid (B1.out.trans (hb2.mono (by rw [hzb]; have := B1.out.size; omega)))
    have P2 := Lib.hid (prow_below P1.out hb2)
    have X2 := blk_call HX1.out hb2
    have HM : Hid (w2.ownsRow zb 35 2 (.slice (some ⟨g', 0, none⟩) (l.length + 1) cap') (l ++ [(x, y)]).length (flat (l ++ [(x, y)]))) := Lib.hid (by
      rw [flat_app, List.length_append]; exact hown')
    clear hown' hgrow hat hb2 HX8 P8 HB8 HB8' p19 pn hs8
    have f0 := blk_cell X2 0 _ rfl
    have f1 := blk_cell X2 1 _ rfl
    have zX2 := blk_lt X2
    have HX2 := Lib.hid X2
    obtain ⟨ml, hml⟩ : ∃ m, l ++ [(x, y)] = m := ⟨_, rfl⟩
    rw [hml] at HM
    have hmll : ml.length = l.length + 1 := by rw [← hml]; simp
    have HMM := Lib.hid hml
    have HLL := Lib.hid hmll
    obtain ⟨ao2, c2, he2, hp2⟩ := own_row HM.out
    have hao2 : ao2 = some ⟨g', 0, none⟩ := by rw [hmll] at he2; simp at he2; exact he2.1.symm
    subst hao2
    have M2 := Lib.hid hp2
    obtain ⟨t, ht⟩ : ∃ t, fitsL ml = t := ⟨_, rfl⟩
    have HT := Lib.hid ht
    clear X2 zX hml hmll he2 hp2 ht HM
    simp only [wpOpsIn]
    go_simp
    go_wp2_with fail
    refine (fits_is (some ⟨g', 0, none⟩) (l.length + 1) cap' ml t w2 HLL.out HT (by omega) M2.out).mono ?_
    rintro e wx ⟨rfl, rfl⟩
    cases t with
    | false =>
      go_wp2
      go_ret
      exact ⟨rfl, by rw [HZX.out]; exact B2.out⟩
    | true =>
    obtain ⟨m40, hVM⟩ := (fitsL_iff ml).1 HT.out
    have l40 : l.length ≤ 39 := by have := HLL.out; omega
    have HVM := Lib.hid hVM
    have hVL : AllV l := (allV_iff l).2 fun q hq => (allV_iff ml).1 hVM q (by rw [← HMM.out]; exact List.mem_append_left _ hq)
    have HVL := Lib.hid hVL
    have HXY : Hid (InV x ∧ InV y) := Lib.hid ((allV_iff ml).1 hVM (x, y) (by rw [← HMM.out]; simp))
    obtain ⟨H, hH⟩ : ∃ H, hullL l = H := ⟨_, rfl⟩
    obtain ⟨G, hG⟩ : ∃ G, hullL ml = G := ⟨_, rfl⟩
    obtain ⟨t, ht⟩ : ∃ t, decide (H ≠ []) = t := ⟨_, rfl⟩
    obtain ⟨u, hu⟩ : ∃ u, decide (G ≠ []) = u := ⟨_, rfl⟩
    have HHL := Lib.hid hH
    have HGL := Lib.hid hG
    have HTT := Lib.hid ht
    have HUU := Lib.hid hu
    have HVH : Hid (AllV H) := Lib.hid (by rw [← hH]; exact hull_allV hVL)
    have HVG : Hid (AllV G) := Lib.hid (by rw [← hG]; exact hull_allV hVM)
    have h80 : H.length ≤ 80 := by rw [← hH]; exact hull_len' (by omega)
    have g80 : G.length ≤ 80 := by rw [← hG]; exact hull_len' (by omega)
    have HC : Hid ((H = [] ∧ ∀ a ∈ l, ∀ b ∈ l, ∀ c ∈ l, dt a b c = 0) ∨ (H ≠ [] ∧ IsHull l H)) := Lib.hid (by rw [← hH]; exact hull_cases l)
    have HD : Hid ((G = [] ∧ ∀ a ∈ ml, ∀ b ∈ ml, ∀ c ∈ ml, dt a b c = 0) ∨ (G ≠ [] ∧ IsHull ml G)) := Lib.hid (by rw [← hG]; exact hull_cases ml)
    clear hH hG ht hu hVM hVL f0 f1
    go_wp2_with fail
    refine (of_is ao l.length cap l H t w2 rfl HHL HTT (by omega) P2.out HVL.out).mono ?_
    rintro e w3 ⟨⟨ho, hc, rfl, hp⟩, hb⟩
    have B3 := Lib.hid (B2.out.trans (hb.mono (by have := B2.out.size; have := HZX.out; omega)))
    have M3 := Lib.hid (prow_below M2.out hb)
    have X3 := Lib.hid (blk_call HX2.out hb)
    have H3 := Lib.hid hp
    clear hb hp
    go_wp2_with fail
    refine (of_is (some ⟨g', 0, none⟩) (l.length + 1) cap' ml G u w3 HLL.out HGL HUU (by omega) M3.out HVM.out).mono ?_
    rintro e w4 ⟨⟨go, gc, rfl, hp⟩, hb⟩
    have B4 := Lib.hid (B3.out.trans (hb.mono (by have := B3.out.size; have := HZX.out; omega)))
    have X4 := blk_call X3.out hb
    have H4 := Lib.hid (prow_below H3.out hb)
    have G4 := Lib.hid hp
    have f0 := blk_cell X4 0 _ rfl
    have f1 := blk_cell X4 1 _ rfl
    have zX := blk_lt X4
    have HX4 := Lib.hid X4
    clear hb hp X4
    cases t with
    | false =>
      obtain rfl : H = [] := by simpa using HTT.out
      have HF : Hid (∀ a ∈ l, ∀ b ∈ l, ∀ c ∈ l, dt a b c = 0) := Lib.hid (HC.out.elim (fun h => h.2) (fun h => absurd rfl h.1))
      cases u with
      | false =>
        go_wp2
        go_ret
        exact ⟨rfl, by rw [HZX.out]; exact B4.out⟩
      | true =>
        have HI : IsHull ml G := HD.out.elim (fun h => absurd h.1 (by have := HUU.out; simpa using this)) (fun h => h.2)
        have HXG : Hid (decide ((x, y) ∈ G) = true) := Lib.hid (decide_eq_true (by rw [← HMM.out] at HI; exact add_flat HF.out HI))
        go_wp2_with fail
        refine (has_is go G.length gc x y G true w4 rfl HXG (by omega) G4.out).mono ?_
        rintro e w5 ⟨rfl, hb⟩
        have B5 := Lib.hid (B4.out.trans (hb.mono (by have := B4.out.size; have := HZX.out; omega)))
        clear hb f0 f1 zX
        go_wp2
        go_ret
        exact ⟨rfl, by rw [HZX.out]; exact B5.out⟩
    | true =>
      have hI : IsHull l H := HC.out.elim (fun h => absurd h.1 (by have := HTT.out; simpa using this)) (fun h => h.2)
      have HI := Lib.hid hI
      have h3 : 3 ≤ H.length := hI.1.1
      obtain ⟨v, hv⟩ : ∃ v, locE H x y = v := ⟨_, rfl⟩
      have HVV := Lib.hid hv
      have HIN : Hid (0 ≤ v ↔ inAll H (x, y)) := Lib.hid (by rw [← hv]; exact conv_loc H.length H rfl hI.1 (x, y))
      clear hv hI
      go_wp2_with fail
      refine (hasP_is ho H.length hc x y H v w4 rfl HVV (by omega) H4.out HVH.out HXY.out.1 HXY.out.2).mono ?_
      rintro e w5 ⟨rfl, hb⟩
      have B5 := Lib.hid (B4.out.trans (hb.mono (by have := B4.out.size; have := HZX.out; omega)))
      have H5 := Lib.hid (prow_below H4.out hb)
      have G5 := Lib.hid (prow_below G4.out hb)
      have X5 := blk_call HX4.out hb
      have HX5 := Lib.hid X5
      clear hb f0 f1 zX
      by_cases v0 : 0 ≤ v
      · have hGH : G = H := by
          rw [← HGL.out, ← HMM.out]
          exact hullL_eq (add_in HI.out (HIN.out.1 v0))
        subst hGH
        obtain rfl : u = true := by rw [← HUU.out]; exact HTT.out
        clear X5
        go_wp2_with fail
        refine (same_is go ho G.length G.length gc hc G G true w5 rfl rfl (Lib.hid (by simp)) (by omega) (by omega) G5.out H5.out).mono ?_
        rintro e w6 ⟨rfl, hb⟩
        have B6 := Lib.hid (B5.out.trans (hb.mono (by have := B5.out.size; have := HZX.out; omega)))
        clear hb
        go_wp2
        go_ret
        exact ⟨rfl, by rw [HZX.out]; exact B6.out⟩
      · have hGI : IsHull ml G := HD.out.elim (fun h => by
          exfalso
          refine hull_not HI.out fun a ha b hb c hc => h.2 a ?_ b ?_ c ?_ <;> rw [← HMM.out] <;> exact List.mem_append_left _ (by assumption)) (fun h => h.2)
        have hu : u = true := by
          rw [← HUU.out, decide_eq_true_eq]
          intro e
          have := hGI.1.1
          rw [e] at this
          simp at this
        subst hu
        obtain ⟨hx1, hx2⟩ := add_out (x := (x, y)) HI.out (by rw [← HMM.out] at hGI; exact hGI) (fun h => v0 (HIN.out.2 h))
        have HX1' : Hid (decide ((x, y) ∈ G) = true) := Lib.hid (decide_eq_true hx1)
        have HX2' := Lib.hid hx2
        clear hx1 hx2 hGI X5
        go_wp2
        go_loopw [14] (fun i wr => ∃ k : Nat, k ≤ G.length ∧ i = .int .i64 k ∧ Below w5.heap.size w5 wr) (fun i _ => G.length - (intOf i).toNat)
        case atStart => exact ⟨0, Nat.zero_le _, rfl, Below.refl _ _⟩
        case round =>
          obtain ⟨k, hk, rfl, hB⟩ := hrel
          have X6 := blk_call HX5.out hB
          have f0 := blk_cell X6 0 _ rfl
          have f1 := blk_cell X6 1 _ rfl
          have zX := blk_lt X6
          have H6 := Lib.hid (prow_below H5.out hB)
          have G6 := Lib.hid (prow_below G5.out hB)
          by_cases hlt : k < G.length
          · obtain ⟨b, o, rfl, c1, c2⟩ := prow_at G6.out hlt
            have hki : (k : Int) < G.length := by omega
            have zb' : b < wr.heap.size := World.block_lt_of_cell? wr _ c1
            obtain ⟨s, hs⟩ : ∃ s, decide ((cx G k, cy G k) ∈ H) = s := ⟨_, rfl⟩
            have HS := Lib.hid hs
            have HEQ : Hid (s = false → cx G k = x ∧ cy G k = y) := Lib.hid (fun h => by
              rw [← hs, decide_eq_false_iff_not] at h
              refine Classical.byContradiction fun hne => h (HX2'.out _ (mem_corner hlt) fun e => hne ?_)
              exact ⟨congrArg Prod.fst e, congrArg Prod.snd e⟩)
            have HB := Lib.hid hB
            clear hs hB X6
            generalize cx G k = A at *
            generalize cy G k = B at *
            go_wp2_with fail
            refine (has_is ho H.length hc A B H s wr rfl HS (by omega) H6.out).mono ?_
            rintro e w7 ⟨rfl, hb⟩
            have HB7 := Lib.hid (HB.out.trans (hb.mono HB.out.size))
            have d1 := cell_call c1 hb
            have d2 := cell_call c2 hb
            have g0 := cell_call f0 hb
            have g1 := cell_call f1 hb
            have zb7 := World.block_lt_of_cell? w7 _ d1
            have zx7 := World.block_lt_of_cell? w7 _ g0
            clear c1 c2 f0 f1 zX hb HB zb'
            cases s with
            | true =>
              go_upto_region 18 with fail
              refine wb_region mixedP (by kernel_rfl) ?_
              repeat (refine wq_step (fun K hK => ?_); go_simp; first | (refine hK _ ?_; clear hK K) | (apply Exists.intro; refine ⟨fun _ => ?_, hK _ ?_⟩; (fail); clear hK K))
              refine wq_nil ?_
              intro _ hw'
              obtain ⟨pb, hw''⟩ := hw'
              subst hw''
              have HB8 := Lib.hid (HB7.out.trans (pb.hb.mono HB7.out.size))
              obtain ⟨w8, hb8⟩ := pb
              change Hid (Below w5.heap.size w5 w8) at HB8
              dsimp only
              go_wp2
              go_roundw
              case rel => exact ⟨k + 1, by omega, by go_num, HB8.out⟩
              case measure => simp [intOf]; omega
            | false =>
              obtain ⟨rfl, rfl⟩ := HEQ.out rfl
              go_upto_region 18 with fail
              have G1 := fun p => cell_blw (by assumption) d1 p
              have G2 := fun p => cell_blw (by assumption) d2 p
              have G3 := fun p => cell_blw (by assumption) g0 p
              have G4 := fun p => cell_blw (by assumption) g1 p
              clear d1 d2 g0 g1
              refine wb_region mixedP (by kernel_rfl) ?_
              repeat (refine wq_step (fun K hK => ?_); go_simp; first | (refine hK _ ?_; clear hK K) | (apply Exists.intro; refine ⟨fun _ => ?_, hK _ ?_⟩; (fail); clear hK K))
              refine wq_nil ?_
              intro _ hw'
              obtain ⟨pb, hw''⟩ := hw'
              subst hw''
              have HB8 := Lib.hid (HB7.out.trans (pb.hb.mono HB7.out.size))
              obtain ⟨w8, hb8⟩ := pb
              change Hid (Below w5.heap.size w5 w8) at HB8
              dsimp only
              go_wp2
              go_roundw
              case rel => exact ⟨k + 1, by omega, by go_num, HB8.out⟩
              case measure => simp [intOf]; omega
          · have HB := Lib.hid (B5.out.trans (hB.mono (by have := B5.out.size; have := HZX.out; omega)))
            have hB' := hB
            clear hB X6
            go_wp2_with fail
            refine (has_is go G.length gc x y G true wr rfl HX1' (by omega) G6.out).mono ?_
            rintro e w7 ⟨rfl, hb⟩
            have HB7 := Lib.hid (HB.out.trans (hb.mono (by have := HB.out.size; have := HZX.out; omega)))
            clear hb f0 f1 zX hB'
            go_wp2
            go_ret
            exact ⟨rfl, by rw [HZX.out]; exact HB7.out⟩

theorem walk {W : World} (ao : Option Addr) (cap : Nat) (l : List (Int × Int)) (nl : l.length * 16 ≤ 140737488351232) (hP : PRow W ao l) (x y : Int) :
    Calls Try.prog 6 #[.slice ao l.length cap, .agg #[.int .i64 x, .int .i64 y]] W fun e w' => e = .returned (.bool true) ∧ Below W.heap.size W w' := walk_w ao cap l nl hP x y

set_option maxRecDepth 100000 in
theorem lifted (os : Os) (started : os.Started) (H : Type) (enc : TypeId × Value → H) :
    ReturnsInHanded {} Try.checked os 6 .any (Rows.hullAddPointSpec.pre6 enc Try.prog Try.f6 Rows.hullAddPointRow.domain false) (Rows.hullAddPointSpec.post enc Try.prog Try.f6 false true false false) := by
  refine returnsInHanded_of_change_sized (C := Try.checked) HFr.own started (by kernel_rfl) Try.func6
    (ChangeSpec.witness6 (enc := enc) (C := Try.checked) false ⟨#[], #[.slice none 0 0, .agg #[.int .i64 0, .int .i64 0]], []⟩ 8 (by kernel_rfl) (by kernel_rfl) (by kernel_rfl) (by kernel_rfl)) ?_
  intro W base args ds gs before hval0 hW hcnd hsz _
  have hval : ∀ (j : Nat) t v, Try.f6.params[j]? = some t → args[j]? = some v → Value.okWide Try.prog W .any base t v := hval0
  have hW' := hW
  obtain ⟨p, q, hA0, hV, rfl, hfz, hnd⟩ := hW
  have hA : DataW.TrodAll enc Try.prog W 0 (fun _ => true) true Try.f6.params.toList args.toList ds p := hA0
  rw [Try.params6] at hA hval
  obtain ⟨v0, vs0, d0, ds0, p0, q0, hargs, rfl, rfl, h0, r0⟩ := trodAll_cons hA
  obtain ⟨v1, vs1, d1, ds1, p1, q1, rfl, rfl, rfl, h1, r1⟩ := trodAll_cons r0
  obtain ⟨rfl, rfl, rfl⟩ := trodAll_nil r1
  obtain rfl : args = #[v0, v1] := by cases args; simp_all
  obtain ⟨rfl, rfl⟩ := trodVars_none hV
  have k0 := h0
  have lt0 : ∀ x ∈ p0, x.block < W.heap.size := by obtain ⟨m, hm⟩ := k0; exact DataW.trod_lt m _ _ _ hm
  obtain ⟨a0, cap0, l0, rfl, n0, w0⟩ := HFr.open_pts (hval 0 22 v0 rfl rfl) h0
  have k1 := h1
  have lt1 : ∀ x ∈ p1, x.block < W.heap.size := by obtain ⟨m, hm⟩ := k1; exact DataW.trod_lt m _ _ _ hm
  obtain ⟨x1, y1, rfl⟩ := HFr.open_pt (hval 1 35 v1 rfl rfl) h1
  have nb : l0.length * 16 ≤ 140737488351232 := by
    rcases open_pts_len k0 with h | ⟨el, sp, rfl, he⟩
    · omega
    · have h2 : (el.length + sp.length) * Try.prog.bytesOf 35 ≤ 140737488351232 := sized_slice hsz (j := 0) rfl rfl Try.underlying22
      have hb : Try.prog.bytesOf 35 = 16 := by kernel_rfl
      rw [hb, he] at h2
      omega
  clear hA0 hval0
  refine (walk a0 cap0 l0 nb w0 x1 y1).mono fun e W' ⟨he, bel⟩ => ?_
  subst he
  exact ⟨_, rfl, _, _, _, [], _, [], hW', trodAll_mk1 (shut_bool Try.underlying4 _), (trodAll_cons_mk (Below.trod HFr.laidOut (by kernel_rfl) (of_decide_eq_true (by kernel_rfl)) k0 bel lt0) (trodAll_cons_mk (Below.trod HFr.laidOut (by kernel_rfl) (of_decide_eq_true (by kernel_rfl)) k1 bel lt1) trodAll_mk0)), rfl, bel.frame _, fun h => by cases h⟩

/-- THE STATEMENT. -/
theorem holds : Rows.HullAddPointSaid :=
  OpenClaim.holds_of_wide 6 Try.f6 rfl rfl rfl rfl rfl rfl rfl ⟨rfl, rfl, rfl, rfl, rfl⟩ rfl rfl rfl rfl rfl (by kernel_rfl) Try.func6 (by kernel_rfl)
    (of_decide_eq_true (by kernel_rfl)) (by unfold Func.isWrapper; first | (rw [if_pos (by decide +kernel)]; kernel_rfl) | (rw [if_neg (by decide +kernel)]; exact ⟨rfl, rfl⟩))
    (fun os started H enc _ => lifted os started H enc)
#print axioms holds
end Go.Proofs.Ytjgkipgllpelhaa.hullAddPoint
