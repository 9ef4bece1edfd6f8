/- The fixed examples of layer 7's laws. -/
import Derived.Test.YtalhkcmlacppjaaDoorAmL
import Derived.Test.YtalhkcmlacppjaaDoorAmO
import Derived.Test.YtalhkcmlacppjaaDoorAmP
import Derived.Test.YtalhkcmlacppjaaDoorAmS
namespace Go.Proofs.YtalhkcmlacppjaaDoor
open Go.ChangeShapes Go.WideShapes Go.ChangeAt Go.RowKit
set_option linter.unusedVariables false
set_option linter.unusedSimpArgs false
set_option maxRecDepth 100000

theorem vOne : Hid (armB 0 0 1 1 1 1 (-17) (-17) (-17) 18 18 18 = true) := Lib.hid (by decide)

set_option maxHeartbeats 4000000 in
theorem head7_is (w : World) (hT : Tab w) : Calls Tryd.prog 10 #[] w fun e w' => e = .returned (.bool true) ∧ Below w.heap.size w w' := by
  have B := Lib.hid (Below.refl w.heap.size w)
  have TT := Lib.hid hT
  clear hT
  go_enter Tryd.func10, Tryd.ntmps10
  go_wp2_with fail
  refine (one_is _).mono ?_
  rintro e w1 ⟨rfl, hb1⟩
  replace B := Lib.hid (belT B.out hb1)
  replace TT := Lib.hid (Tab.below TT.out hb1)
  clear hb1
  go_upto_region 2 with fail
  have HA := Lib.hid (blk_new w1 (.cells #[.int .i64 0, .int .i64 0, .int .i64 1, .int .i64 1, .int .i64 1, .int .i64 1, .int .i64 (-17), .int .i64 (-17), .int .i64 (-17), .int .i64 18, .int .i64 18, .int .i64 18] 27) (w1.heap.size) rfl)
  replace B := Lib.hid (belA B.out (.cells #[.int .i64 0, .int .i64 0, .int .i64 1, .int .i64 1, .int .i64 1, .int .i64 1, .int .i64 (-17), .int .i64 (-17), .int .i64 (-17), .int .i64 18, .int .i64 18, .int .i64 18] 27))
  replace TT := Lib.hid (Tab.alloc TT.out (.cells #[.int .i64 0, .int .i64 0, .int .i64 1, .int .i64 1, .int .i64 1, .int .i64 1, .int .i64 (-17), .int .i64 (-17), .int .i64 (-17), .int .i64 18, .int .i64 18, .int .i64 18] 27))
  generalize (w1.alloc (.cells #[.int .i64 0, .int .i64 0, .int .i64 1, .int .i64 1, .int .i64 1, .int .i64 1, .int .i64 (-17), .int .i64 (-17), .int .i64 (-17), .int .i64 18, .int .i64 18, .int .i64 18] 27)) = W1 at *
  obtain ⟨a, ha⟩ : ∃ a, w1.heap.size = a := ⟨_, rfl⟩
  rw [ha] at HA ⊢
  clear ha
  obtain ⟨sp, hsp⟩ : ∃ sp : ToldS, sp = [none, none, some (newS W1.heap.size #[.int .i64 0, .int .i64 0, .int .i64 0, .int .i64 0, .int .i64 0, .int .i64 0, .int .i64 0, .int .i64 0] 44), some (newS W1.heap.size #[.int .i64 0, .int .i64 0, .int .i64 0, .int .i64 0, .int .i64 0, .int .i64 0, .int .i64 0, .int .i64 0] 44), none, none, none, none, none, none, none, none, none, none, some (eqS (.agg #[.int .i64 0, .int .i64 0, .int .i64 1, .int .i64 1, .int .i64 1, .int .i64 1, .int .i64 (-17), .int .i64 (-17), .int .i64 (-17), .int .i64 18, .int .i64 18, .int .i64 18])), some (eqS (.agg #[.int .i64 0, .int .i64 0, .int .i64 0])), some (eqS (.agg #[.int .i64 0, .int .i64 0, .int .i64 4394000, .int .i64 0, .int .i64 8788000, .int .i64 0, .int .i64 13182000, .int .i64 0])), some (eqS (.agg #[.int .i64 0, .int .i64 0, .int .i64 1, .int .i64 1, .int .i64 1, .int .i64 1, .int .i64 (-17), .int .i64 (-17), .int .i64 (-17), .int .i64 18, .int .i64 18, .int .i64 18])), some (eqS (.agg #[.int .i64 9, .int .i64 0, .int .i64 (-9)])), some (eqS (.agg #[.int .i64 0, .int .i64 0, .int .i64 0, .int .i64 4394000, .int .i64 0, .int .i64 8788000, .int .i64 4394000, .int .i64 8788000]))] := ⟨_, rfl⟩
  have s2 : sp.getD 2 none = some (newS W1.heap.size #[.int .i64 0, .int .i64 0, .int .i64 0, .int .i64 0, .int .i64 0, .int .i64 0, .int .i64 0, .int .i64 0] 44) := by rw [hsp]; rfl
  have s3 : sp.getD 3 none = some (newS W1.heap.size #[.int .i64 0, .int .i64 0, .int .i64 0, .int .i64 0, .int .i64 0, .int .i64 0, .int .i64 0, .int .i64 0] 44) := by rw [hsp]; rfl
  have s14 : sp.getD 14 none = some (eqS (.agg #[.int .i64 0, .int .i64 0, .int .i64 1, .int .i64 1, .int .i64 1, .int .i64 1, .int .i64 (-17), .int .i64 (-17), .int .i64 (-17), .int .i64 18, .int .i64 18, .int .i64 18])) := by rw [hsp]; rfl
  have s15 : sp.getD 15 none = some (eqS (.agg #[.int .i64 0, .int .i64 0, .int .i64 0])) := by rw [hsp]; rfl
  have s16 : sp.getD 16 none = some (eqS (.agg #[.int .i64 0, .int .i64 0, .int .i64 4394000, .int .i64 0, .int .i64 8788000, .int .i64 0, .int .i64 13182000, .int .i64 0])) := by rw [hsp]; rfl
  have s17 : sp.getD 17 none = some (eqS (.agg #[.int .i64 0, .int .i64 0, .int .i64 1, .int .i64 1, .int .i64 1, .int .i64 1, .int .i64 (-17), .int .i64 (-17), .int .i64 (-17), .int .i64 18, .int .i64 18, .int .i64 18])) := by rw [hsp]; rfl
  have s18 : sp.getD 18 none = some (eqS (.agg #[.int .i64 9, .int .i64 0, .int .i64 (-9)])) := by rw [hsp]; rfl
  have s19 : sp.getD 19 none = some (eqS (.agg #[.int .i64 0, .int .i64 0, .int .i64 0, .int .i64 4394000, .int .i64 0, .int .i64 8788000, .int .i64 4394000, .int .i64 8788000])) := by rw [hsp]; rfl
  clear hsp
  refine (wpIn_wide (n := 0)).1 (region_headF (FS := [2, 3]) (RtS sp) (rtS_keep sp) (fun t v w ht h => by rcases (by simpa using ht : t = 2 ∨ t = 3) with rfl | rfl <;> first | exact newS_fresh s2 h | exact newS_fresh s3 h) 8 rfl rfl rfl (by kernel_rfl) (by decide) (by kernel_rfl) (by kernel_rfl) (by kernel_rfl) ?_ ?_)
  · intro Q'; show ObsF _ _ _ _ _ _ _ _ _ (List.take _ _); simp only [List.take_succ_cons, List.take_zero]
    refine obsF_cons (obF_of ?_ (by intro d e; cases e; decide)) ?_
    · intro T wx K hB hF hD hK
      have g1 : T[1]? = some (.pointer (some ⟨a, 0, none⟩)) := hF 1 (freeM_of (by kernel_rfl))
      refine ob_yes (wanted_none rfl) ?_
      clear hF hD
      exact wp_load_row 27 (.tmp 1) rfl a (eval_tmp g1) _ _ _ _ (blk_call HA.out hB) Tryd.underlying27 rfl (by kernel_rfl) (hK _ _ (Below.refl _ _) (rt_eqS s14))
    refine obsF_cons (obF_of ?_ (by intro d e; cases e; decide)) ?_
    · intro T wx K hB hF hD hK
      refine ob_yes (wanted_none rfl) ?_
      clear hF hD
      go_simp
      exact hK _ _ (Below.refl _ _) (rt_eqS s15)
    refine obsF_cons (obF_of ?_ (by intro d e; cases e; decide)) ?_
    · intro T wx K hB hF hD hK
      have g14 := get_eqS (hD 0 14 (by simp [Region.binds]) (by kernel_rfl)) s14
      have g15 := get_eqS (hD 1 15 (by simp [Region.binds]) (by kernel_rfl)) s15
      refine ob_yes (wanted_none rfl) ?_
      clear hF hD
      go_simp
      refine (jpts_is 0 0 1 1 1 1 (-17) (-17) (-17) 18 18 18 0 0 0 65 4225 274625 0 0 0 4394000 4394000 4394000 0 0 0 4394000 8788000 13182000 0 0 0 _ (TT.out.below hB) (by omega) (by omega) (by omega) vOne (Lib.hid ⟨by decide +kernel, by decide +kernel, by decide +kernel, by decide, by decide, by decide, by decide, by decide, by decide⟩)).mono ?_; rintro e w9 ⟨rfl, hb⟩
      exact hK _ _ hb (rt_eqS s16)
    refine obsF_cons (obF_of ?_ (by intro d e; cases e; decide)) ?_
    · intro T wx K hB hF hD hK
      have g1 : T[1]? = some (.pointer (some ⟨a, 0, none⟩)) := hF 1 (freeM_of (by kernel_rfl))
      refine ob_yes (wanted_none rfl) ?_
      clear hF hD
      exact wp_load_row 27 (.tmp 1) rfl a (eval_tmp g1) _ _ _ _ (blk_call HA.out hB) Tryd.underlying27 rfl (by kernel_rfl) (hK _ _ (Below.refl _ _) (rt_eqS s17))
    refine obsF_cons (obF_of ?_ (by intro d e; cases e; decide)) ?_
    · intro T wx K hB hF hD hK
      refine ob_yes (wanted_none rfl) ?_
      clear hF hD
      go_simp
      exact hK _ _ (Below.refl _ _) (rt_eqS s18)
    refine obsF_cons (obF_of ?_ (by intro d e; cases e; decide)) ?_
    · intro T wx K hB hF hD hK
      have g17 := get_eqS (hD 3 17 (by simp [Region.binds]) (by kernel_rfl)) s17
      have g18 := get_eqS (hD 4 18 (by simp [Region.binds]) (by kernel_rfl)) s18
      refine ob_yes (wanted_none rfl) ?_
      clear hF hD
      go_simp
      refine (jpts_is 0 0 1 1 1 1 (-17) (-17) (-17) 18 18 18 9 0 (-9) 0 0 274625 65 4225 0 0 0 4394000 4394000 4394000 0 0 0 4394000 4394000 8788000 8788000 _ (TT.out.below hB) (by omega) (by omega) (by omega) vOne (Lib.hid ⟨by decide +kernel, by decide +kernel, by decide +kernel, by decide, by decide, by decide, by decide, by decide, by decide⟩)).mono ?_; rintro e w9 ⟨rfl, hb⟩
      exact hK _ _ hb (rt_eqS s19)
    refine obsF_cons ?_ ?_
    · intro T wx K hB hF hD hK
      refine ob_yes (wanted_none rfl) ?_
      clear hF hD
      go_simp
      exact hK _ _ (belA (Below.refl _ _) _) (fun d e => by cases e; exact ⟨rt_S s2 ⟨_, rfl, hB.size, blk_new _ _ _ rfl⟩ _ rfl, fun _ => rfl⟩)
    refine obsF_cons ?_ ?_
    · intro T wx K hB hF hD hK
      refine ob_yes (wanted_none rfl) ?_
      clear hF hD
      go_simp
      exact hK _ _ (belA (Below.refl _ _) _) (fun d e => by cases e; exact ⟨rt_S s3 ⟨_, rfl, hB.size, blk_new _ _ _ rfl⟩ _ rfl, fun _ => rfl⟩)
    exact obsF_nil
  · intro T9 w8 hb hF hs hD hN
    have g14 := get_eqS (hD 0 14 (by decide) (by kernel_rfl)) s14
    have g15 := get_eqS (hD 1 15 (by decide) (by kernel_rfl)) s15
    have g16 := get_eqS (hD 2 16 (by decide) (by kernel_rfl)) s16
    have g17 := get_eqS (hD 3 17 (by decide) (by kernel_rfl)) s17
    have g18 := get_eqS (hD 4 18 (by decide) (by kernel_rfl)) s18
    have g19 := get_eqS (hD 5 19 (by decide) (by kernel_rfl)) s19
    obtain ⟨v2, g2, p2⟩ := getS (hD 6 2 (by decide) (by kernel_rfl)) s2
    obtain ⟨v3, g3, p3⟩ := getS (hD 7 3 (by decide) (by kernel_rfl)) s3
    have N2_3 := hN 2 3 (by decide) (by decide) (by decide) ⟨6, by decide, by kernel_rfl⟩ ⟨7, by decide, by kernel_rfl⟩
    rw [g2, g3] at N2_3
    have hT := conc [(14, .agg #[.int .i64 0, .int .i64 0, .int .i64 1, .int .i64 1, .int .i64 1, .int .i64 1, .int .i64 (-17), .int .i64 (-17), .int .i64 (-17), .int .i64 18, .int .i64 18, .int .i64 18]), (15, .agg #[.int .i64 0, .int .i64 0, .int .i64 0]), (16, .agg #[.int .i64 0, .int .i64 0, .int .i64 4394000, .int .i64 0, .int .i64 8788000, .int .i64 0, .int .i64 13182000, .int .i64 0]), (17, .agg #[.int .i64 0, .int .i64 0, .int .i64 1, .int .i64 1, .int .i64 1, .int .i64 1, .int .i64 (-17), .int .i64 (-17), .int .i64 (-17), .int .i64 18, .int .i64 18, .int .i64 18]), (18, .agg #[.int .i64 9, .int .i64 0, .int .i64 (-9)]), (19, .agg #[.int .i64 0, .int .i64 0, .int .i64 0, .int .i64 4394000, .int .i64 0, .int .i64 8788000, .int .i64 4394000, .int .i64 8788000]), (2, v2), (3, v3)] hs hF (by simp only [List.forall_mem_cons]; exact ⟨g14, g15, g16, g17, g18, g19, g2, g3, fun p hp => absurd hp List.not_mem_nil⟩) (by kernel_rfl)
    simp only [List.foldl, List.setIfInBounds_toArray, List.set_cons_succ, List.set_cons_zero] at hT
    subst hT
    clear hF hD hs hN g14 g15 g16 g17 g18 g19 g2 g3 s2 s3 s14 s15 s16 s17 s18 s19
    show wpOpsIn _ _ _ _ _ [8, 9] _ _
    obtain ⟨b2, rfl, hs2, h2⟩ := p2
    obtain ⟨b3, rfl, hs3, h3⟩ := p3
    have ne : b2 ≠ b3 := fun e => N2_3 (by rw [e])
    refine tail_store rfl rfl rfl rfl rfl 44 (.tmp 2) (.tmp 16) rfl rfl b2 #[.int .i64 0, .int .i64 0, .int .i64 4394000, .int .i64 0, .int .i64 8788000, .int .i64 0, .int .i64 13182000, .int .i64 0] rfl rfl _ _ h2 (by kernel_rfl) rfl (by kernel_rfl) ?_
    have h3' := (setRow_other w8 b2 b3 #[.int .i64 0, .int .i64 0, .int .i64 4394000, .int .i64 0, .int .i64 8788000, .int .i64 0, .int .i64 13182000, .int .i64 0] (fun h => ne h.symm)).trans h3
    refine tail_store rfl rfl rfl rfl rfl 44 (.tmp 3) (.tmp 19) rfl rfl b3 #[.int .i64 0, .int .i64 0, .int .i64 0, .int .i64 4394000, .int .i64 0, .int .i64 8788000, .int .i64 4394000, .int .i64 8788000] rfl rfl _ _ h3' (by kernel_rfl) rfl (by kernel_rfl) ?_
    have la : a < W1.heap.size := blk_lt HA.out
    have H2 := Lib.hid ((setRow_other _ b3 b2 #[.int .i64 0, .int .i64 0, .int .i64 0, .int .i64 4394000, .int .i64 0, .int .i64 8788000, .int .i64 4394000, .int .i64 8788000] ne).trans (setRow_heap w8 b2 _ #[.int .i64 0, .int .i64 0, .int .i64 4394000, .int .i64 0, .int .i64 8788000, .int .i64 0, .int .i64 13182000, .int .i64 0] _ _ h2))
    have H3 := Lib.hid (setRow_heap _ b3 _ #[.int .i64 0, .int .i64 0, .int .i64 0, .int .i64 4394000, .int .i64 0, .int .i64 8788000, .int .i64 4394000, .int .i64 8788000] _ _ h3')
    replace HA := Lib.hid ((setRow_other _ b3 a #[.int .i64 0, .int .i64 0, .int .i64 0, .int .i64 4394000, .int .i64 0, .int .i64 8788000, .int .i64 4394000, .int .i64 8788000] (by omega)).trans ((setRow_other w8 b2 a #[.int .i64 0, .int .i64 0, .int .i64 4394000, .int .i64 0, .int .i64 8788000, .int .i64 0, .int .i64 13182000, .int .i64 0] (by omega)).trans (blk_call HA.out hb)))
    have bw := below_setRow7 (below_setRow7 hb hs2 #[.int .i64 0, .int .i64 0, .int .i64 4394000, .int .i64 0, .int .i64 8788000, .int .i64 0, .int .i64 13182000, .int .i64 0]) hs3 #[.int .i64 0, .int .i64 0, .int .i64 0, .int .i64 4394000, .int .i64 0, .int .i64 8788000, .int .i64 4394000, .int .i64 8788000]
    replace B := Lib.hid (belT B.out bw)
    replace TT := Lib.hid (Tab.below TT.out bw)
    clear bw hb h2 h3 h3' hs2 hs3 N2_3 ne la
    simp only [wpOpsIn]
    generalize ((w8.setRow b2 #[.int .i64 0, .int .i64 0, .int .i64 4394000, .int .i64 0, .int .i64 8788000, .int .i64 0, .int .i64 13182000, .int .i64 0]).setRow b3 #[.int .i64 0, .int .i64 0, .int .i64 0, .int .i64 4394000, .int .i64 0, .int .i64 8788000, .int .i64 4394000, .int .i64 8788000]) = W2 at *
    have c0 := blk_cell HA.out 0 _ rfl
    have c1 := blk_cell HA.out 1 _ rfl
    have c2 := blk_cell HA.out 2 _ rfl
    have c3 := blk_cell HA.out 3 _ rfl
    have c4 := blk_cell HA.out 4 _ rfl
    have c5 := blk_cell HA.out 5 _ rfl
    have c6 := blk_cell HA.out 6 _ rfl
    have c7 := blk_cell HA.out 7 _ rfl
    have c8 := blk_cell HA.out 8 _ rfl
    have c9 := blk_cell HA.out 9 _ rfl
    have c10 := blk_cell HA.out 10 _ rfl
    have c11 := blk_cell HA.out 11 _ rfl
    go_wp2_with fail
    refine (links_is 0 0 1 1 1 1 (-17) (-17) (-17) 18 18 18 0 0 0 65 4225 274625 0 0 0 4394000 4394000 4394000 0 0 0 4394000 8788000 13182000 0 0 0 [(0, -4394000), (4394000, -4394000), (4394000, 4394000), (0, 4394000)] [(4394000, -4394000), (8788000, -4394000), (8788000, 4394000), (4394000, 4394000)] [(8788000, -4394000), (13182000, -4394000), (13182000, 4394000), (8788000, 4394000)] _ TT.out (by omega) (by omega) (by omega) vOne (Lib.hid ⟨by decide +kernel, by decide +kernel, by decide +kernel, by decide, by decide, by decide, by decide, by decide, by decide⟩) (Lib.hid (by decide)) (Lib.hid (by decide)) (Lib.hid (by decide))).mono ?_
    rintro e w2 ⟨⟨g0, g1, g2, rfl, p0, p1, p2⟩, hb2⟩
    clear c0 c1 c2 c3 c4 c5 c6 c7 c8 c9 c10 c11
    replace HA := Lib.hid (blk_call HA.out hb2)
    replace H2 := Lib.hid (blk_call H2.out hb2)
    replace H3 := Lib.hid (blk_call H3.out hb2)
    replace B := Lib.hid (belT B.out hb2)
    replace TT := Lib.hid (Tab.below TT.out hb2)
    clear hb2
    have R0 := Lib.hid p0
    have R1 := Lib.hid p1
    have R2 := Lib.hid p2
    clear p0 p1 p2
    have c0 := blk_cell (blk_alloc HA.out (.cells #[.slice (some ⟨g0, 0, none⟩) 4 4, .slice (some ⟨g1, 0, none⟩) 4 4, .slice (some ⟨g2, 0, none⟩) 4 4] 35)) 0 _ rfl
    have c1 := blk_cell (blk_alloc HA.out (.cells #[.slice (some ⟨g0, 0, none⟩) 4 4, .slice (some ⟨g1, 0, none⟩) 4 4, .slice (some ⟨g2, 0, none⟩) 4 4] 35)) 1 _ rfl
    have c2 := blk_cell (blk_alloc HA.out (.cells #[.slice (some ⟨g0, 0, none⟩) 4 4, .slice (some ⟨g1, 0, none⟩) 4 4, .slice (some ⟨g2, 0, none⟩) 4 4] 35)) 2 _ rfl
    have c3 := blk_cell (blk_alloc HA.out (.cells #[.slice (some ⟨g0, 0, none⟩) 4 4, .slice (some ⟨g1, 0, none⟩) 4 4, .slice (some ⟨g2, 0, none⟩) 4 4] 35)) 3 _ rfl
    have c4 := blk_cell (blk_alloc HA.out (.cells #[.slice (some ⟨g0, 0, none⟩) 4 4, .slice (some ⟨g1, 0, none⟩) 4 4, .slice (some ⟨g2, 0, none⟩) 4 4] 35)) 4 _ rfl
    have c5 := blk_cell (blk_alloc HA.out (.cells #[.slice (some ⟨g0, 0, none⟩) 4 4, .slice (some ⟨g1, 0, none⟩) 4 4, .slice (some ⟨g2, 0, none⟩) 4 4] 35)) 5 _ rfl
    have c6 := blk_cell (blk_alloc HA.out (.cells #[.slice (some ⟨g0, 0, none⟩) 4 4, .slice (some ⟨g1, 0, none⟩) 4 4, .slice (some ⟨g2, 0, none⟩) 4 4] 35)) 6 _ rfl
    have c7 := blk_cell (blk_alloc HA.out (.cells #[.slice (some ⟨g0, 0, none⟩) 4 4, .slice (some ⟨g1, 0, none⟩) 4 4, .slice (some ⟨g2, 0, none⟩) 4 4] 35)) 7 _ rfl
    have c8 := blk_cell (blk_alloc HA.out (.cells #[.slice (some ⟨g0, 0, none⟩) 4 4, .slice (some ⟨g1, 0, none⟩) 4 4, .slice (some ⟨g2, 0, none⟩) 4 4] 35)) 8 _ rfl
    have c9 := blk_cell (blk_alloc HA.out (.cells #[.slice (some ⟨g0, 0, none⟩) 4 4, .slice (some ⟨g1, 0, none⟩) 4 4, .slice (some ⟨g2, 0, none⟩) 4 4] 35)) 9 _ rfl
    have c10 := blk_cell (blk_alloc HA.out (.cells #[.slice (some ⟨g0, 0, none⟩) 4 4, .slice (some ⟨g1, 0, none⟩) 4 4, .slice (some ⟨g2, 0, none⟩) 4 4] 35)) 10 _ rfl
    have c11 := blk_cell (blk_alloc HA.out (.cells #[.slice (some ⟨g0, 0, none⟩) 4 4, .slice (some ⟨g1, 0, none⟩) 4 4, .slice (some ⟨g2, 0, none⟩) 4 4] 35)) 11 _ rfl
    go_wp2_with fail
    refine (stepj1_yes 0 0 1 1 1 1 (-17) (-17) (-17) 18 18 18 18 0 (-17) (-1) _ (by omega) (by omega) (by omega) (by omega) (Lib.hid (by decide))).mono ?_
    rintro e w3 ⟨rfl, hb3⟩
    clear c0 c1 c2 c3 c4 c5 c6 c7 c8 c9 c10 c11
    replace HA := Lib.hid (blk_call (blk_alloc HA.out (.cells #[.slice (some ⟨g0, 0, none⟩) 4 4, .slice (some ⟨g1, 0, none⟩) 4 4, .slice (some ⟨g2, 0, none⟩) 4 4] 35)) hb3)
    replace H2 := Lib.hid (blk_call (blk_alloc H2.out (.cells #[.slice (some ⟨g0, 0, none⟩) 4 4, .slice (some ⟨g1, 0, none⟩) 4 4, .slice (some ⟨g2, 0, none⟩) 4 4] 35)) hb3)
    replace H3 := Lib.hid (blk_call (blk_alloc H3.out (.cells #[.slice (some ⟨g0, 0, none⟩) 4 4, .slice (some ⟨g1, 0, none⟩) 4 4, .slice (some ⟨g2, 0, none⟩) 4 4] 35)) hb3)
    replace R0 := Lib.hid (prow_below (prow_alloc R0.out (.cells #[.slice (some ⟨g0, 0, none⟩) 4 4, .slice (some ⟨g1, 0, none⟩) 4 4, .slice (some ⟨g2, 0, none⟩) 4 4] 35)) hb3)
    replace R1 := Lib.hid (prow_below (prow_alloc R1.out (.cells #[.slice (some ⟨g0, 0, none⟩) 4 4, .slice (some ⟨g1, 0, none⟩) 4 4, .slice (some ⟨g2, 0, none⟩) 4 4] 35)) hb3)
    replace R2 := Lib.hid (prow_below (prow_alloc R2.out (.cells #[.slice (some ⟨g0, 0, none⟩) 4 4, .slice (some ⟨g1, 0, none⟩) 4 4, .slice (some ⟨g2, 0, none⟩) 4 4] 35)) hb3)
    have HL := Lib.hid (blk_call (blk_new w2 (.cells #[.slice (some ⟨g0, 0, none⟩) 4 4, .slice (some ⟨g1, 0, none⟩) 4 4, .slice (some ⟨g2, 0, none⟩) 4 4] 35) (w2.heap.size) rfl) hb3)
    replace B := Lib.hid (belT (belA B.out (.cells #[.slice (some ⟨g0, 0, none⟩) 4 4, .slice (some ⟨g1, 0, none⟩) 4 4, .slice (some ⟨g2, 0, none⟩) 4 4] 35)) hb3)
    replace TT := Lib.hid (Tab.below (Tab.alloc TT.out (.cells #[.slice (some ⟨g0, 0, none⟩) 4 4, .slice (some ⟨g1, 0, none⟩) 4 4, .slice (some ⟨g2, 0, none⟩) 4 4] 35)) hb3)
    clear hb3
    have c0 := blk_cell (blk_alloc HA.out (.cells #[.int .i64 18, .int .i64 (-1), .int .i64 (-17)] 25)) 0 _ rfl
    have c1 := blk_cell (blk_alloc HA.out (.cells #[.int .i64 18, .int .i64 (-1), .int .i64 (-17)] 25)) 1 _ rfl
    have c2 := blk_cell (blk_alloc HA.out (.cells #[.int .i64 18, .int .i64 (-1), .int .i64 (-17)] 25)) 2 _ rfl
    have c3 := blk_cell (blk_alloc HA.out (.cells #[.int .i64 18, .int .i64 (-1), .int .i64 (-17)] 25)) 3 _ rfl
    have c4 := blk_cell (blk_alloc HA.out (.cells #[.int .i64 18, .int .i64 (-1), .int .i64 (-17)] 25)) 4 _ rfl
    have c5 := blk_cell (blk_alloc HA.out (.cells #[.int .i64 18, .int .i64 (-1), .int .i64 (-17)] 25)) 5 _ rfl
    have c6 := blk_cell (blk_alloc HA.out (.cells #[.int .i64 18, .int .i64 (-1), .int .i64 (-17)] 25)) 6 _ rfl
    have c7 := blk_cell (blk_alloc HA.out (.cells #[.int .i64 18, .int .i64 (-1), .int .i64 (-17)] 25)) 7 _ rfl
    have c8 := blk_cell (blk_alloc HA.out (.cells #[.int .i64 18, .int .i64 (-1), .int .i64 (-17)] 25)) 8 _ rfl
    have c9 := blk_cell (blk_alloc HA.out (.cells #[.int .i64 18, .int .i64 (-1), .int .i64 (-17)] 25)) 9 _ rfl
    have c10 := blk_cell (blk_alloc HA.out (.cells #[.int .i64 18, .int .i64 (-1), .int .i64 (-17)] 25)) 10 _ rfl
    have c11 := blk_cell (blk_alloc HA.out (.cells #[.int .i64 18, .int .i64 (-1), .int .i64 (-17)] 25)) 11 _ rfl
    go_wp2_with fail
    refine (stepj0_no 0 0 1 1 1 1 (-17) (-17) (-17) 18 18 18 18 0 (-17) 1 _ (by omega) (by omega) (by omega) (by omega) (Lib.hid (by decide))).mono ?_
    rintro e w4 ⟨rfl, hb4⟩
    clear c0 c1 c2 c3 c4 c5 c6 c7 c8 c9 c10 c11
    replace HA := Lib.hid (blk_call (blk_alloc HA.out (.cells #[.int .i64 18, .int .i64 (-1), .int .i64 (-17)] 25)) hb4)
    replace H2 := Lib.hid (blk_call (blk_alloc H2.out (.cells #[.int .i64 18, .int .i64 (-1), .int .i64 (-17)] 25)) hb4)
    replace H3 := Lib.hid (blk_call (blk_alloc H3.out (.cells #[.int .i64 18, .int .i64 (-1), .int .i64 (-17)] 25)) hb4)
    replace R0 := Lib.hid (prow_below (prow_alloc R0.out (.cells #[.int .i64 18, .int .i64 (-1), .int .i64 (-17)] 25)) hb4)
    replace R1 := Lib.hid (prow_below (prow_alloc R1.out (.cells #[.int .i64 18, .int .i64 (-1), .int .i64 (-17)] 25)) hb4)
    replace R2 := Lib.hid (prow_below (prow_alloc R2.out (.cells #[.int .i64 18, .int .i64 (-1), .int .i64 (-17)] 25)) hb4)
    replace HL := Lib.hid (blk_call (blk_alloc HL.out (.cells #[.int .i64 18, .int .i64 (-1), .int .i64 (-17)] 25)) hb4)
    have H5 := Lib.hid (blk_call (blk_new w3 (.cells #[.int .i64 18, .int .i64 (-1), .int .i64 (-17)] 25) (w3.heap.size) rfl) hb4)
    replace B := Lib.hid (belT (belA B.out (.cells #[.int .i64 18, .int .i64 (-1), .int .i64 (-17)] 25)) hb4)
    replace TT := Lib.hid (Tab.below (Tab.alloc TT.out (.cells #[.int .i64 18, .int .i64 (-1), .int .i64 (-17)] 25)) hb4)
    clear hb4
    have c0 := blk_cell (blk_alloc HA.out (.cells #[.int .i64 0, .int .i64 0, .int .i64 0] 25)) 0 _ rfl
    have c1 := blk_cell (blk_alloc HA.out (.cells #[.int .i64 0, .int .i64 0, .int .i64 0] 25)) 1 _ rfl
    have c2 := blk_cell (blk_alloc HA.out (.cells #[.int .i64 0, .int .i64 0, .int .i64 0] 25)) 2 _ rfl
    have c3 := blk_cell (blk_alloc HA.out (.cells #[.int .i64 0, .int .i64 0, .int .i64 0] 25)) 3 _ rfl
    have c4 := blk_cell (blk_alloc HA.out (.cells #[.int .i64 0, .int .i64 0, .int .i64 0] 25)) 4 _ rfl
    have c5 := blk_cell (blk_alloc HA.out (.cells #[.int .i64 0, .int .i64 0, .int .i64 0] 25)) 5 _ rfl
    have c6 := blk_cell (blk_alloc HA.out (.cells #[.int .i64 0, .int .i64 0, .int .i64 0] 25)) 6 _ rfl
    have c7 := blk_cell (blk_alloc HA.out (.cells #[.int .i64 0, .int .i64 0, .int .i64 0] 25)) 7 _ rfl
    have c8 := blk_cell (blk_alloc HA.out (.cells #[.int .i64 0, .int .i64 0, .int .i64 0] 25)) 8 _ rfl
    have c9 := blk_cell (blk_alloc HA.out (.cells #[.int .i64 0, .int .i64 0, .int .i64 0] 25)) 9 _ rfl
    have c10 := blk_cell (blk_alloc HA.out (.cells #[.int .i64 0, .int .i64 0, .int .i64 0] 25)) 10 _ rfl
    have c11 := blk_cell (blk_alloc HA.out (.cells #[.int .i64 0, .int .i64 0, .int .i64 0] 25)) 11 _ rfl
    go_wp2_with fail
    refine (stepj2_no 0 0 1 1 1 1 (-17) (-17) (-17) 18 18 18 18 0 (-17) (-1) _ (by omega) (by omega) (by omega) (by omega) (Lib.hid (by decide))).mono ?_
    rintro e w5 ⟨rfl, hb5⟩
    clear c0 c1 c2 c3 c4 c5 c6 c7 c8 c9 c10 c11
    replace HA := Lib.hid (blk_call (blk_alloc HA.out (.cells #[.int .i64 0, .int .i64 0, .int .i64 0] 25)) hb5)
    replace H2 := Lib.hid (blk_call (blk_alloc H2.out (.cells #[.int .i64 0, .int .i64 0, .int .i64 0] 25)) hb5)
    replace H3 := Lib.hid (blk_call (blk_alloc H3.out (.cells #[.int .i64 0, .int .i64 0, .int .i64 0] 25)) hb5)
    replace R0 := Lib.hid (prow_below (prow_alloc R0.out (.cells #[.int .i64 0, .int .i64 0, .int .i64 0] 25)) hb5)
    replace R1 := Lib.hid (prow_below (prow_alloc R1.out (.cells #[.int .i64 0, .int .i64 0, .int .i64 0] 25)) hb5)
    replace R2 := Lib.hid (prow_below (prow_alloc R2.out (.cells #[.int .i64 0, .int .i64 0, .int .i64 0] 25)) hb5)
    replace HL := Lib.hid (blk_call (blk_alloc HL.out (.cells #[.int .i64 0, .int .i64 0, .int .i64 0] 25)) hb5)
    replace H5 := Lib.hid (blk_call (blk_alloc H5.out (.cells #[.int .i64 0, .int .i64 0, .int .i64 0] 25)) hb5)
    replace B := Lib.hid (belT (belA B.out (.cells #[.int .i64 0, .int .i64 0, .int .i64 0] 25)) hb5)
    replace TT := Lib.hid (Tab.below (Tab.alloc TT.out (.cells #[.int .i64 0, .int .i64 0, .int .i64 0] 25)) hb5)
    clear hb5
    go_upto_region 7 with fail
    replace HA := Lib.hid (blk_alloc HA.out (.cells #[.int .i64 0, .int .i64 0, .int .i64 0] 25))
    replace H2 := Lib.hid (blk_alloc H2.out (.cells #[.int .i64 0, .int .i64 0, .int .i64 0] 25))
    replace H3 := Lib.hid (blk_alloc H3.out (.cells #[.int .i64 0, .int .i64 0, .int .i64 0] 25))
    replace R0 := Lib.hid (prow_alloc R0.out (.cells #[.int .i64 0, .int .i64 0, .int .i64 0] 25))
    replace R1 := Lib.hid (prow_alloc R1.out (.cells #[.int .i64 0, .int .i64 0, .int .i64 0] 25))
    replace R2 := Lib.hid (prow_alloc R2.out (.cells #[.int .i64 0, .int .i64 0, .int .i64 0] 25))
    replace HL := Lib.hid (blk_alloc HL.out (.cells #[.int .i64 0, .int .i64 0, .int .i64 0] 25))
    replace H5 := Lib.hid (blk_alloc H5.out (.cells #[.int .i64 0, .int .i64 0, .int .i64 0] 25))
    replace B := Lib.hid (belA B.out (.cells #[.int .i64 0, .int .i64 0, .int .i64 0] 25))
    replace TT := Lib.hid (Tab.alloc TT.out (.cells #[.int .i64 0, .int .i64 0, .int .i64 0] 25))
    generalize (w5.alloc (.cells #[.int .i64 0, .int .i64 0, .int .i64 0] 25)) = W3 at *
    have c0 := blk_cell HA.out 0 _ rfl
    have c1 := blk_cell HA.out 1 _ rfl
    have c2 := blk_cell HA.out 2 _ rfl
    have c3 := blk_cell HA.out 3 _ rfl
    have c4 := blk_cell HA.out 4 _ rfl
    have c5 := blk_cell HA.out 5 _ rfl
    have c6 := blk_cell HA.out 6 _ rfl
    have c7 := blk_cell HA.out 7 _ rfl
    have c8 := blk_cell HA.out 8 _ rfl
    have c9 := blk_cell HA.out 9 _ rfl
    have c10 := blk_cell HA.out 10 _ rfl
    have c11 := blk_cell HA.out 11 _ rfl
    go_upto_region 9 with fail
    clear c0 c1 c2 c3 c4 c5 c6 c7 c8 c9 c10 c11
    replace HA := Lib.hid (blk_alloc HA.out (.cells #[.int .i64 8, .int .i64 0, .int .i64 1, .int .i64 1, .int .i64 1, .int .i64 1, .int .i64 (-17), .int .i64 (-17), .int .i64 (-17), .int .i64 18, .int .i64 18, .int .i64 18] 27))
    replace H2 := Lib.hid (blk_alloc H2.out (.cells #[.int .i64 8, .int .i64 0, .int .i64 1, .int .i64 1, .int .i64 1, .int .i64 1, .int .i64 (-17), .int .i64 (-17), .int .i64 (-17), .int .i64 18, .int .i64 18, .int .i64 18] 27))
    replace H3 := Lib.hid (blk_alloc H3.out (.cells #[.int .i64 8, .int .i64 0, .int .i64 1, .int .i64 1, .int .i64 1, .int .i64 1, .int .i64 (-17), .int .i64 (-17), .int .i64 (-17), .int .i64 18, .int .i64 18, .int .i64 18] 27))
    replace R0 := Lib.hid (prow_alloc R0.out (.cells #[.int .i64 8, .int .i64 0, .int .i64 1, .int .i64 1, .int .i64 1, .int .i64 1, .int .i64 (-17), .int .i64 (-17), .int .i64 (-17), .int .i64 18, .int .i64 18, .int .i64 18] 27))
    replace R1 := Lib.hid (prow_alloc R1.out (.cells #[.int .i64 8, .int .i64 0, .int .i64 1, .int .i64 1, .int .i64 1, .int .i64 1, .int .i64 (-17), .int .i64 (-17), .int .i64 (-17), .int .i64 18, .int .i64 18, .int .i64 18] 27))
    replace R2 := Lib.hid (prow_alloc R2.out (.cells #[.int .i64 8, .int .i64 0, .int .i64 1, .int .i64 1, .int .i64 1, .int .i64 1, .int .i64 (-17), .int .i64 (-17), .int .i64 (-17), .int .i64 18, .int .i64 18, .int .i64 18] 27))
    replace HL := Lib.hid (blk_alloc HL.out (.cells #[.int .i64 8, .int .i64 0, .int .i64 1, .int .i64 1, .int .i64 1, .int .i64 1, .int .i64 (-17), .int .i64 (-17), .int .i64 (-17), .int .i64 18, .int .i64 18, .int .i64 18] 27))
    replace H5 := Lib.hid (blk_alloc H5.out (.cells #[.int .i64 8, .int .i64 0, .int .i64 1, .int .i64 1, .int .i64 1, .int .i64 1, .int .i64 (-17), .int .i64 (-17), .int .i64 (-17), .int .i64 18, .int .i64 18, .int .i64 18] 27))
    have H11 := Lib.hid (blk_new W3 (.cells #[.int .i64 8, .int .i64 0, .int .i64 1, .int .i64 1, .int .i64 1, .int .i64 1, .int .i64 (-17), .int .i64 (-17), .int .i64 (-17), .int .i64 18, .int .i64 18, .int .i64 18] 27) (W3.heap.size) rfl)
    replace B := Lib.hid (belA B.out (.cells #[.int .i64 8, .int .i64 0, .int .i64 1, .int .i64 1, .int .i64 1, .int .i64 1, .int .i64 (-17), .int .i64 (-17), .int .i64 (-17), .int .i64 18, .int .i64 18, .int .i64 18] 27))
    replace TT := Lib.hid (Tab.alloc TT.out (.cells #[.int .i64 8, .int .i64 0, .int .i64 1, .int .i64 1, .int .i64 1, .int .i64 1, .int .i64 (-17), .int .i64 (-17), .int .i64 (-17), .int .i64 18, .int .i64 18, .int .i64 18] 27))
    generalize (W3.alloc (.cells #[.int .i64 8, .int .i64 0, .int .i64 1, .int .i64 1, .int .i64 1, .int .i64 1, .int .i64 (-17), .int .i64 (-17), .int .i64 (-17), .int .i64 18, .int .i64 18, .int .i64 18] 27)) = W4 at *
    have E2 : ∀ w : World, (binOp .eql 44 (.agg #[.int .i64 0, .int .i64 0, .int .i64 4394000, .int .i64 0, .int .i64 8788000, .int .i64 0, .int .i64 13182000, .int .i64 0]) (.agg #[.int .i64 0, .int .i64 0, .int .i64 4394000, .int .i64 0, .int .i64 8788000, .int .i64 0, .int .i64 13182000, .int .i64 0])).run Tryd.prog w = .ok (.bool true) w := fun w => by kernel_rfl
    have E3 : ∀ w : World, (binOp .eql 44 (.agg #[.int .i64 0, .int .i64 0, .int .i64 0, .int .i64 4394000, .int .i64 0, .int .i64 8788000, .int .i64 4394000, .int .i64 8788000]) (.agg #[.int .i64 0, .int .i64 0, .int .i64 0, .int .i64 4394000, .int .i64 0, .int .i64 8788000, .int .i64 4394000, .int .i64 8788000])).run Tryd.prog w = .ok (.bool true) w := fun w => by kernel_rfl
    have E4 : ∀ w : World, (binOp .eql 25 (.agg #[.int .i64 18, .int .i64 (-1), .int .i64 (-17)]) (.agg #[.int .i64 18, .int .i64 (-1), .int .i64 (-17)])).run Tryd.prog w = .ok (.bool true) w := fun w => by kernel_rfl
    have E5 : ∀ w : World, (binOp .eql 41 (.agg #[.int .i64 63, .int .i64 16, .int .i64 1]) (.agg #[.int .i64 63, .int .i64 16, .int .i64 1])).run Tryd.prog w = .ok (.bool true) w := fun w => by kernel_rfl
    have c0 := blk_cell HA.out 0 _ rfl
    have c1 := blk_cell HA.out 1 _ rfl
    have c2 := blk_cell HA.out 2 _ rfl
    have c3 := blk_cell HA.out 3 _ rfl
    have c4 := blk_cell HA.out 4 _ rfl
    have c5 := blk_cell HA.out 5 _ rfl
    have c6 := blk_cell HA.out 6 _ rfl
    have c7 := blk_cell HA.out 7 _ rfl
    have c8 := blk_cell HA.out 8 _ rfl
    have c9 := blk_cell HA.out 9 _ rfl
    have c10 := blk_cell HA.out 10 _ rfl
    have c11 := blk_cell HA.out 11 _ rfl
    have d0 := blk_cell H2.out 0 _ rfl
    have d1 := blk_cell H2.out 1 _ rfl
    have d2 := blk_cell H2.out 2 _ rfl
    have d3 := blk_cell H2.out 3 _ rfl
    have d4 := blk_cell H2.out 4 _ rfl
    have d5 := blk_cell H2.out 5 _ rfl
    have d6 := blk_cell H2.out 6 _ rfl
    have d7 := blk_cell H2.out 7 _ rfl
    have e0 := blk_cell H3.out 0 _ rfl
    have e1 := blk_cell H3.out 1 _ rfl
    have e2 := blk_cell H3.out 2 _ rfl
    have e3 := blk_cell H3.out 3 _ rfl
    have e4 := blk_cell H3.out 4 _ rfl
    have e5 := blk_cell H3.out 5 _ rfl
    have e6 := blk_cell H3.out 6 _ rfl
    have e7 := blk_cell H3.out 7 _ rfl
    have f0 := blk_cell HL.out 0 _ rfl
    have f1 := blk_cell HL.out 1 _ rfl
    have f2 := blk_cell HL.out 2 _ rfl
    go_wp2_with fail
    refine (same4_is g1 _ 4394000 (-4394000) 8788000 (-4394000) 8788000 4394000 4394000 4394000 _ (prow_alloc R1.out (.cells #[.int .i64 4394000, .int .i64 (-4394000), .int .i64 8788000, .int .i64 (-4394000), .int .i64 8788000, .int .i64 4394000, .int .i64 4394000, .int .i64 4394000] 23)) (prow_new _ _ _ _ rfl rfl)).mono ?_
    rintro e w6 ⟨rfl, hb6⟩
    clear c0 c1 c2 c3 c4 c5 c6 c7 c8 c9 c10 c11 d0 d1 d2 d3 d4 d5 d6 d7 e0 e1 e2 e3 e4 e5 e6 e7 f0 f1 f2
    replace HA := Lib.hid (blk_call (blk_alloc HA.out (.cells #[.int .i64 4394000, .int .i64 (-4394000), .int .i64 8788000, .int .i64 (-4394000), .int .i64 8788000, .int .i64 4394000, .int .i64 4394000, .int .i64 4394000] 23)) hb6)
    replace H2 := Lib.hid (blk_call (blk_alloc H2.out (.cells #[.int .i64 4394000, .int .i64 (-4394000), .int .i64 8788000, .int .i64 (-4394000), .int .i64 8788000, .int .i64 4394000, .int .i64 4394000, .int .i64 4394000] 23)) hb6)
    replace H3 := Lib.hid (blk_call (blk_alloc H3.out (.cells #[.int .i64 4394000, .int .i64 (-4394000), .int .i64 8788000, .int .i64 (-4394000), .int .i64 8788000, .int .i64 4394000, .int .i64 4394000, .int .i64 4394000] 23)) hb6)
    replace R0 := Lib.hid (prow_below (prow_alloc R0.out (.cells #[.int .i64 4394000, .int .i64 (-4394000), .int .i64 8788000, .int .i64 (-4394000), .int .i64 8788000, .int .i64 4394000, .int .i64 4394000, .int .i64 4394000] 23)) hb6)
    replace R1 := Lib.hid (prow_below (prow_alloc R1.out (.cells #[.int .i64 4394000, .int .i64 (-4394000), .int .i64 8788000, .int .i64 (-4394000), .int .i64 8788000, .int .i64 4394000, .int .i64 4394000, .int .i64 4394000] 23)) hb6)
    replace R2 := Lib.hid (prow_below (prow_alloc R2.out (.cells #[.int .i64 4394000, .int .i64 (-4394000), .int .i64 8788000, .int .i64 (-4394000), .int .i64 8788000, .int .i64 4394000, .int .i64 4394000, .int .i64 4394000] 23)) hb6)
    replace HL := Lib.hid (blk_call (blk_alloc HL.out (.cells #[.int .i64 4394000, .int .i64 (-4394000), .int .i64 8788000, .int .i64 (-4394000), .int .i64 8788000, .int .i64 4394000, .int .i64 4394000, .int .i64 4394000] 23)) hb6)
    replace H5 := Lib.hid (blk_call (blk_alloc H5.out (.cells #[.int .i64 4394000, .int .i64 (-4394000), .int .i64 8788000, .int .i64 (-4394000), .int .i64 8788000, .int .i64 4394000, .int .i64 4394000, .int .i64 4394000] 23)) hb6)
    replace H11 := Lib.hid (blk_call (blk_alloc H11.out (.cells #[.int .i64 4394000, .int .i64 (-4394000), .int .i64 8788000, .int .i64 (-4394000), .int .i64 8788000, .int .i64 4394000, .int .i64 4394000, .int .i64 4394000] 23)) hb6)
    replace B := Lib.hid (belT (belA B.out (.cells #[.int .i64 4394000, .int .i64 (-4394000), .int .i64 8788000, .int .i64 (-4394000), .int .i64 8788000, .int .i64 4394000, .int .i64 4394000, .int .i64 4394000] 23)) hb6)
    replace TT := Lib.hid (Tab.below (Tab.alloc TT.out (.cells #[.int .i64 4394000, .int .i64 (-4394000), .int .i64 8788000, .int .i64 (-4394000), .int .i64 8788000, .int .i64 4394000, .int .i64 4394000, .int .i64 4394000] 23)) hb6)
    clear hb6
    have c0 := blk_cell HA.out 0 _ rfl
    have c1 := blk_cell HA.out 1 _ rfl
    have c2 := blk_cell HA.out 2 _ rfl
    have c3 := blk_cell HA.out 3 _ rfl
    have c4 := blk_cell HA.out 4 _ rfl
    have c5 := blk_cell HA.out 5 _ rfl
    have c6 := blk_cell HA.out 6 _ rfl
    have c7 := blk_cell HA.out 7 _ rfl
    have c8 := blk_cell HA.out 8 _ rfl
    have c9 := blk_cell HA.out 9 _ rfl
    have c10 := blk_cell HA.out 10 _ rfl
    have c11 := blk_cell HA.out 11 _ rfl
    have d0 := blk_cell H5.out 0 _ rfl
    have d1 := blk_cell H5.out 1 _ rfl
    have d2 := blk_cell H5.out 2 _ rfl
    go_wp2_with fail
    refine (armv_is 0 0 1 1 1 1 (-17) (-17) (-17) 18 18 18 true _ vOne).mono ?_
    rintro e w7 ⟨rfl, hb7⟩
    clear c0 c1 c2 c3 c4 c5 c6 c7 c8 c9 c10 c11 d0 d1 d2
    replace HA := Lib.hid (blk_call HA.out hb7)
    replace H5 := Lib.hid (blk_call H5.out hb7)
    replace H11 := Lib.hid (blk_call H11.out hb7)
    replace B := Lib.hid (belT B.out hb7)
    replace TT := Lib.hid (Tab.below TT.out hb7)
    clear hb7
    have c0 := blk_cell H11.out 0 _ rfl
    have c1 := blk_cell H11.out 1 _ rfl
    have c2 := blk_cell H11.out 2 _ rfl
    have c3 := blk_cell H11.out 3 _ rfl
    have c4 := blk_cell H11.out 4 _ rfl
    have c5 := blk_cell H11.out 5 _ rfl
    have c6 := blk_cell H11.out 6 _ rfl
    have c7 := blk_cell H11.out 7 _ rfl
    have c8 := blk_cell H11.out 8 _ rfl
    have c9 := blk_cell H11.out 9 _ rfl
    have c10 := blk_cell H11.out 10 _ rfl
    have c11 := blk_cell H11.out 11 _ rfl
    go_wp2_with fail
    refine (armv_is 8 0 1 1 1 1 (-17) (-17) (-17) 18 18 18 false _ (Lib.hid (by decide))).mono ?_
    rintro e w8 ⟨rfl, hb8⟩
    clear c0 c1 c2 c3 c4 c5 c6 c7 c8 c9 c10 c11
    replace HA := Lib.hid (blk_call HA.out hb8)
    replace H5 := Lib.hid (blk_call H5.out hb8)
    replace H11 := Lib.hid (blk_call H11.out hb8)
    replace B := Lib.hid (belT B.out hb8)
    replace TT := Lib.hid (Tab.below TT.out hb8)
    clear hb8
    have c0 := blk_cell HA.out 0 _ rfl
    have c1 := blk_cell HA.out 1 _ rfl
    have c2 := blk_cell HA.out 2 _ rfl
    have c3 := blk_cell HA.out 3 _ rfl
    have c4 := blk_cell HA.out 4 _ rfl
    have c5 := blk_cell HA.out 5 _ rfl
    have c6 := blk_cell HA.out 6 _ rfl
    have c7 := blk_cell HA.out 7 _ rfl
    have c8 := blk_cell HA.out 8 _ rfl
    have c9 := blk_cell HA.out 9 _ rfl
    have c10 := blk_cell HA.out 10 _ rfl
    have c11 := blk_cell HA.out 11 _ rfl
    have d0 := blk_cell H5.out 0 _ rfl
    have d1 := blk_cell H5.out 1 _ rfl
    have d2 := blk_cell H5.out 2 _ rfl
    go_wp2_with fail
    refine (inlim_is 0 0 1 1 1 1 (-17) (-17) (-17) 18 18 18 18 (-1) (-17) true _ (Lib.hid (by decide))).mono ?_
    rintro e w9 ⟨rfl, hb9⟩
    clear c0 c1 c2 c3 c4 c5 c6 c7 c8 c9 c10 c11 d0 d1 d2
    replace HA := Lib.hid (blk_call HA.out hb9)
    replace H5 := Lib.hid (blk_call H5.out hb9)
    replace H11 := Lib.hid (blk_call H11.out hb9)
    replace B := Lib.hid (belT B.out hb9)
    replace TT := Lib.hid (Tab.below TT.out hb9)
    clear hb9
    have c0 := blk_cell HA.out 0 _ rfl
    have c1 := blk_cell HA.out 1 _ rfl
    have c2 := blk_cell HA.out 2 _ rfl
    have c3 := blk_cell HA.out 3 _ rfl
    have c4 := blk_cell HA.out 4 _ rfl
    have c5 := blk_cell HA.out 5 _ rfl
    have c6 := blk_cell HA.out 6 _ rfl
    have c7 := blk_cell HA.out 7 _ rfl
    have c8 := blk_cell HA.out 8 _ rfl
    have c9 := blk_cell HA.out 9 _ rfl
    have c10 := blk_cell HA.out 10 _ rfl
    have c11 := blk_cell HA.out 11 _ rfl
    go_wp2_with fail
    refine (inlim_is 0 0 1 1 1 1 (-17) (-17) (-17) 18 18 18 0 19 0 false _ (Lib.hid (by decide))).mono ?_
    rintro e w10 ⟨rfl, hb10⟩
    clear c0 c1 c2 c3 c4 c5 c6 c7 c8 c9 c10 c11
    replace HA := Lib.hid (blk_call HA.out hb10)
    replace H5 := Lib.hid (blk_call H5.out hb10)
    replace H11 := Lib.hid (blk_call H11.out hb10)
    replace B := Lib.hid (belT B.out hb10)
    replace TT := Lib.hid (Tab.below TT.out hb10)
    clear hb10
    have c0 := blk_cell HA.out 0 _ rfl
    have c1 := blk_cell HA.out 1 _ rfl
    have c2 := blk_cell HA.out 2 _ rfl
    have c3 := blk_cell HA.out 3 _ rfl
    have c4 := blk_cell HA.out 4 _ rfl
    have c5 := blk_cell HA.out 5 _ rfl
    have c6 := blk_cell HA.out 6 _ rfl
    have c7 := blk_cell HA.out 7 _ rfl
    have c8 := blk_cell HA.out 8 _ rfl
    have c9 := blk_cell HA.out 9 _ rfl
    have c10 := blk_cell HA.out 10 _ rfl
    have c11 := blk_cell HA.out 11 _ rfl
    go_wp2_with fail
    refine (ldirs_is 0 0 1 1 1 1 (-17) (-17) (-17) 18 18 18 1 0 0 63 16 4095 1040 266175 67600 _ TT.out (by omega) (by omega) (by omega) (Lib.hid (by decide +kernel)) (Lib.hid (by decide +kernel)) (Lib.hid (by decide +kernel))).mono ?_
    rintro e w11 ⟨rfl, hb11⟩
    clear c0 c1 c2 c3 c4 c5 c6 c7 c8 c9 c10 c11
    replace HA := Lib.hid (blk_call HA.out hb11)
    replace H5 := Lib.hid (blk_call H5.out hb11)
    replace H11 := Lib.hid (blk_call H11.out hb11)
    replace B := Lib.hid (belT B.out hb11)
    replace TT := Lib.hid (Tab.below TT.out hb11)
    clear hb11
    have E6 := fun w => (ixD 63 16 4095 1040 266175 67600 w).1
    go_wp2_with fail
    go_ret
    exact ⟨rfl, B.out⟩
end Go.Proofs.YtalhkcmlacppjaaDoor
