/- Contract of the laws of layer 8: head. -/
import Derived.Test.YtceejjamngplkaaDoorIkP
import Derived.Test.YtceejjamngplkaaDoorIkQ
import Derived.Test.YtceejjamngplkaaDoorIkF
import Derived.Test.YtceejjamngplkaaDoorIkG
namespace Go.Proofs.YtceejjamngplkaaDoor
open Go.ChangeShapes Go.WideShapes Go.ChangeAt Go.RowKit
set_option linter.unusedVariables false
set_option linter.unusedSimpArgs false
set_option maxRecDepth 100000

def rowN (n : Nat) (l : List J3) : StP := ⟨fun v w => ∃ ao c, v = .slice ao n c ∧ PRow3 w ao l, fun _ _ _ ⟨ao, c, h, p⟩ hb => ⟨ao, c, h, prow3_below p hb⟩⟩
theorem b1000_of {q : J3} (h : smB q = true) : B1000 q := by unfold B1000; exact of_decide_eq_true h
theorem prow3_new (w : World) (l : List J3) (vs : Array Value) (n : Nat) (hn : w.heap.size = n) (hv : vs = (flat3 l).toArray) : PRow3 (w.alloc (.cells vs 25)) (some ⟨n, 0, none⟩) l := fun i hi => by
  obtain ⟨h1, h2, h3⟩ := flat3_get l i hi
  have hb : (w.alloc (.cells vs 25)).heap[n]? = some (.cells vs 25 (0, 0)) := blk_new _ _ _ hn
  refine ⟨n, 0, rfl, ?_, ?_, ?_⟩
  · rw [Nat.zero_add]; exact blk_cell hb (i * 3) _ (by rw [hv]; simpa using h1)
  · rw [Nat.zero_add]; exact blk_cell hb (i * 3 + 1) _ (by rw [hv]; simpa using h2)
  · rw [Nat.zero_add]; exact blk_cell hb (i * 3 + 2) _ (by rw [hv]; simpa using h3)
theorem nearX1 (w : World) (ao : Option Addr) (h : PRow3 w ao [(5, 0, 0), (0, 3, 0), (0, 0, -3)]) : Calls Tryd.prog 19 #[.slice ao 3 3, .agg #[.int .i64 0, .int .i64 0, .int .i64 0]] w fun x w' => x = .returned (.tuple #[.agg #[.int .i64 0, .int .i64 3, .int .i64 0], .bool true]) ∧ Below w.heap.size w w' :=
  nearest_is ao 3 3 [(5, 0, 0), (0, 3, 0), (0, 0, -3)] 0 0 0 0 3 0 w rfl (by decide) (by decide) (by decide) h (Lib.hid (by intro x hx; simp only [List.mem_cons, List.not_mem_nil, or_false] at hx; rcases hx with rfl | rfl | rfl <;> exact b1000_of (by decide))) (b1000_of (by decide)) (Lib.hid (by decide +kernel))
theorem nearX2 (w : World) : Calls Tryd.prog 19 #[.slice none 0 0, .agg #[.int .i64 0, .int .i64 0, .int .i64 0]] w fun x w' => x = .returned (.tuple #[.agg #[.int .i64 0, .int .i64 0, .int .i64 0], .bool false]) ∧ Below w.heap.size w w' :=
  nearest_is none 0 0 [] 0 0 0 0 0 0 w rfl (by decide) (by decide) (by decide) (prow3_nil _ _) (Lib.hid (by intro x hx; cases hx)) (b1000_of (by decide)) (Lib.hid rfl)
theorem distX (w : World) : Calls Tryd.prog 28 #[.agg #[.int .i64 1, .int .i64 2, .int .i64 3], .agg #[.int .i64 0, .int .i64 4, .int .i64 3]] w fun x w' => x = .returned (.int .i64 3) ∧ Below w.heap.size w w' :=
  dist_is 1 2 3 0 4 3 3 w (b1000_of (by decide)) (b1000_of (by decide)) (Lib.hid (by decide +kernel))
theorem rowX (w : World) : PRow3 (w.alloc (.cells #[.int .i64 5, .int .i64 0, .int .i64 0, .int .i64 0, .int .i64 3, .int .i64 0, .int .i64 0, .int .i64 0, .int .i64 (-3)] 25)) (some ⟨w.heap.size, 0, none⟩) [(5, 0, 0), (0, 3, 0), (0, 0, -3)] := prow3_new _ _ _ _ rfl rfl
theorem rowX1 (w : World) (a b c : Int) : PRow3 (w.alloc (.cells #[.int .i64 a, .int .i64 b, .int .i64 c] 25)) (some ⟨w.heap.size, 0, none⟩) [(a, b, c)] := prow3_new _ _ _ _ rfl rfl
set_option maxHeartbeats 1000000 in
theorem head8_is (w : World) (hT : Tab w) :
    Calls Tryd.prog 10 #[] w fun e w' => e = .returned (.bool true) ∧ Below w.heap.size w w' := by
  have V : Hid (armB 0 0 2 1 1 1 (-17) (-17) (-17) 18 18 18 = true) := Lib.hid (by decide +kernel)
  go_enter Tryd.func10, Tryd.ntmps10
  go_upto_region 3 with fail
  obtain ⟨W0, hW0⟩ : ∃ z, ((w.alloc (.cells #[.int .i64 (-274625), .int .i64 0, .int .i64 3] 29)).alloc (.cells #[.int .i64 274625, .int .i64 0, .int .i64 3] 29)) = z := ⟨_, rfl⟩
  have H2 : Hid (W0.heap[w.heap.size + 1]? = some (.cells #[.int .i64 274625, .int .i64 0, .int .i64 3] 29 (0, 0))) := Lib.hid (by rw [← hW0]; exact blk_new _ _ _ (by simp))
  have H1 : Hid (W0.heap[w.heap.size]? = some (.cells #[.int .i64 (-274625), .int .i64 0, .int .i64 3] 29 (0, 0))) := Lib.hid (by rw [← hW0]; exact blk_alloc (blk_new _ _ _ rfl) _)
  have B0 : Hid (Below w.heap.size w W0) := Lib.hid (by rw [← hW0]; go_grown)
  have T0 : Hid (Tab W0) := Lib.hid (by rw [← hW0]; repeat (first | exact hT | apply Tab.alloc))
  rw [hW0]
  clear hW0 hT
  obtain ⟨d1, e1⟩ : ∃ a, w.heap.size = a := ⟨_, rfl⟩
  obtain ⟨d2, e2⟩ : ∃ a, w.heap.size + 1 = a := ⟨_, rfl⟩
  rw [e2, e1]
  rw [e2] at H2
  rw [e1] at H1
  clear e2 e1
  obtain ⟨sp, hsp⟩ : ∃ sp : ToldS, sp = [none, none, none, some (rowN 1 [(0, 18, 0)]), none, none, none, none, none, none, none, none, none, none, some (eqS (.agg #[.int .i64 0, .int .i64 0, .int .i64 2, .int .i64 1, .int .i64 1, .int .i64 1, .int .i64 (-17), .int .i64 (-17), .int .i64 (-17), .int .i64 18, .int .i64 18, .int .i64 18])), some (eqS (.agg #[.int .i64 0, .int .i64 0])), some (eqS (.agg #[.int .i64 (-274625), .int .i64 0, .int .i64 3])), some (rowN 1 [(0, 18, 0)])] := ⟨_, rfl⟩
  have s3 : sp.getD 3 none = some (rowN 1 [(0, 18, 0)]) := by rw [hsp]; rfl
  have s14 : sp.getD 14 none = some (eqS (.agg #[.int .i64 0, .int .i64 0, .int .i64 2, .int .i64 1, .int .i64 1, .int .i64 1, .int .i64 (-17), .int .i64 (-17), .int .i64 (-17), .int .i64 18, .int .i64 18, .int .i64 18])) := by rw [hsp]; rfl
  have s15 : sp.getD 15 none = some (eqS (.agg #[.int .i64 0, .int .i64 0])) := by rw [hsp]; rfl
  have s16 : sp.getD 16 none = some (eqS (.agg #[.int .i64 (-274625), .int .i64 0, .int .i64 3])) := by rw [hsp]; rfl
  have s17 : sp.getD 17 none = some (rowN 1 [(0, 18, 0)]) := by rw [hsp]; rfl
  clear hsp
  refine (wpIn_wide (n := 0)).1 (region_allR (RtS sp) (rtS_keep sp) rfl rfl rfl (by kernel_rfl) (by kernel_rfl) (by kernel_rfl) ?_ ?_)
  · intro Q'
    refine obsR_cons ?_ ?_
    · intro T wx K hB hF hD hK
      refine ob_yes (wanted_none rfl) ?_
      clear hF hD
      go_simp
      refine (plain_is 2 1 1 _).mono ?_; rintro e w9 ⟨rfl, hb⟩
      exact hK _ _ hb (rt_eqS s14)
    refine obsR_cons ?_ ?_
    · intro T wx K hB hF hD hK
      refine ob_yes (wanted_none rfl) ?_
      clear hF hD
      go_simp
      exact hK _ _ (Below.refl _ _) (rt_eqS s15)
    refine obsR_cons ?_ ?_
    · intro T wx K hB hF hD hK
      have g1 : T[1]? = some (.pointer (some ⟨d1, 0, none⟩)) := hF 1 (freeM_of (by kernel_rfl))
      refine ob_yes (wanted_none rfl) ?_
      clear hF hD
      exact wp_load_row 29 (.tmp 1) rfl _ (eval_tmp g1) _ _ _ _ (blk_call H1.out hB) Tryd.underlying29 rfl (by kernel_rfl) (hK _ _ (Below.refl _ _) (rt_eqS s16))
    refine obsR_cons ?_ ?_
    · intro T wx K hB hF hD hK
      have g14 := get_eqS (hD 0 14 (by simp [Region.binds]) (by kernel_rfl)) s14
      have g15 := get_eqS (hD 1 15 (by simp [Region.binds]) (by kernel_rfl)) s15
      have g16 := get_eqS (hD 2 16 (by simp [Region.binds]) (by kernel_rfl)) s16
      refine ob_yes (wanted_none rfl) ?_
      clear hF hD
      go_simp
      refine (solve_any 0 0 2 1 1 1 (-17) (-17) (-17) 18 18 18 0 0 (-274625) 0 _ (T0.out.below hB) V (Lib.hid (by decide +kernel)) (Lib.hid (by omega)) [(0, 18, 0)] 1 (Lib.hid ex1) (Lib.hid rfl)).mono ?_; rintro e w9 ⟨⟨ao, cp, rfl, hp⟩, hb⟩
      exact hK _ _ hb (rt_S s17 ⟨_, _, rfl, hp⟩)
    refine obsR_cons ?_ ?_
    · intro T wx K hB hF hD hK
      obtain ⟨v17, g17, p17⟩ := getS (hD 3 17 (by simp [Region.binds]) (by kernel_rfl)) s17
      refine ob_yes (wanted_none rfl) ?_
      clear hF hD
      go_simp
      exact hK _ _ (Below.refl _ _) (rt_S s3 p17)
    exact obsR_nil
  · intro F1 W1 hb8 hF hs hD
    have g14 := get_eqS (hD 0 14 (by decide) (by kernel_rfl)) s14
    have g15 := get_eqS (hD 1 15 (by decide) (by kernel_rfl)) s15
    have g16 := get_eqS (hD 2 16 (by decide) (by kernel_rfl)) s16
    obtain ⟨v17, g17, p17⟩ := getS (hD 3 17 (by decide) (by kernel_rfl)) s17
    obtain ⟨v3, g3, p3⟩ := getS (hD 4 3 (by decide) (by kernel_rfl)) s3
    have hT9 := conc [(14, .agg #[.int .i64 0, .int .i64 0, .int .i64 2, .int .i64 1, .int .i64 1, .int .i64 1, .int .i64 (-17), .int .i64 (-17), .int .i64 (-17), .int .i64 18, .int .i64 18, .int .i64 18]), (15, .agg #[.int .i64 0, .int .i64 0]), (16, .agg #[.int .i64 (-274625), .int .i64 0, .int .i64 3]), (17, v17), (3, v3)] hs hF (by simp only [List.forall_mem_cons]; exact ⟨g14, g15, g16, g17, g3, fun p hp => absurd hp List.not_mem_nil⟩) (by kernel_rfl)
    simp only [List.foldl, List.setIfInBounds_toArray, List.set_cons_succ, List.set_cons_zero] at hT9
    subst hT9
    clear hF hD hs g14 g15 g16 g17 g3 s3 s14 s15 s16 s17
    obtain ⟨ao3, c3, rfl, hp3⟩ := p3
    have R3 := Lib.hid hp3
    clear hp3
    have H2_1 := Lib.hid (blk_call H2.out hb8)
    clear H2
    have H2 := H2_1
    clear H2_1
    have B1 := Lib.hid (belT B0.out hb8)
    have T1 := Lib.hid (T0.out.below hb8)
    clear hb8 B0 T0
    clear H1
    go_upto_region 4 with fail
    obtain ⟨sp, hsp⟩ : ∃ sp : ToldS, sp = [none, none, none, none, some (rowN 1 [(0, 0, 0)]), none, none, none, none, none, none, none, none, none, none, none, none, none, some (eqS (.agg #[.int .i64 0, .int .i64 0, .int .i64 2, .int .i64 1, .int .i64 1, .int .i64 1, .int .i64 (-17), .int .i64 (-17), .int .i64 (-17), .int .i64 18, .int .i64 18, .int .i64 18])), some (eqS (.agg #[.int .i64 17576000, .int .i64 0])), some (eqS (.agg #[.int .i64 274625, .int .i64 0, .int .i64 3])), some (rowN 1 [(0, 0, 0)])] := ⟨_, rfl⟩
    have s4 : sp.getD 4 none = some (rowN 1 [(0, 0, 0)]) := by rw [hsp]; rfl
    have s18 : sp.getD 18 none = some (eqS (.agg #[.int .i64 0, .int .i64 0, .int .i64 2, .int .i64 1, .int .i64 1, .int .i64 1, .int .i64 (-17), .int .i64 (-17), .int .i64 (-17), .int .i64 18, .int .i64 18, .int .i64 18])) := by rw [hsp]; rfl
    have s19 : sp.getD 19 none = some (eqS (.agg #[.int .i64 17576000, .int .i64 0])) := by rw [hsp]; rfl
    have s20 : sp.getD 20 none = some (eqS (.agg #[.int .i64 274625, .int .i64 0, .int .i64 3])) := by rw [hsp]; rfl
    have s21 : sp.getD 21 none = some (rowN 1 [(0, 0, 0)]) := by rw [hsp]; rfl
    clear hsp
    refine (wpIn_wide (n := 0)).1 (region_allR (RtS sp) (rtS_keep sp) rfl rfl rfl (by kernel_rfl) (by kernel_rfl) (by kernel_rfl) ?_ ?_)
    · intro Q'
      refine obsR_cons ?_ ?_
      · intro T wx K hB hF hD hK
        refine ob_yes (wanted_none rfl) ?_
        clear hF hD
        go_simp
        refine (plain_is 2 1 1 _).mono ?_; rintro e w9 ⟨rfl, hb⟩
        exact hK _ _ hb (rt_eqS s18)
      refine obsR_cons ?_ ?_
      · intro T wx K hB hF hD hK
        refine ob_yes (wanted_none rfl) ?_
        clear hF hD
        go_simp
        exact hK _ _ (Below.refl _ _) (rt_eqS s19)
      refine obsR_cons ?_ ?_
      · intro T wx K hB hF hD hK
        have g2 : T[2]? = some (.pointer (some ⟨d2, 0, none⟩)) := hF 2 (freeM_of (by kernel_rfl))
        refine ob_yes (wanted_none rfl) ?_
        clear hF hD
        exact wp_load_row 29 (.tmp 2) rfl _ (eval_tmp g2) _ _ _ _ (blk_call H2.out hB) Tryd.underlying29 rfl (by kernel_rfl) (hK _ _ (Below.refl _ _) (rt_eqS s20))
      refine obsR_cons ?_ ?_
      · intro T wx K hB hF hD hK
        have g18 := get_eqS (hD 0 18 (by simp [Region.binds]) (by kernel_rfl)) s18
        have g19 := get_eqS (hD 1 19 (by simp [Region.binds]) (by kernel_rfl)) s19
        have g20 := get_eqS (hD 2 20 (by simp [Region.binds]) (by kernel_rfl)) s20
        refine ob_yes (wanted_none rfl) ?_
        clear hF hD
        go_simp
        refine (solve_any 0 0 2 1 1 1 (-17) (-17) (-17) 18 18 18 17576000 0 274625 0 _ (T1.out.below hB) V (Lib.hid (by decide +kernel)) (Lib.hid (by omega)) [(0, 0, 0)] 1 (Lib.hid ex2) (Lib.hid rfl)).mono ?_; rintro e w9 ⟨⟨ao, cp, rfl, hp⟩, hb⟩
        exact hK _ _ hb (rt_S s21 ⟨_, _, rfl, hp⟩)
      refine obsR_cons ?_ ?_
      · intro T wx K hB hF hD hK
        obtain ⟨v21, g21, p21⟩ := getS (hD 3 21 (by simp [Region.binds]) (by kernel_rfl)) s21
        refine ob_yes (wanted_none rfl) ?_
        clear hF hD
        go_simp
        exact hK _ _ (Below.refl _ _) (rt_S s4 p21)
      exact obsR_nil
    · intro F2 W2 hb8 hF hs hD
      have g18 := get_eqS (hD 0 18 (by decide) (by kernel_rfl)) s18
      have g19 := get_eqS (hD 1 19 (by decide) (by kernel_rfl)) s19
      have g20 := get_eqS (hD 2 20 (by decide) (by kernel_rfl)) s20
      obtain ⟨v21, g21, p21⟩ := getS (hD 3 21 (by decide) (by kernel_rfl)) s21
      obtain ⟨v4, g4, p4⟩ := getS (hD 4 4 (by decide) (by kernel_rfl)) s4
      have hT9 := conc [(18, .agg #[.int .i64 0, .int .i64 0, .int .i64 2, .int .i64 1, .int .i64 1, .int .i64 1, .int .i64 (-17), .int .i64 (-17), .int .i64 (-17), .int .i64 18, .int .i64 18, .int .i64 18]), (19, .agg #[.int .i64 17576000, .int .i64 0]), (20, .agg #[.int .i64 274625, .int .i64 0, .int .i64 3]), (21, v21), (4, v4)] hs hF (by simp only [List.forall_mem_cons]; exact ⟨g18, g19, g20, g21, g4, fun p hp => absurd hp List.not_mem_nil⟩) (by kernel_rfl)
      simp only [List.foldl, List.setIfInBounds_toArray, List.set_cons_succ, List.set_cons_zero] at hT9
      subst hT9
      clear hF hD hs g18 g19 g20 g21 g4 s4 s18 s19 s20 s21
      obtain ⟨ao4, c4, rfl, hp4⟩ := p4
      have R4 := Lib.hid hp4
      clear hp4
      have H2_2 := Lib.hid (blk_call H2.out hb8)
      clear H2
      have H2 := H2_2
      clear H2_2
      have R3_2 := Lib.hid (prow3_below R3.out hb8)
      clear R3
      have R3 := R3_2
      clear R3_2
      have B2 := Lib.hid (belT B1.out hb8)
      have T2 := Lib.hid (T1.out.below hb8)
      clear hb8 B1 T1
      go_upto_region 5 with fail
      obtain ⟨sp, hsp⟩ : ∃ sp : ToldS, sp = [none, none, none, none, none, some (rowN 0 []), none, none, none, none, none, none, none, none, none, none, none, none, none, none, none, none, some (eqS (.agg #[.int .i64 0, .int .i64 0, .int .i64 2, .int .i64 1, .int .i64 1, .int .i64 1, .int .i64 (-17), .int .i64 (-17), .int .i64 (-17), .int .i64 18, .int .i64 18, .int .i64 18])), some (eqS (.agg #[.int .i64 21970000, .int .i64 0])), some (eqS (.agg #[.int .i64 274625, .int .i64 0, .int .i64 3])), some (rowN 0 [])] := ⟨_, rfl⟩
      have s5 : sp.getD 5 none = some (rowN 0 []) := by rw [hsp]; rfl
      have s22 : sp.getD 22 none = some (eqS (.agg #[.int .i64 0, .int .i64 0, .int .i64 2, .int .i64 1, .int .i64 1, .int .i64 1, .int .i64 (-17), .int .i64 (-17), .int .i64 (-17), .int .i64 18, .int .i64 18, .int .i64 18])) := by rw [hsp]; rfl
      have s23 : sp.getD 23 none = some (eqS (.agg #[.int .i64 21970000, .int .i64 0])) := by rw [hsp]; rfl
      have s24 : sp.getD 24 none = some (eqS (.agg #[.int .i64 274625, .int .i64 0, .int .i64 3])) := by rw [hsp]; rfl
      have s25 : sp.getD 25 none = some (rowN 0 []) := by rw [hsp]; rfl
      clear hsp
      refine (wpIn_wide (n := 0)).1 (region_allR (RtS sp) (rtS_keep sp) rfl rfl rfl (by kernel_rfl) (by kernel_rfl) (by kernel_rfl) ?_ ?_)
      · intro Q'
        refine obsR_cons ?_ ?_
        · intro T wx K hB hF hD hK
          refine ob_yes (wanted_none rfl) ?_
          clear hF hD
          go_simp
          refine (plain_is 2 1 1 _).mono ?_; rintro e w9 ⟨rfl, hb⟩
          exact hK _ _ hb (rt_eqS s22)
        refine obsR_cons ?_ ?_
        · intro T wx K hB hF hD hK
          refine ob_yes (wanted_none rfl) ?_
          clear hF hD
          go_simp
          exact hK _ _ (Below.refl _ _) (rt_eqS s23)
        refine obsR_cons ?_ ?_
        · intro T wx K hB hF hD hK
          have g2 : T[2]? = some (.pointer (some ⟨d2, 0, none⟩)) := hF 2 (freeM_of (by kernel_rfl))
          refine ob_yes (wanted_none rfl) ?_
          clear hF hD
          exact wp_load_row 29 (.tmp 2) rfl _ (eval_tmp g2) _ _ _ _ (blk_call H2.out hB) Tryd.underlying29 rfl (by kernel_rfl) (hK _ _ (Below.refl _ _) (rt_eqS s24))
        refine obsR_cons ?_ ?_
        · intro T wx K hB hF hD hK
          have g22 := get_eqS (hD 0 22 (by simp [Region.binds]) (by kernel_rfl)) s22
          have g23 := get_eqS (hD 1 23 (by simp [Region.binds]) (by kernel_rfl)) s23
          have g24 := get_eqS (hD 2 24 (by simp [Region.binds]) (by kernel_rfl)) s24
          refine ob_yes (wanted_none rfl) ?_
          clear hF hD
          go_simp
          refine (solve_any 0 0 2 1 1 1 (-17) (-17) (-17) 18 18 18 21970000 0 274625 0 _ (T2.out.below hB) V (Lib.hid (by decide +kernel)) (Lib.hid (by omega)) [] 0 (Lib.hid ex3) (Lib.hid rfl)).mono ?_; rintro e w9 ⟨⟨ao, cp, rfl, hp⟩, hb⟩
          exact hK _ _ hb (rt_S s25 ⟨_, _, rfl, hp⟩)
        refine obsR_cons ?_ ?_
        · intro T wx K hB hF hD hK
          obtain ⟨v25, g25, p25⟩ := getS (hD 3 25 (by simp [Region.binds]) (by kernel_rfl)) s25
          refine ob_yes (wanted_none rfl) ?_
          clear hF hD
          go_simp
          exact hK _ _ (Below.refl _ _) (rt_S s5 p25)
        exact obsR_nil
      · intro F3 W3 hb8 hF hs hD
        have g22 := get_eqS (hD 0 22 (by decide) (by kernel_rfl)) s22
        have g23 := get_eqS (hD 1 23 (by decide) (by kernel_rfl)) s23
        have g24 := get_eqS (hD 2 24 (by decide) (by kernel_rfl)) s24
        obtain ⟨v25, g25, p25⟩ := getS (hD 3 25 (by decide) (by kernel_rfl)) s25
        obtain ⟨v5, g5, p5⟩ := getS (hD 4 5 (by decide) (by kernel_rfl)) s5
        have hT9 := conc [(22, .agg #[.int .i64 0, .int .i64 0, .int .i64 2, .int .i64 1, .int .i64 1, .int .i64 1, .int .i64 (-17), .int .i64 (-17), .int .i64 (-17), .int .i64 18, .int .i64 18, .int .i64 18]), (23, .agg #[.int .i64 21970000, .int .i64 0]), (24, .agg #[.int .i64 274625, .int .i64 0, .int .i64 3]), (25, v25), (5, v5)] hs hF (by simp only [List.forall_mem_cons]; exact ⟨g22, g23, g24, g25, g5, fun p hp => absurd hp List.not_mem_nil⟩) (by kernel_rfl)
        simp only [List.foldl, List.setIfInBounds_toArray, List.set_cons_succ, List.set_cons_zero] at hT9
        subst hT9
        clear hF hD hs g22 g23 g24 g25 g5 s5 s22 s23 s24 s25
        obtain ⟨ao5, c5, rfl, hp5⟩ := p5
        have R5 := Lib.hid hp5
        clear hp5
        have H2_3 := Lib.hid (blk_call H2.out hb8)
        clear H2
        have H2 := H2_3
        clear H2_3
        have R3_3 := Lib.hid (prow3_below R3.out hb8)
        clear R3
        have R3 := R3_3
        clear R3_3
        have R4_3 := Lib.hid (prow3_below R4.out hb8)
        clear R4
        have R4 := R4_3
        clear R4_3
        have B3 := Lib.hid (belT B2.out hb8)
        have T3 := Lib.hid (T2.out.below hb8)
        clear hb8 B2 T2
        clear H2
        go_upto_region 7 with (go_at_call 19; refine (nearX1 _ _ (rowX W3)).mono ?_; rintro e W4 ⟨rfl, hb8⟩)
        have R3a := Lib.hid (prow3_alloc (prow3_below (prow3_alloc R3.out (.cells #[.int .i64 5, .int .i64 0, .int .i64 0, .int .i64 0, .int .i64 3, .int .i64 0, .int .i64 0, .int .i64 0, .int .i64 (-3)] 25)) hb8) (.cells #[.int .i64 0, .int .i64 3, .int .i64 0] 25))
        have R4a := Lib.hid (prow3_alloc (prow3_below (prow3_alloc R4.out (.cells #[.int .i64 5, .int .i64 0, .int .i64 0, .int .i64 0, .int .i64 3, .int .i64 0, .int .i64 0, .int .i64 0, .int .i64 (-3)] 25)) hb8) (.cells #[.int .i64 0, .int .i64 3, .int .i64 0] 25))
        have H6 := Lib.hid (blk_new W4 (.cells #[.int .i64 0, .int .i64 3, .int .i64 0] 25) _ rfl)
        have B5 := Lib.hid (belA (belT (belA B3.out (.cells #[.int .i64 5, .int .i64 0, .int .i64 0, .int .i64 0, .int .i64 3, .int .i64 0, .int .i64 0, .int .i64 0, .int .i64 (-3)] 25)) hb8) (.cells #[.int .i64 0, .int .i64 3, .int .i64 0] 25))
        obtain ⟨b6, eb6⟩ : ∃ x, W4.heap.size = x := ⟨_, rfl⟩
        rw [eb6] at H6 ⊢
        clear eb6 hb8 R3 R4 B3 T3
        generalize W4.alloc (.cells #[.int .i64 0, .int .i64 3, .int .i64 0] 25) = W5 at *
        go_upto_region 8 with (go_at_call 19; refine (nearX2 _).mono ?_; rintro e W6 ⟨rfl, hb8⟩)
        have R3b := Lib.hid (prow3_alloc (prow3_below R3a.out hb8) (.cells #[.int .i64 0, .int .i64 0, .int .i64 0] 25))
        have R4b := Lib.hid (prow3_alloc (prow3_below R4a.out hb8) (.cells #[.int .i64 0, .int .i64 0, .int .i64 0] 25))
        have H6b := Lib.hid (blk_alloc (blk_call H6.out hb8) (.cells #[.int .i64 0, .int .i64 0, .int .i64 0] 25))
        have B7 := Lib.hid (belA (belT B5.out hb8) (.cells #[.int .i64 0, .int .i64 0, .int .i64 0] 25))
        clear hb8 R3a R4a H6 B5
        obtain ⟨b8, eb8⟩ : ∃ x, W6.heap.size = x := ⟨_, rfl⟩
        rw [eb8]
        clear eb8
        generalize W6.alloc (.cells #[.int .i64 0, .int .i64 0, .int .i64 0] 25) = W7 at *
        go_upto_region 9 with (go_at_call 13; refine (same3_is ao3 _ 1 1 c3 1 [(0, 18, 0)] [(0, 18, 0)] true _ rfl rfl (Lib.hid (by decide)) (by decide) (by decide) (prow3_alloc R3b.out _) (rowX1 W7 0 18 0)).mono ?_; rintro e W8 ⟨rfl, hb8⟩)
        have R4c := Lib.hid (prow3_below (prow3_alloc R4b.out (.cells #[.int .i64 0, .int .i64 18, .int .i64 0] 25)) hb8)
        have H6c := Lib.hid (blk_call (blk_alloc H6b.out (.cells #[.int .i64 0, .int .i64 18, .int .i64 0] 25)) hb8)
        have B8 := Lib.hid (belT (belA B7.out (.cells #[.int .i64 0, .int .i64 18, .int .i64 0] 25)) hb8)
        clear hb8 R3b R4b H6b B7
        go_upto_region 10 with (go_at_call 13; refine (same3_is ao4 _ 1 1 c4 1 [(0, 0, 0)] [(0, 0, 0)] true _ rfl rfl (Lib.hid (by decide)) (by decide) (by decide) (prow3_alloc R4c.out _) (rowX1 W8 0 0 0)).mono ?_; rintro e W9 ⟨rfl, hb8⟩)
        have H6d := Lib.hid (blk_call (blk_alloc H6c.out (.cells #[.int .i64 0, .int .i64 0, .int .i64 0] 25)) hb8)
        have B9 := Lib.hid (belT (belA B8.out (.cells #[.int .i64 0, .int .i64 0, .int .i64 0] 25)) hb8)
        clear hb8 R4c H6c B8
        have k0 := blk_cell H6d.out 0 _ rfl
        have k1 := blk_cell H6d.out 1 _ rfl
        have k2 := blk_cell H6d.out 2 _ rfl
        have E := eqlJ 0 3 0 0 3 0 true (Lib.hid (by decide))
        go_wp2_with (go_at_call 28; refine (distX _).mono ?_; rintro e Wa ⟨rfl, hb8⟩)
        go_ret
        exact ⟨rfl, belT B9.out hb8⟩
end Go.Proofs.YtceejjamngplkaaDoor
