/- Contract of the reference of layer 8: Near. Conditions: joint values between -1000 and 1000. -/
import Derived.Test.YtceejjamngplkaaDoorIkG
namespace Go.Proofs.YtceejjamngplkaaDoor
open Go.ChangeShapes Go.WideShapes Go.ChangeAt Go.RowKit
set_option linter.unusedVariables false
set_option linter.unusedSimpArgs false
set_option maxRecDepth 100000

theorem near_take (q : J3) (l : List J3) (k : Nat) (h1 : 1 ≤ k) (hk : k < l.length) : nearL q (l.take (k + 1)) = nr q (nearL q (l.take k)) (l.getD k j0) := by
  cases l with
  | nil => simp at hk
  | cons x l =>
    obtain ⟨k, rfl⟩ : ∃ j, k = j + 1 := ⟨k - 1, by omega⟩
    simp only [List.take_succ_cons, nearL, List.getD_cons_succ]
    exact take_fold (by simpa using hk)
set_option maxHeartbeats 4000000 in
theorem near8_is (ao : Option Addr) (n cap : Nat) (l : List J3) (q0 q1 q2 r0 r1 r2 : Int) (w : World) (hn : l.length = n) (hl : l.length ≤ 1000000) (hP : PRow3 w ao l) (hA : Hid (∀ x ∈ l, B1000 x)) (hq : B1000 (q0, q1, q2)) (hr : Hid (nearL (q0, q1, q2) l = (r0, r1, r2))) :
    Calls Tryd.prog 20 #[.slice ao n cap, .agg #[.int .i64 q0, .int .i64 q1, .int .i64 q2]] w fun x w' => x = .returned (.tuple #[.agg #[.int .i64 r0, .int .i64 r1, .int .i64 r2], .bool (!l.isEmpty)]) ∧ Below w.heap.size w w' := by
  subst hn
  by_cases h0 : l = []
  · subst h0
    have he := hr.out
    simp only [nearL, Prod.mk.injEq] at he
    obtain ⟨rfl, rfl, rfl⟩ := he
    go_enter Tryd.func20, Tryd.ntmps20
    go_wp2_with fail
    have Z := blk_new (w.alloc (.cells #[.int .i64 q0, .int .i64 q1, .int .i64 q2] 25)) (.cells #[.int .i64 0, .int .i64 0, .int .i64 0] 25) (w.heap.size + 1) (by simp)
    have BZ : Below w.heap.size w ((w.alloc (.cells #[.int .i64 q0, .int .i64 q1, .int .i64 q2] 25)).alloc (.cells #[.int .i64 0, .int .i64 0, .int .i64 0] 25)) := by go_grown
    generalize (w.alloc (.cells #[.int .i64 q0, .int .i64 q1, .int .i64 q2] 25)).alloc (.cells #[.int .i64 0, .int .i64 0, .int .i64 0] 25) = W2 at *
    have z0 := blk_cell Z 0 _ rfl
    have z1 := blk_cell Z 1 _ rfl
    have z2 := blk_cell Z 2 _ rfl
    refine bodyPost_ret (v := .tuple #[.agg #[.int .i64 0, .int .i64 0, .int .i64 0], .bool false]) (by simp [results, Tryd.results20, go_sem, z0, z1, z2]) rfl ?_
    exact ⟨rfl, BZ⟩
  have hpos : 0 < l.length := List.length_pos_iff.2 h0
  have HE : Hid (l.isEmpty = false) := Lib.hid (by cases l with | nil => exact absurd rfl h0 | cons => rfl)
  have hz : ((l.length : Int) == 0) = false := by rw [beq_eq_false_iff_ne]; omega
  go_enter Tryd.func20, Tryd.ntmps20
  go_wp2_with fail
  obtain ⟨W0, hW0⟩ : ∃ z, ((w.alloc (.cells #[.int .i64 q0, .int .i64 q1, .int .i64 q2] 25)).alloc (.cells #[.int .i64 0, .int .i64 0, .int .i64 0] 25)) = z := ⟨_, rfl⟩
  have HR : Hid (W0.heap[w.heap.size + 1]? = some (.cells #[.int .i64 0, .int .i64 0, .int .i64 0] 25 (0, 0))) := Lib.hid (by rw [← hW0]; exact blk_new _ _ _ (by simp))
  have HQ : Hid (W0.heap[w.heap.size]? = some (.cells #[.int .i64 q0, .int .i64 q1, .int .i64 q2] 25 (0, 0))) := Lib.hid (by rw [← hW0]; exact blk_alloc (blk_new _ _ _ rfl) _)
  have B : Hid (Below w.heap.size w W0) := Lib.hid (by rw [← hW0]; go_grown)
  rw [hW0]
  clear hW0
  obtain ⟨x1, e1⟩ : ∃ a, w.heap.size = a := ⟨_, rfl⟩
  obtain ⟨x2, e2⟩ : ∃ a, w.heap.size + 1 = a := ⟨_, rfl⟩
  have HPw := Lib.hid hP
  rw [e2, e1]
  rw [e2] at HR
  rw [e1] at HQ
  have NE := Lib.hid (show w.heap.size ≤ x2 by omega)
  clear e2 e1 hP h0
  go_loopw [7, 6] (fun i j wr => ∃ k m : Nat, (1 ≤ k ∧ k ≤ l.length ∧ m < k) ∧ i = .int .i64 k ∧ j = .int .i64 m ∧ Hid (nearL (q0, q1, q2) (l.take k) = l.getD m j0) ∧ Hid (wr.heap[x2]? = some (.cells #[.int .i64 0, .int .i64 0, .int .i64 0] 25 (0, 0))) ∧ Hid (wr.heap[x1]? = some (.cells #[.int .i64 q0, .int .i64 q1, .int .i64 q2] 25 (0, 0))) ∧ Hid (Below w.heap.size w wr)) (fun i _ _ => l.length - (intOf i).toNat)
  case atStart => exact ⟨1, 0, ⟨Nat.le_refl _, hpos, Nat.one_pos⟩, rfl, rfl, Lib.hid (by cases l with | nil => simp at hpos | cons x l => rfl), HR, HQ, B⟩
  case round =>
    obtain ⟨k, m, ⟨hk1, hk, hm⟩, rfl, rfl, HN, HR1, HQ1, HB1⟩ := hrel
    clear HR HQ B
    have hml : m < l.length := by omega
    by_cases hlt : k < l.length
    · obtain ⟨b', o', rfl, c1, c2, c3⟩ := prow3_below HPw.out (HB1.out) k hlt
      obtain ⟨b'', o'', e', c4, c5, c6⟩ := prow3_below HPw.out (HB1.out) m hml
      cases e'
      have hki : (k : Int) < l.length := by omega
      have hmi : (m : Int) < l.length := by omega
      have BX := Lib.hid (hA.out _ (getD_mem hlt))
      have BY := Lib.hid (hA.out _ (getD_mem hml))
      have NT := Lib.hid (near_take (q0, q1, q2) l k hk1 hlt)
      rw [HN.out] at NT
      have ED := Lib.hid (show (l.getD k j0 = l.getD k j0) ∧ l.getD m j0 = l.getD m j0 from ⟨rfl, rfl⟩)
      have GK := Lib.hid (rfl : l.getD k j0 = l.getD k j0)
      obtain ⟨ek, hek⟩ : ∃ e, l.getD k j0 = e := ⟨_, rfl⟩
      obtain ⟨em, hem⟩ : ∃ e, l.getD m j0 = e := ⟨_, rfl⟩
      have EK := Lib.hid hek
      have EM := Lib.hid hem
      rw [hek] at c1 c2 c3 BX NT
      rw [hem] at c4 c5 c6 BY NT
      clear hek hem ED GK HN
      obtain ⟨x, y, z⟩ := ek
      obtain ⟨x', y', z'⟩ := em
      obtain ⟨m1, hm1⟩ : ∃ a, dst3 (x, y, z) (q0, q1, q2) = a := ⟨_, rfl⟩
      obtain ⟨m2, hm2⟩ : ∃ a, dst3 (x', y', z') (q0, q1, q2) = a := ⟨_, rfl⟩
      have NN : Hid (nearL (q0, q1, q2) (l.take (k + 1)) = if m1 < m2 then l.getD k j0 else l.getD m j0) := Lib.hid (by rw [NT.out, EK.out, EM.out, ← hm1, ← hm2]; rfl)
      have HM1 := Lib.hid hm1
      have HM2 := Lib.hid hm2
      clear hm1 hm2 NT
      go_upto_region 7 with fail
      obtain ⟨sp, hsp⟩ : ∃ sp : ToldS, sp = [none, none, none, none, none, none, none, none, some (eqS (.int .i64 m1)), none, none, none, none, none, none, none, none, none, none, none, some (eqS (.slice (some ⟨b', o', none⟩) l.length cap)), some (eqS (.int .i64 k)), some (eqS (.pointer (some ⟨b', o' + k * 3, none⟩))), some (eqS (.agg #[.int .i64 x, .int .i64 y, .int .i64 z])), some (eqS (.agg #[.int .i64 q0, .int .i64 q1, .int .i64 q2])), some (eqS (.int .i64 m1))] := ⟨_, rfl⟩
      have s8 : sp.getD 8 none = some (eqS (.int .i64 m1)) := by rw [hsp]; rfl
      have s20 : sp.getD 20 none = some (eqS (.slice (some ⟨b', o', none⟩) l.length cap)) := by rw [hsp]; rfl
      have s21 : sp.getD 21 none = some (eqS (.int .i64 k)) := by rw [hsp]; rfl
      have s22 : sp.getD 22 none = some (eqS (.pointer (some ⟨b', o' + k * 3, none⟩))) := by rw [hsp]; rfl
      have s23 : sp.getD 23 none = some (eqS (.agg #[.int .i64 x, .int .i64 y, .int .i64 z])) := by rw [hsp]; rfl
      have s24 : sp.getD 24 none = some (eqS (.agg #[.int .i64 q0, .int .i64 q1, .int .i64 q2])) := by rw [hsp]; rfl
      have s25 : sp.getD 25 none = some (eqS (.int .i64 m1)) := by rw [hsp]; rfl
      clear hsp
      refine (wpIn_wide (n := 0)).1 (region_allR (RtS sp) (rtS_keep sp) rfl rfl rfl (by kernel_rfl) (by kernel_rfl) (by kernel_rfl) ?_ ?_)
      · intro Q'
        refine obsR_cons ?_ ?_
        · intro T wx K hB hF hD hK
          have g0 : T[0]? = some (.slice (some ⟨b', o', none⟩) l.length cap) := hF 0 (freeM_of (by kernel_rfl))
          refine ob_yes (wanted_none rfl) ?_
          clear hF hD
          go_simp
          exact hK _ _ (Below.refl _ _) (rt_eqS s20)
        refine obsR_cons ?_ ?_
        · intro T wx K hB hF hD hK
          have g7 : T[7]? = some (.int .i64 k) := hF 7 (freeM_of (by kernel_rfl))
          refine ob_yes (wanted_none rfl) ?_
          clear hF hD
          go_simp
          exact hK _ _ (Below.refl _ _) (rt_eqS s21)
        refine obsR_cons ?_ ?_
        · intro T wx K hB hF hD hK
          have g20 := get_eqS (hD 0 20 (by simp [Region.binds]) (by kernel_rfl)) s20
          have g21 := get_eqS (hD 1 21 (by simp [Region.binds]) (by kernel_rfl)) s21
          refine ob_yes (wanted_none rfl) ?_
          clear hF hD
          have hki' := hki
          go_simp
          exact hK _ _ (Below.refl _ _) (rt_eqS s22)
        refine obsR_cons ?_ ?_
        · intro T wx K hB hF hD hK
          have g22 := get_eqS (hD 2 22 (by simp [Region.binds]) (by kernel_rfl)) s22
          refine ob_yes (wanted_none rfl) ?_
          clear hF hD
          have kc1 := (hB.cell (World.block_lt_of_cell? _ _ c1)).trans c1
          have kc2 := (hB.cell (World.block_lt_of_cell? _ _ c2)).trans c2
          have kc3 := (hB.cell (World.block_lt_of_cell? _ _ c3)).trans c3
          go_simp
          exact hK _ _ (Below.refl _ _) (rt_eqS s23)
        refine obsR_cons ?_ ?_
        · intro T wx K hB hF hD hK
          have g3 : T[3]? = some (.pointer (some ⟨x1, 0, none⟩)) := hF 3 (freeM_of (by kernel_rfl))
          refine ob_yes (wanted_none rfl) ?_
          clear hF hD
          exact wp_load_row 25 (.tmp 3) rfl _ (eval_tmp g3) _ _ _ _ (blk_call HQ1.out hB) Tryd.underlying25 rfl (by kernel_rfl) (hK _ _ (Below.refl _ _) (rt_eqS s24))
        refine obsR_cons ?_ ?_
        · intro T wx K hB hF hD hK
          have g23 := get_eqS (hD 3 23 (by simp [Region.binds]) (by kernel_rfl)) s23
          have g24 := get_eqS (hD 4 24 (by simp [Region.binds]) (by kernel_rfl)) s24
          refine ob_yes (wanted_none rfl) ?_
          clear hF hD
          go_simp
          refine (far8_is x y z q0 q1 q2 m1 _ BX.out hq HM1).mono ?_; rintro e w9 ⟨rfl, hb⟩
          exact hK _ _ hb (rt_eqS s25)
        refine obsR_cons ?_ ?_
        · intro T wx K hB hF hD hK
          have g25 := get_eqS (hD 5 25 (by simp [Region.binds]) (by kernel_rfl)) s25
          refine ob_yes (wanted_none rfl) ?_
          clear hF hD
          go_simp
          exact hK _ _ (Below.refl _ _) (rt_eqS s8)
        exact obsR_nil
      · intro T1 W1 hb8 hF hs hD
        have g20 := get_eqS (hD 0 20 (by decide) (by kernel_rfl)) s20
        have g21 := get_eqS (hD 1 21 (by decide) (by kernel_rfl)) s21
        have g22 := get_eqS (hD 2 22 (by decide) (by kernel_rfl)) s22
        have g23 := get_eqS (hD 3 23 (by decide) (by kernel_rfl)) s23
        have g24 := get_eqS (hD 4 24 (by decide) (by kernel_rfl)) s24
        have g25 := get_eqS (hD 5 25 (by decide) (by kernel_rfl)) s25
        have g8 := get_eqS (hD 6 8 (by decide) (by kernel_rfl)) s8
        have hT9 := conc [(20, .slice (some ⟨b', o', none⟩) l.length cap), (21, .int .i64 k), (22, .pointer (some ⟨b', o' + k * 3, none⟩)), (23, .agg #[.int .i64 x, .int .i64 y, .int .i64 z]), (24, .agg #[.int .i64 q0, .int .i64 q1, .int .i64 q2]), (25, .int .i64 m1), (8, .int .i64 m1)] hs hF (by simp only [List.forall_mem_cons]; exact ⟨g20, g21, g22, g23, g24, g25, g8, fun p hp => absurd hp List.not_mem_nil⟩) (by kernel_rfl)
        simp only [List.foldl, List.setIfInBounds_toArray, List.set_cons_succ, List.set_cons_zero] at hT9
        subst hT9
        clear hF hD hs g20 g21 g22 g23 g24 g25 g8 s8 s20 s21 s22 s23 s24 s25
        have HR2 := Lib.hid (blk_call HR1.out hb8)
        have HQ2 := Lib.hid (blk_call HQ1.out hb8)
        have HB2 := Lib.hid (belT HB1.out hb8)
        have d4 := (hb8.cell (World.block_lt_of_cell? _ _ c4)).trans c4
        have d5 := (hb8.cell (World.block_lt_of_cell? _ _ c5)).trans c5
        have d6 := (hb8.cell (World.block_lt_of_cell? _ _ c6)).trans c6
        clear hb8 c1 c2 c3 c4 c5 c6 HR1 HQ1 HB1
        go_upto_region 8 with fail
        obtain ⟨sp, hsp⟩ : ∃ sp : ToldS, sp = [none, none, none, none, none, none, none, none, none, some (eqS (.int .i64 m2)), none, none, none, none, none, none, none, none, none, none, none, none, none, none, none, none, some (eqS (.slice (some ⟨b', o', none⟩) l.length cap)), some (eqS (.int .i64 m)), some (eqS (.pointer (some ⟨b', o' + m * 3, none⟩))), some (eqS (.agg #[.int .i64 (x'), .int .i64 (y'), .int .i64 (z')])), some (eqS (.agg #[.int .i64 q0, .int .i64 q1, .int .i64 q2])), some (eqS (.int .i64 m2))] := ⟨_, rfl⟩
        have s9 : sp.getD 9 none = some (eqS (.int .i64 m2)) := by rw [hsp]; rfl
        have s26 : sp.getD 26 none = some (eqS (.slice (some ⟨b', o', none⟩) l.length cap)) := by rw [hsp]; rfl
        have s27 : sp.getD 27 none = some (eqS (.int .i64 m)) := by rw [hsp]; rfl
        have s28 : sp.getD 28 none = some (eqS (.pointer (some ⟨b', o' + m * 3, none⟩))) := by rw [hsp]; rfl
        have s29 : sp.getD 29 none = some (eqS (.agg #[.int .i64 (x'), .int .i64 (y'), .int .i64 (z')])) := by rw [hsp]; rfl
        have s30 : sp.getD 30 none = some (eqS (.agg #[.int .i64 q0, .int .i64 q1, .int .i64 q2])) := by rw [hsp]; rfl
        have s31 : sp.getD 31 none = some (eqS (.int .i64 m2)) := by rw [hsp]; rfl
        clear hsp
        refine (wpIn_wide (n := 0)).1 (region_allR (RtS sp) (rtS_keep sp) rfl rfl rfl (by kernel_rfl) (by kernel_rfl) (by kernel_rfl) ?_ ?_)
        · intro Q'
          refine obsR_cons ?_ ?_
          · intro T wx K hB hF hD hK
            have g0 : T[0]? = some (.slice (some ⟨b', o', none⟩) l.length cap) := hF 0 (freeM_of (by kernel_rfl))
            refine ob_yes (wanted_none rfl) ?_
            clear hF hD
            go_simp
            exact hK _ _ (Below.refl _ _) (rt_eqS s26)
          refine obsR_cons ?_ ?_
          · intro T wx K hB hF hD hK
            have g6 : T[6]? = some (.int .i64 m) := hF 6 (freeM_of (by kernel_rfl))
            refine ob_yes (wanted_none rfl) ?_
            clear hF hD
            go_simp
            exact hK _ _ (Below.refl _ _) (rt_eqS s27)
          refine obsR_cons ?_ ?_
          · intro T wx K hB hF hD hK
            have g26 := get_eqS (hD 0 26 (by simp [Region.binds]) (by kernel_rfl)) s26
            have g27 := get_eqS (hD 1 27 (by simp [Region.binds]) (by kernel_rfl)) s27
            refine ob_yes (wanted_none rfl) ?_
            clear hF hD
            go_simp
            exact hK _ _ (Below.refl _ _) (rt_eqS s28)
          refine obsR_cons ?_ ?_
          · intro T wx K hB hF hD hK
            have g28 := get_eqS (hD 2 28 (by simp [Region.binds]) (by kernel_rfl)) s28
            refine ob_yes (wanted_none rfl) ?_
            clear hF hD
            have kd4 := (hB.cell (World.block_lt_of_cell? _ _ d4)).trans d4
            have kd5 := (hB.cell (World.block_lt_of_cell? _ _ d5)).trans d5
            have kd6 := (hB.cell (World.block_lt_of_cell? _ _ d6)).trans d6
            go_simp
            exact hK _ _ (Below.refl _ _) (rt_eqS s29)
          refine obsR_cons ?_ ?_
          · intro T wx K hB hF hD hK
            have g3 : T[3]? = some (.pointer (some ⟨x1, 0, none⟩)) := hF 3 (freeM_of (by kernel_rfl))
            refine ob_yes (wanted_none rfl) ?_
            clear hF hD
            exact wp_load_row 25 (.tmp 3) rfl _ (eval_tmp g3) _ _ _ _ (blk_call HQ2.out hB) Tryd.underlying25 rfl (by kernel_rfl) (hK _ _ (Below.refl _ _) (rt_eqS s30))
          refine obsR_cons ?_ ?_
          · intro T wx K hB hF hD hK
            have g29 := get_eqS (hD 3 29 (by simp [Region.binds]) (by kernel_rfl)) s29
            have g30 := get_eqS (hD 4 30 (by simp [Region.binds]) (by kernel_rfl)) s30
            refine ob_yes (wanted_none rfl) ?_
            clear hF hD
            go_simp
            refine (far8_is x' y' z' q0 q1 q2 m2 _ BY.out hq HM2).mono ?_; rintro e w9 ⟨rfl, hb⟩
            exact hK _ _ hb (rt_eqS s31)
          refine obsR_cons ?_ ?_
          · intro T wx K hB hF hD hK
            have g31 := get_eqS (hD 5 31 (by simp [Region.binds]) (by kernel_rfl)) s31
            refine ob_yes (wanted_none rfl) ?_
            clear hF hD
            go_simp
            exact hK _ _ (Below.refl _ _) (rt_eqS s9)
          exact obsR_nil
        · intro T2 W2 hb8 hF hs hD
          have g26 := get_eqS (hD 0 26 (by decide) (by kernel_rfl)) s26
          have g27 := get_eqS (hD 1 27 (by decide) (by kernel_rfl)) s27
          have g28 := get_eqS (hD 2 28 (by decide) (by kernel_rfl)) s28
          have g29 := get_eqS (hD 3 29 (by decide) (by kernel_rfl)) s29
          have g30 := get_eqS (hD 4 30 (by decide) (by kernel_rfl)) s30
          have g31 := get_eqS (hD 5 31 (by decide) (by kernel_rfl)) s31
          have g9 := get_eqS (hD 6 9 (by decide) (by kernel_rfl)) s9
          have hT9 := conc [(26, .slice (some ⟨b', o', none⟩) l.length cap), (27, .int .i64 m), (28, .pointer (some ⟨b', o' + m * 3, none⟩)), (29, .agg #[.int .i64 (x'), .int .i64 (y'), .int .i64 (z')]), (30, .agg #[.int .i64 q0, .int .i64 q1, .int .i64 q2]), (31, .int .i64 m2), (9, .int .i64 m2)] hs hF (by simp only [List.forall_mem_cons]; exact ⟨g26, g27, g28, g29, g30, g31, g9, fun p hp => absurd hp List.not_mem_nil⟩) (by kernel_rfl)
          simp only [List.foldl, List.setIfInBounds_toArray, List.set_cons_succ, List.set_cons_zero] at hT9
          subst hT9
          clear hF hD hs g26 g27 g28 g29 g30 g31 g9 s9 s26 s27 s28 s29 s30 s31
          have HR3 := Lib.hid (blk_call HR2.out hb8)
          have HQ3 := Lib.hid (blk_call HQ2.out hb8)
          have HB3 := Lib.hid (belT HB2.out hb8)
          clear hb8 HR2 HQ2 HB2 d4 d5 d6
          by_cases hlm : m1 < m2
          · have HNN : Hid (nearL (q0, q1, q2) (l.take (k + 1)) = l.getD k j0) := Lib.hid (by rw [NN.out, if_pos hlm])
            go_wp2_with fail
            exact ⟨⟨k + 1, k, ⟨by omega, by omega, by omega⟩, by go_num, rfl, HNN, HR3, HQ3, HB3⟩, by simp [intOf]; omega⟩
          · have HNN : Hid (nearL (q0, q1, q2) (l.take (k + 1)) = l.getD m j0) := Lib.hid (by rw [NN.out, if_neg hlm])
            go_wp2_with fail
            exact ⟨⟨k + 1, m, ⟨by omega, by omega, by omega⟩, by go_num, rfl, HNN, HR3, HQ3, HB3⟩, by simp [intOf]; omega⟩
    · obtain rfl : k = l.length := by omega
      have HN' := HN.out
      rw [List.take_length, hr.out] at HN'
      obtain ⟨b'', o'', rfl, c4, c5, c6⟩ := prow3_below HPw.out (HB1.out) m hml
      rw [← HN'] at c4 c5 c6
      have hmi : (m : Int) < l.length := by omega
      have y0 := blk_cell HR1.out 0 _ rfl
      have y1 := blk_cell HR1.out 1 _ rfl
      have y2 := blk_cell HR1.out 2 _ rfl
      have f0 := blk_fz HR1.out 0
      have f1 := blk_fz HR1.out 1
      have f2 := blk_fz HR1.out 2
      have HRR := Lib.hid HR1.out
      clear HN HN' hr
      go_wp2_with fail
      have Z := blk_set (j := 2) (blk_set (j := 1) (blk_set (j := 0) HRR.out (.int .i64 r0)) (.int .i64 r1)) (.int .i64 r2)
      have n3 := NE.out
      have BZ := belS (p := ⟨x2, 2, none⟩) (belS (p := ⟨x2, 1, none⟩) (belS (p := ⟨x2, 0, none⟩) HB1.out n3 (.int .i64 r0)) n3 (.int .i64 r1)) n3 (.int .i64 r2)
      generalize ((wr.setCell ⟨x2, 0, none⟩ (.int .i64 r0)).setCell ⟨x2, 1, none⟩ (.int .i64 r1)).setCell ⟨x2, 2, none⟩ (.int .i64 r2) = W2 at *
      have z0 := blk_cell Z 0 _ rfl
      have z1 := blk_cell Z 1 _ rfl
      have z2 := blk_cell Z 2 _ rfl
      refine bodyPost_ret (v := .tuple #[.agg #[.int .i64 r0, .int .i64 r1, .int .i64 r2], .bool true]) (by simp [results, Tryd.results20, go_sem, z0, z1, z2]) rfl ?_
      exact ⟨by rw [HE.out]; rfl, BZ⟩
end Go.Proofs.YtceejjamngplkaaDoor
