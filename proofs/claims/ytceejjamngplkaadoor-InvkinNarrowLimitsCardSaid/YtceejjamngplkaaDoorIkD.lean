/- Contract of package invkin: Solve. Conditions: the arm is valid, the target's point in range, its direction valid with N = 3; the table of rotations lies as the program's text lays it. -/
import Derived.Test.YtceejjamngplkaaDoorIkC
namespace Go.Proofs.YtceejjamngplkaaDoor
open Go.ChangeShapes Go.WideShapes Go.ChangeAt Go.RowKit
attribute [local go_sem] Oper.semAt_some
set_option linter.unusedVariables false
set_option linter.unusedSimpArgs false
set_option maxRecDepth 100000

theorem ixP2 (X Y a1 b1 a2 b2 a3 b3 : Int) (w : World) : (Instr.index 44 (.agg #[.int .i64 X, .int .i64 Y, .int .i64 a1, .int .i64 b1, .int .i64 a2, .int .i64 b2, .int .i64 a3, .int .i64 b3]) (.int .i64 2)).run Tryd.prog w = .ok (.agg #[.int .i64 a2, .int .i64 b2]) w := by
  simp [Instr.index, run_underlying Tryd.underlying44, asInt, asIntOf, part, Tryd.sizeOf23, Tryd.isAgg23]
theorem ixD2 (x1 y1 x2 y2 x3 y3 : Int) (w : World) : (Instr.index 46 (.agg #[.int .i64 x1, .int .i64 y1, .int .i64 1, .int .i64 x2, .int .i64 y2, .int .i64 2, .int .i64 x3, .int .i64 y3, .int .i64 3]) (.int .i64 2)).run Tryd.prog w = .ok (.agg #[.int .i64 x3, .int .i64 y3, .int .i64 3]) w := (ixD x1 y1 x2 y2 x3 y3 w).2.2
theorem infoJ : (Tryd.prog.info? 25).map (fun i => (i.zero, i.size, i.bytes)) = some (some (.agg #[.int .i64 0, .int .i64 0, .int .i64 0]), 3, 24) := by kernel_rfl
theorem cell_three_new (W : World) (a b c : Value) (t : TypeId) : ∀ j u, [a, b, c][j]? = some u → (W.alloc (.cells #[a, b, c] t)).cell? ((⟨W.heap.size, 0, none⟩ : Addr).add j) = some u := fun j u hu => by
  have hb : (W.alloc (.cells #[a, b, c] t)).heap[W.heap.size]? = some (.cells #[a, b, c] t (0, 0)) := blk_new _ _ _ rfl
  match j, hu with
  | 0, hu => simp at hu; subst hu; exact blk_cell hb 0 _ rfl
  | 1, hu => simp at hu; subst hu; exact blk_cell hb 1 _ rfl
  | 2, hu => simp at hu; subst hu; exact blk_cell hb 2 _ rfl
theorem flatMap_len {α β : Type} (l : List α) (f : α → List β) (m : Nat) (h : ∀ a, (f a).length ≤ m) : (l.flatMap f).length ≤ l.length * m := by
  induction l with
  | nil => simp
  | cons a l ih => rw [List.flatMap_cons, List.length_append, List.length_cons, Nat.add_mul]; have := h a; omega
theorem sol2_len (X Y n0 n1 n2 l2 h2 px py dx dy a b : Int) (hb : -17 ≤ l2 ∧ h2 ≤ 18) : (sol2 X Y n0 n1 n2 l2 h2 px py dx dy a b).length ≤ 36 := by
  unfold sol2
  split
  · rw [List.length_map]
    refine Nat.le_trans (List.length_filter_le _ _) ?_
    rw [ups_length]
    omega
  · simp
theorem sol1_len (X Y n0 n1 n2 l1 l2 h1 h2 px py dx dy a : Int) (hb : -17 ≤ l2 ∧ h2 ≤ 18) (hc : -17 ≤ l1 ∧ h1 ≤ 18) : (sol1 X Y n0 n1 n2 l1 l2 h1 h2 px py dx dy a).length ≤ 1296 := by
  unfold sol1
  refine Nat.le_trans (flatMap_len _ _ 36 (fun b => sol2_len _ _ _ _ _ _ _ _ _ _ _ _ _ hb)) ?_
  rw [ups_length]
  omega
set_option maxHeartbeats 8000000 in
theorem solve_is (X Y n0 n1 n2 W l0 l1 l2 h0 h1 h2 px py dx dy u v mx my : Int) (w : World) (hT : Tab w) (V : Hid (armB X Y n0 n1 n2 W l0 l1 l2 h0 h1 h2 = true)) (hd : Hid (vdB dx dy 3 = true))
    (hu : Hid (n2 * 16 * p65 (3 - 3) * dx = u)) (hv : Hid (n2 * 16 * p65 (3 - 3) * dy = v)) (hx : Hid (px - u = mx)) (hy : Hid (py - v = my)) (bw : Hid ((-1000000000000 ≤ mx ∧ mx ≤ 1000000000000) ∧ -1000000000000 ≤ my ∧ my ≤ 1000000000000)) :
    Calls Tryd.prog 14 #[.agg #[.int .i64 X, .int .i64 Y, .int .i64 n0, .int .i64 n1, .int .i64 n2, .int .i64 W, .int .i64 l0, .int .i64 l1, .int .i64 l2, .int .i64 h0, .int .i64 h1, .int .i64 h2], .agg #[.int .i64 px, .int .i64 py], .agg #[.int .i64 dx, .int .i64 dy, .int .i64 3]] w fun e w' => (∃ ao cap, e = .returned (.slice ao (solL X Y n0 n1 n2 l0 l1 l2 h0 h1 h2 px py dx dy).length cap) ∧ PRow3 w' ao (solL X Y n0 n1 n2 l0 l1 l2 h0 h1 h2 px py dx dy)) ∧ Below w.heap.size w w' := by
  have hmx : Hid (px - n2 * (16 * dx) = mx) := Lib.hid (by rw [← hx.out, ← hu.out, show p65 (3 - 3) = 1 by decide]; grind)
  have hmy : Hid (py - n2 * (16 * dy) = my) := Lib.hid (by rw [← hy.out, ← hv.out, show p65 (3 - 3) = 1 by decide]; grind)
  have N2 : -200 ≤ n2 ∧ n2 ≤ 200 := by have := (armB_iff X Y n0 n1 n2 W l0 l1 l2 h0 h1 h2).1 V.out; omega
  refine (callsIn_wide (n := 12)).1 ?_
  refine callsIn_of_wp_marks Tryd.func14 rfl trivial ?_ rfl
  simp only [Tryd.ntmps14, List.size_toArray, List.length_cons, List.length_nil, Nat.reduceAdd, Nat.reduceSub, Array.replicate_succ, Array.replicate_zero, List.push_toArray, List.append_toArray, List.nil_append, List.cons_append]
  gi_wp2_with fail
  obtain ⟨W0, hW0⟩ : ∃ z, (((w.alloc (.cells #[.int .i64 X, .int .i64 Y, .int .i64 n0, .int .i64 n1, .int .i64 n2, .int .i64 W, .int .i64 l0, .int .i64 l1, .int .i64 l2, .int .i64 h0, .int .i64 h1, .int .i64 h2] 27)).alloc (.cells #[.int .i64 px, .int .i64 py] 23)).alloc (.cells #[.int .i64 dx, .int .i64 dy, .int .i64 3] 29)) = z := ⟨_, rfl⟩
  have HD : Hid (W0.heap[w.heap.size + 1 + 1]? = some (.cells #[.int .i64 dx, .int .i64 dy, .int .i64 3] 29 (0, 0))) := Lib.hid (by rw [← hW0]; exact blk_new _ _ _ (by simp))
  have HT : Hid (W0.heap[w.heap.size + 1]? = some (.cells #[.int .i64 px, .int .i64 py] 23 (0, 0))) := Lib.hid (by rw [← hW0]; exact blk_alloc (blk_new _ _ _ (by simp)) _)
  have HA : Hid (W0.heap[w.heap.size]? = some (.cells #[.int .i64 X, .int .i64 Y, .int .i64 n0, .int .i64 n1, .int .i64 n2, .int .i64 W, .int .i64 l0, .int .i64 l1, .int .i64 l2, .int .i64 h0, .int .i64 h1, .int .i64 h2] 27 (0, 0))) := Lib.hid (by rw [← hW0]; exact blk_alloc (blk_alloc (blk_new _ _ _ rfl) _) _)
  have B : Hid (Below w.heap.size w W0) := Lib.hid (by rw [← hW0]; go_grown)
  have TT : Hid (Tab W0) := Lib.hid (by rw [← hW0]; repeat (first | exact hT | apply Tab.alloc))
  rw [hW0]
  have TT0 := Lib.hid hT
  clear hW0 hT
  obtain ⟨ba, ea⟩ : ∃ a, w.heap.size = a := ⟨_, rfl⟩
  obtain ⟨bt, et⟩ : ∃ a, w.heap.size + 1 = a := ⟨_, rfl⟩
  obtain ⟨bd, ed⟩ : ∃ a, w.heap.size + 1 + 1 = a := ⟨_, rfl⟩
  rw [ed, et, ea]
  rw [ed] at HD
  rw [et] at HT
  rw [ea] at HA
  have NE := Lib.hid (show w.heap.size ≤ ba ∧ ba < bd ∧ bt < bd by omega)
  have NZ := Lib.hid (blk_lt HD.out)
  clear ed et ea
  obtain ⟨sp, hsp⟩ : ∃ sp : ToldS, sp = [none, none, none, none, none, none, none, some (newS W0.heap.size #[.int .i64 0, .int .i64 0] 23), none, none, none, none, none, some (eqS (.agg #[.int .i64 px, .int .i64 py])), some (eqS (.agg #[.int .i64 dx, .int .i64 dy, .int .i64 3])), some (eqS (.pointer (some ⟨ba, 2, none⟩))), some (eqS (.pointer (some ⟨ba, 4, none⟩))), some (eqS (.int .i64 n2)), some (eqS (.agg #[.int .i64 u, .int .i64 v])), some (eqS (.agg #[.int .i64 mx, .int .i64 my]))] := ⟨_, rfl⟩
  have s7 : sp.getD 7 none = some (newS W0.heap.size #[.int .i64 0, .int .i64 0] 23) := by rw [hsp]; rfl
  have s13 : sp.getD 13 none = some (eqS (.agg #[.int .i64 px, .int .i64 py])) := by rw [hsp]; rfl
  have s14 : sp.getD 14 none = some (eqS (.agg #[.int .i64 dx, .int .i64 dy, .int .i64 3])) := by rw [hsp]; rfl
  have s15 : sp.getD 15 none = some (eqS (.pointer (some ⟨ba, 2, none⟩))) := by rw [hsp]; rfl
  have s16 : sp.getD 16 none = some (eqS (.pointer (some ⟨ba, 4, none⟩))) := by rw [hsp]; rfl
  have s17 : sp.getD 17 none = some (eqS (.int .i64 n2)) := by rw [hsp]; rfl
  have s18 : sp.getD 18 none = some (eqS (.agg #[.int .i64 u, .int .i64 v])) := by rw [hsp]; rfl
  have s19 : sp.getD 19 none = some (eqS (.agg #[.int .i64 mx, .int .i64 my])) := by rw [hsp]; rfl
  clear hsp
  refine (region_headF (FS := [7]) (RtS sp) (rtS_keep sp) (fun t v w ht h => by rcases (by simpa using ht : t = 7) with rfl <;> first | exact newS_fresh s7 h) 8 rfl rfl rfl (by kernel_rfl) (by decide) (by kernel_rfl) (by kernel_rfl) (by kernel_rfl) ?_ ?_)
  · intro Q'; show ObsF _ _ _ _ _ _ _ _ _ (List.take _ _); simp only [List.take_succ_cons, List.take_zero]
    refine obsF_cons (obF_of ?_ (by intro d e; cases e; decide)) ?_
    · intro T wx K hB hF hD hK
      have g4 : T[4]? = some (.pointer (some ⟨bt, 0, none⟩)) := hF 4 (freeM_of (by kernel_rfl))
      refine ob_yes (wanted_none rfl) ?_
      clear hF hD
      exact wp_load_row 23 (.tmp 4) rfl _ (eval_tmp g4) _ _ _ _ (blk_call HT.out hB) Tryd.underlying23 rfl (by kernel_rfl) (hK _ _ (Below.refl _ _) (rt_eqS s13))
    refine obsF_cons (obF_of ?_ (by intro d e; cases e; decide)) ?_
    · intro T wx K hB hF hD hK
      have g5 : T[5]? = some (.pointer (some ⟨bd, 0, none⟩)) := hF 5 (freeM_of (by kernel_rfl))
      refine ob_yes (wanted_none rfl) ?_
      clear hF hD
      exact wp_load_row 29 (.tmp 5) rfl _ (eval_tmp g5) _ _ _ _ (blk_call HD.out hB) Tryd.underlying29 rfl (by kernel_rfl) (hK _ _ (Below.refl _ _) (rt_eqS s14))
    refine obsF_cons (obF_of ?_ (by intro d e; cases e; decide)) ?_
    · intro T wx K hB hF hD hK
      have g3 : T[3]? = some (.pointer (some ⟨ba, 0, none⟩)) := hF 3 (freeM_of (by kernel_rfl))
      refine ob_yes (wanted_none rfl) ?_
      clear hF hD
      go_simp
      exact hK _ _ (Below.refl _ _) (rt_eqS s15)
    refine obsF_cons (obF_of ?_ (by intro d e; cases e; decide)) ?_
    · intro T wx K hB hF hD hK
      have g15 := get_eqS (hD 2 15 (by simp [Region.binds]) (by kernel_rfl)) s15
      refine ob_yes (wanted_none rfl) ?_
      clear hF hD
      go_simp
      exact hK _ _ (Below.refl _ _) (rt_eqS s16)
    refine obsF_cons (obF_of ?_ (by intro d e; cases e; decide)) ?_
    · intro T wx K hB hF hD hK
      have g16 := get_eqS (hD 3 16 (by simp [Region.binds]) (by kernel_rfl)) s16
      refine ob_yes (wanted_none rfl) ?_
      clear hF hD
      have c := blk_cell (blk_call HA.out hB) 4 _ rfl
      go_simp
      exact hK _ _ (Below.refl _ _) (rt_eqS s17)
    refine obsF_cons (obF_of ?_ (by intro d e; cases e; decide)) ?_
    · intro T wx K hB hF hD hK
      have g14 := get_eqS (hD 1 14 (by simp [Region.binds]) (by kernel_rfl)) s14
      have g17 := get_eqS (hD 4 17 (by simp [Region.binds]) (by kernel_rfl)) s17
      refine ob_yes (wanted_none rfl) ?_
      clear hF hD
      go_simp
      refine (offset_is dx dy 3 n2 u v _ hd.out N2 hu hv).mono ?_; rintro e w9 ⟨rfl, hb⟩
      exact hK _ _ hb (rt_eqS s18)
    refine obsF_cons (obF_of ?_ (by intro d e; cases e; decide)) ?_
    · intro T wx K hB hF hD hK
      have g13 := get_eqS (hD 0 13 (by simp [Region.binds]) (by kernel_rfl)) s13
      have g18 := get_eqS (hD 5 18 (by simp [Region.binds]) (by kernel_rfl)) s18
      refine ob_yes (wanted_none rfl) ?_
      clear hF hD
      go_simp
      refine (sub_is7 px py u v mx my _ hx hy bw.out.1 bw.out.2).mono ?_; rintro e w9 ⟨rfl, hb⟩
      exact hK _ _ hb (rt_eqS s19)
    refine obsF_cons ?_ ?_
    · intro T wx K hB hF hD hK
      refine ob_yes (wanted_none rfl) ?_
      clear hF hD
      go_simp
      exact hK _ _ (belA (Below.refl _ _) _) (fun d e => by cases e; exact ⟨rt_S s7 ⟨_, rfl, hB.size, blk_new _ _ _ rfl⟩ _ rfl, fun _ => rfl⟩)
    exact obsF_nil
  · intro T9 w8 hb8 hF hs hD hN
    have g13 := get_eqS (hD 0 13 (by decide) (by kernel_rfl)) s13
    have g14 := get_eqS (hD 1 14 (by decide) (by kernel_rfl)) s14
    have g15 := get_eqS (hD 2 15 (by decide) (by kernel_rfl)) s15
    have g16 := get_eqS (hD 3 16 (by decide) (by kernel_rfl)) s16
    have g17 := get_eqS (hD 4 17 (by decide) (by kernel_rfl)) s17
    have g18 := get_eqS (hD 5 18 (by decide) (by kernel_rfl)) s18
    have g19 := get_eqS (hD 6 19 (by decide) (by kernel_rfl)) s19
    obtain ⟨v7, g7, p7⟩ := getS (hD 7 7 (by decide) (by kernel_rfl)) s7
    have hT := conc [(13, .agg #[.int .i64 px, .int .i64 py]), (14, .agg #[.int .i64 dx, .int .i64 dy, .int .i64 3]), (15, .pointer (some ⟨ba, 2, none⟩)), (16, .pointer (some ⟨ba, 4, none⟩)), (17, .int .i64 n2), (18, .agg #[.int .i64 u, .int .i64 v]), (19, .agg #[.int .i64 mx, .int .i64 my]), (7, v7)] hs hF (by simp only [List.forall_mem_cons]; exact ⟨g13, g14, g15, g16, g17, g18, g19, g7, fun p hp => absurd hp List.not_mem_nil⟩) (by kernel_rfl)
    simp only [List.foldl, List.setIfInBounds_toArray, List.set_cons_succ, List.set_cons_zero] at hT
    subst hT
    clear hF hD hs hN g13 g14 g15 g16 g17 g18 g19 g7 s7 s13 s14 s15 s16 s17 s18 s19
    show wpOpsIn _ _ _ _ _ [8] _ _
    obtain ⟨bw7, rfl, hs, h7⟩ := p7
    refine tail_store rfl rfl rfl rfl rfl 23 (.tmp 7) (.tmp 19) rfl rfl bw7 #[.int .i64 mx, .int .i64 my] rfl rfl _ _ h7 (by kernel_rfl) rfl (by kernel_rfl) ?_
    have hn : w.heap.size ≤ bw7 := by have := B.out.size; omega
    have HW := Lib.hid (setRow_heap w8 bw7 _ #[.int .i64 mx, .int .i64 my] _ _ h7)
    have ne : ∀ k, k < W0.heap.size → k ≠ bw7 := fun k hk => by omega
    have HA1 := Lib.hid ((setRow_other w8 bw7 ba #[.int .i64 mx, .int .i64 my] (ne _ (blk_lt HA.out))).trans (blk_call HA.out hb8))
    have HD1 := Lib.hid ((setRow_other w8 bw7 bd #[.int .i64 mx, .int .i64 my] (ne _ (blk_lt HD.out))).trans (blk_call HD.out hb8))
    have B1 := Lib.hid (below_setRow7 (belT B.out hb8) hn #[.int .i64 mx, .int .i64 my])
    have TT1 := Lib.hid (Tab.below TT.out (below_setRow7 hb8 hs #[.int .i64 mx, .int .i64 my]))
    have Nw := Lib.hid (show bd < bw7 by have := NZ.out; omega)
    simp only [wpOpsIn]
    generalize w8.setRow bw7 #[.int .i64 mx, .int .i64 my] = W1 at *
    clear hb8 hs h7 HA HD HT B TT ne NZ
    have vv : (-17 ≤ l0 ∧ l0 ≤ h0 ∧ h0 ≤ 18) ∧ (-17 ≤ l1 ∧ l1 ≤ h1 ∧ h1 ≤ 18) ∧ -17 ≤ l2 ∧ l2 ≤ h2 ∧ h2 ≤ 18 := by have := (armB_iff X Y n0 n1 n2 W l0 l1 l2 h0 h1 h2).1 V.out; omega
    have VL := Lib.hid vv
    have V0 := fun w => values0_is X Y n0 n1 n2 W l0 l1 l2 h0 h1 h2 w (by omega) (by omega)
    clear vv
    have c0 := blk_cell HA1.out 0 _ rfl
    have c1 := blk_cell HA1.out 1 _ rfl
    have c2 := blk_cell HA1.out 2 _ rfl
    have c3 := blk_cell HA1.out 3 _ rfl
    have c4 := blk_cell HA1.out 4 _ rfl
    have c5 := blk_cell HA1.out 5 _ rfl
    have c6 := blk_cell HA1.out 6 _ rfl
    have c7 := blk_cell HA1.out 7 _ rfl
    have c8 := blk_cell HA1.out 8 _ rfl
    have c9 := blk_cell HA1.out 9 _ rfl
    have c10 := blk_cell HA1.out 10 _ rfl
    have c11 := blk_cell HA1.out 11 _ rfl
    have la := blk_lt HA1.out
    gi_wp2_with (refine ⟨trivial, ?_⟩; gi_at_call 36; refine (callsIn_wide.2 (V0 _)).mono ?_; rintro e w' ⟨⟨b1, b2, rfl, m1, m2, g1, g2⟩, hb⟩)
    obtain ⟨bs, hbs⟩ : ∃ b, W1.heap.size = b := ⟨_, rfl⟩
    have HS := Lib.hid (blk_call (blk_new W1 (.cells #[.slice none 0 0] 31) bs hbs) hb)
    have HA2 := Lib.hid (blk_call (blk_alloc HA1.out (.cells #[.slice none 0 0] 31)) hb)
    have HD2 := Lib.hid (blk_call (blk_alloc HD1.out (.cells #[.slice none 0 0] 31)) hb)
    have HW2 := Lib.hid (blk_call (blk_alloc HW.out (.cells #[.slice none 0 0] 31)) hb)
    have B2 := Lib.hid (belT (belA B1.out (.cells #[.slice none 0 0] 31)) hb)
    have Nb := Lib.hid (show w.heap.size ≤ bs by have := B1.out.size; omega)
    rw [hbs]
    clear hb m1 m2 hbs HA1 HD1 HW B1 TT1 la c0 c1 c2 c3 c4 c5 c6 c7 c8 c9 c10 c11
    generalize w' = W2 at *
    have H0 : Held [(ba, #[.int .i64 X, .int .i64 Y, .int .i64 n0, .int .i64 n1, .int .i64 n2, .int .i64 W, .int .i64 l0, .int .i64 l1, .int .i64 l2, .int .i64 h0, .int .i64 h1, .int .i64 h2], 27), (bd, #[.int .i64 dx, .int .i64 dy, .int .i64 3], 29), (bw7, #[.int .i64 mx, .int .i64 my], 23), (b1, #[.int .i64 l0], 3), (b2, #[.int .i64 h0], 3)] W2 := by
      intro x hx
      simp only [List.mem_cons, List.not_mem_nil, or_false] at hx
      rcases hx with rfl | rfl | rfl | rfl | rfl
      · exact HA2.out
      · exact HD2.out
      · exact HW2.out
      · exact g1
      · exact g2
    have R0 := RowAt.new (base := w.heap.size) HS.out
    clear HA2 HD2 HW2 HS
    have vb0 : -17 ≤ l0 ∧ l0 ≤ h0 ∧ h0 ≤ 18 := VL.out.1
    have vb1 : -17 ≤ l1 ∧ l1 ≤ h1 ∧ h1 ≤ 18 := VL.out.2.1
    have vb2 : -17 ≤ l2 ∧ l2 ≤ h2 ∧ h2 ≤ 18 := VL.out.2.2
    have lb1 := blk_lt g1
    have lb2 := blk_lt g2
    refine wpIn_rangeFunc_ownH rfl (by omega) (gf := 49) (lb := #[.pointer (some ⟨b1, 0, none⟩), .pointer (some ⟨b2, 0, none⟩)]) rfl trivial (enters_of Tryd.func49 (by kernel_rfl) rfl)
      (values_stops (12 - 1) (by omega) b1 b2 l0 h0 vb0 W2 g1 g2) kpV_t (kpV_b lb1 lb2) (Below.refl _ _) (fun _ => rfl)
      (fun pre W' => (Held [(ba, #[.int .i64 X, .int .i64 Y, .int .i64 n0, .int .i64 n1, .int .i64 n2, .int .i64 W, .int .i64 l0, .int .i64 l1, .int .i64 l2, .int .i64 h0, .int .i64 h1, .int .i64 h2], 27), (bd, #[.int .i64 dx, .int .i64 dy, .int .i64 3], 29), (bw7, #[.int .i64 mx, .int .i64 my], 23), (b1, #[.int .i64 l0], 3), (b2, #[.int .i64 h0], 3)] W' ∧ RowAt w.heap.size bs ((valB pre).flatMap (sol1 X Y n0 n1 n2 l1 l2 h1 h2 px py dx dy)) W') ∧ Below w.heap.size w W')
      (fun _ _ _ => False)
      (OwnFrom.and (OwnFrom.and (held_own _ _) (rowAt_own _ _ _ (fun pre => (valB pre).flatMap (sol1 X Y n0 n1 n2 l1 l2 h1 h2 px py dx dy)))) (ownFrom_below (Nat.le_refl _) B2.out.size))
      (fun _ _ _ _ _ hs _ _ => hs)
      ⟨⟨H0, R0⟩, B2.out⟩
      (fun x a' W' => ∃ Bx, W'.heap[Bx]? = some (.cells #[.int .i64 x.1] 3 (0, 0)) ∧ a' = { tmps := #[.agg #[.int .i64 X, .int .i64 Y, .int .i64 n0, .int .i64 n1, .int .i64 n2, .int .i64 W, .int .i64 l0, .int .i64 l1, .int .i64 l2, .int .i64 h0, .int .i64 h1, .int .i64 h2], .agg #[.int .i64 px, .int .i64 py], .agg #[.int .i64 dx, .int .i64 dy, .int .i64 3], .pointer (some ⟨ba, 0, none⟩), .pointer (some ⟨bt, 0, none⟩), .pointer (some ⟨bd, 0, none⟩), .slice none 0 0, .pointer (some ⟨bw7, 0, none⟩), .pointer (some ⟨bs, 0, none⟩), .pointer (some ⟨Bx, 0, none⟩), undef, undef, undef, .agg #[.int .i64 px, .int .i64 py], .agg #[.int .i64 dx, .int .i64 dy, .int .i64 3], .pointer (some ⟨ba, 2, none⟩), .pointer (some ⟨ba, 4, none⟩), .int .i64 n2, .agg #[.int .i64 u, .int .i64 v], .agg #[.int .i64 mx, .int .i64 my], .agg #[.int .i64 X, .int .i64 Y, .int .i64 n0, .int .i64 n1, .int .i64 n2, .int .i64 W, .int .i64 l0, .int .i64 l1, .int .i64 l2, .int .i64 h0, .int .i64 h1, .int .i64 h2], .func (.func 49) #[] #[.pointer (some ⟨b1, 0, none⟩), .pointer (some ⟨b2, 0, none⟩)], .int .i64 x.1, undef, undef, undef, undef, undef, undef, undef, undef, undef, undef, undef, undef, undef, undef, undef, undef, undef, undef, undef, undef, undef, undef, undef, undef, undef, undef, undef, undef, undef, undef, undef, undef], defers := [] })
      (fun x a' => fun _ X' Y' row ⟨Bx, h1, h2⟩ hg hr => ⟨Bx, (held_own _ [(Bx, #[.int .i64 x.1], 3)] () X' Y' row (fun y hy => by simp only [List.mem_singleton] at hy; subst hy; exact h1) hg hr) _ (List.mem_singleton.2 rfl), h2⟩)
      ?assign ?body ?done ?stop
    case assign =>
      rintro l pre x W' K ⟨⟨hH, hR⟩, hB⟩ hK
      rw [show encB x = #[.int .i64 x.1] from rfl]
      gi_wp2
      exact hK _ _ ((KeepsOthers.alloc _ _).from _) (Held.kpV hH (hH.alloc _) 3 4 rfl rfl rfl rfl) ⟨⟨hH.alloc _, hR.alloc _⟩, belA hB _⟩ ⟨W'.heap.size, blk_new _ _ _ rfl, rfl⟩
    case body =>
      rintro l pre ⟨a, ha⟩ a' W3 hl ⟨rl, hrl⟩ ⟨⟨hH, hR⟩, hB⟩ ⟨Bx, hx, rfl⟩ hlen
      have hz2 : W2.heap.size ≤ W3.heap.size := Nat.le_of_lt (Nat.lt_of_le_of_lt hl (Array.getElem?_eq_some_iff.1 hrl).1)
      have V1 := fun w => values1_is X Y n0 n1 n2 W l0 l1 l2 h0 h1 h2 w (by omega) (by omega)
      have HA1 := hH.get 0 _ rfl
      have HA1 := Lib.hid HA1
      have c0 := blk_cell HA1.out 0 _ rfl
      have c1 := blk_cell HA1.out 1 _ rfl
      have c2 := blk_cell HA1.out 2 _ rfl
      have c3 := blk_cell HA1.out 3 _ rfl
      have c4 := blk_cell HA1.out 4 _ rfl
      have c5 := blk_cell HA1.out 5 _ rfl
      have c6 := blk_cell HA1.out 6 _ rfl
      have c7 := blk_cell HA1.out 7 _ rfl
      have c8 := blk_cell HA1.out 8 _ rfl
      have c9 := blk_cell HA1.out 9 _ rfl
      have c10 := blk_cell HA1.out 10 _ rfl
      have c11 := blk_cell HA1.out 11 _ rfl
      have la := blk_lt HA1.out
      gi_wp2_with (refine ⟨trivial, ?_⟩; gi_at_call 36; refine (CallsIn.inRound l (callsIn_wide.2 (V1 _))).mono ?_; rintro e w' ⟨⟨b3, b4, rfl, m1, m2, g3, g4⟩, hb⟩)
      clear V1 c0 c1 c2 c3 c4 c5 c6 c7 c8 c9 c10 c11 la HA1
      have hrl' := blk_call hrl hb
      have hH1 : Held [(ba, #[.int .i64 X, .int .i64 Y, .int .i64 n0, .int .i64 n1, .int .i64 n2, .int .i64 W, .int .i64 l0, .int .i64 l1, .int .i64 l2, .int .i64 h0, .int .i64 h1, .int .i64 h2], 27), (bd, #[.int .i64 dx, .int .i64 dy, .int .i64 3], 29), (bw7, #[.int .i64 mx, .int .i64 my], 23), (b1, #[.int .i64 l0], 3), (b2, #[.int .i64 h0], 3), (Bx, #[.int .i64 a], 3), (b3, #[.int .i64 l1], 3), (b4, #[.int .i64 h1], 3)] w' := by
        intro x hx0
        simp only [List.mem_cons, List.not_mem_nil, or_false] at hx0
        rcases hx0 with rfl | rfl | rfl | rfl | rfl | rfl | rfl | rfl
        · exact (hH.call hb).get 0 _ rfl
        · exact (hH.call hb).get 1 _ rfl
        · exact (hH.call hb).get 2 _ rfl
        · exact (hH.call hb).get 3 _ rfl
        · exact (hH.call hb).get 4 _ rfl
        · exact blk_call hx hb
        · exact g3
        · exact g4
      have hR1 := hR.call hb
      have hb1 : Below w.heap.size W3 w' := hb.mono hB.size
      have hk1 : KeepsFrom W2.heap.size W3 w' := KeepsFrom.of_grownBy (grownB hb) (fun j e => by cases e)
      have lb3 := blk_lt g3
      have lb4 := blk_lt g4
      have hz3 := hb.size
      have hz4 := hz3
      clear hb
      generalize w' = W4 at *
      refine wpIn_rangeFunc_ownN (l₀ := l) (r₀ := rl) rfl hrl' (by omega) (gf := 49) (lb := #[.pointer (some ⟨b3, 0, none⟩), .pointer (some ⟨b4, 0, none⟩)]) rfl trivial (enters_of Tryd.func49 (by kernel_rfl) rfl)
        ((values_stops (12 - 1 - 1 - 1) (by omega) b3 b4 l1 h1 vb1 W4 g3 g4).inRound l) kpV_t (kpV_b lb3 lb4) (Below.refl _ _) (fun _ => rfl)
        (fun pre' W' => (Held [(ba, #[.int .i64 X, .int .i64 Y, .int .i64 n0, .int .i64 n1, .int .i64 n2, .int .i64 W, .int .i64 l0, .int .i64 l1, .int .i64 l2, .int .i64 h0, .int .i64 h1, .int .i64 h2], 27), (bd, #[.int .i64 dx, .int .i64 dy, .int .i64 3], 29), (bw7, #[.int .i64 mx, .int .i64 my], 23), (b1, #[.int .i64 l0], 3), (b2, #[.int .i64 h0], 3), (Bx, #[.int .i64 a], 3), (b3, #[.int .i64 l1], 3), (b4, #[.int .i64 h1], 3)] W' ∧ RowAt w.heap.size bs ((valB pre).flatMap (sol1 X Y n0 n1 n2 l1 l2 h1 h2 px py dx dy) ++ (valB pre').flatMap (sol2 X Y n0 n1 n2 l2 h2 px py dx dy a)) W') ∧ (Below w.heap.size W3 W' ∧ KeepsFrom W2.heap.size W3 W'))
        (fun _ _ _ => False)
        (OwnFrom.and (OwnFrom.and (held_own _ _) (rowAt_own _ _ _ (fun pre' => (valB pre).flatMap (sol1 X Y n0 n1 n2 l1 l2 h1 h2 px py dx dy) ++ (valB pre').flatMap (sol2 X Y n0 n1 n2 l2 h2 px py dx dy a)))) (OwnFrom.and (ownFrom_below hB.size (Nat.le_trans hB.size hb1.size)) (ownFrom_keepsFrom hz3)))
        (fun _ _ _ _ _ hs _ _ => hs)
        ⟨⟨hH1, by simpa [valB] using hR1⟩, hb1, hk1⟩
        (fun y a'' W' => ∃ By, W'.heap[By]? = some (.cells #[.int .i64 y.1] 3 (0, 0)) ∧ a'' = { tmps := #[.agg #[.int .i64 X, .int .i64 Y, .int .i64 n0, .int .i64 n1, .int .i64 n2, .int .i64 W, .int .i64 l0, .int .i64 l1, .int .i64 l2, .int .i64 h0, .int .i64 h1, .int .i64 h2], .agg #[.int .i64 px, .int .i64 py], .agg #[.int .i64 dx, .int .i64 dy, .int .i64 3], .pointer (some ⟨ba, 0, none⟩), .pointer (some ⟨bt, 0, none⟩), .pointer (some ⟨bd, 0, none⟩), .slice none 0 0, .pointer (some ⟨bw7, 0, none⟩), .pointer (some ⟨bs, 0, none⟩), .pointer (some ⟨Bx, 0, none⟩), .pointer (some ⟨By, 0, none⟩), undef, undef, .agg #[.int .i64 px, .int .i64 py], .agg #[.int .i64 dx, .int .i64 dy, .int .i64 3], .pointer (some ⟨ba, 2, none⟩), .pointer (some ⟨ba, 4, none⟩), .int .i64 n2, .agg #[.int .i64 u, .int .i64 v], .agg #[.int .i64 mx, .int .i64 my], .agg #[.int .i64 X, .int .i64 Y, .int .i64 n0, .int .i64 n1, .int .i64 n2, .int .i64 W, .int .i64 l0, .int .i64 l1, .int .i64 l2, .int .i64 h0, .int .i64 h1, .int .i64 h2], .func (.func 49) #[] #[.pointer (some ⟨b1, 0, none⟩), .pointer (some ⟨b2, 0, none⟩)], .int .i64 a, .agg #[.int .i64 X, .int .i64 Y, .int .i64 n0, .int .i64 n1, .int .i64 n2, .int .i64 W, .int .i64 l0, .int .i64 l1, .int .i64 l2, .int .i64 h0, .int .i64 h1, .int .i64 h2], .func (.func 49) #[] #[.pointer (some ⟨b3, 0, none⟩), .pointer (some ⟨b4, 0, none⟩)], .int .i64 y.1, undef, undef, undef, undef, undef, undef, undef, undef, undef, undef, undef, undef, undef, undef, undef, undef, undef, undef, undef, undef, undef, undef, undef, undef, undef, undef, undef, undef, undef], defers := [] })
        (fun y a'' => fun _ X' Y' row ⟨By, h1, h2⟩ hg hr => ⟨By, (held_own _ [(By, #[.int .i64 y.1], 3)] () X' Y' row (fun z hz => by simp only [List.mem_singleton] at hz; subst hz; exact h1) hg hr) _ (List.mem_singleton.2 rfl), h2⟩)
        ?assign2 ?body2 ?done2 ?stop2
      case assign2 =>
        rintro l2' pre' y W' K ⟨⟨hH', hR'⟩, hB', hK'⟩ hK
        rw [show encB y = #[.int .i64 y.1] from rfl]
        gi_wp2
        exact hK _ _ ((KeepsOthers.alloc _ _).from _) (Held.kpV hH' (hH'.alloc _) 6 7 rfl rfl rfl rfl) ⟨⟨hH'.alloc _, hR'.alloc _⟩, hB'.trans (belA (Below.refl _ _) _ |>.mono (Nat.le_trans hB.size hB'.size)), hK'.trans ((KeepsOthers.alloc _ _).from _)⟩ ⟨W'.heap.size, blk_new _ _ _ rfl, rfl⟩
      case body2 =>
        rintro l2' pre' ⟨b, hb⟩ a'' W5 hl2 ⟨rl2, hrl2⟩ ⟨⟨hH', hR'⟩, hB', hK'⟩ ⟨By, hy', rfl⟩ hlen2
        have B5 : Below w.heap.size w W5 := hB.trans hB'
        have T5 := Tab.below TT0.out B5
        obtain ⟨x1, x2, x3, y1, y2, y3, u1, u2, u3, v1, v2, v3, a1, a2, a3, b1', b2', b3', hP⟩ := pose_ex X Y n0 n1 n2 a b l2
        have HP := Lib.hid hP
        have PW := Lib.hid (pose_pw hP)
        clear hP
        have hA' := Lib.hid (hH'.get 0 _ rfl)
        have hD' := Lib.hid (hH'.get 1 _ rfl)
        have hW' := Lib.hid (hH'.get 2 _ rfl)
        have hX' := Lib.hid (hH'.get 5 _ rfl)
        have hY' := Lib.hid hy'
        have ka : -1000 ≤ a ∧ a ≤ 1000 := by omega
        have kb : -1000 ≤ b ∧ b ≤ 1000 := by omega
        have kc : -1000 ≤ l2 ∧ l2 ≤ 1000 := by omega
        obtain ⟨t, ht⟩ : ∃ t, (!decide (a2 = mx ∧ b2' = my)) = t := ⟨_, rfl⟩
        have HT := Lib.hid ht
        clear ht
        gi_wp2_with fail
        obtain ⟨sp, hsp⟩ : ∃ sp : ToldS, sp = [none, none, none, none, none, none, none, none, none, none, none, none, none, none, none, none, none, none, none, none, none, none, none, none, none, none, some (eqS (.agg #[.int .i64 X, .int .i64 Y, .int .i64 n0, .int .i64 n1, .int .i64 n2, .int .i64 W, .int .i64 l0, .int .i64 l1, .int .i64 l2, .int .i64 h0, .int .i64 h1, .int .i64 h2])), some (eqS (.int .i64 a)), some (eqS (.int .i64 b)), some (eqS (.pointer (some ⟨ba, 6, none⟩))), some (eqS (.pointer (some ⟨ba, 8, none⟩))), some (eqS (.int .i64 l2)), some (eqS (.agg #[.int .i64 a, .int .i64 b, .int .i64 l2])), some (eqS (.agg #[.int .i64 X, .int .i64 Y, .int .i64 a1, .int .i64 (b1'), .int .i64 a2, .int .i64 (b2'), .int .i64 a3, .int .i64 (b3')])), some (eqS (.agg #[.int .i64 a2, .int .i64 (b2')])), some (eqS (.agg #[.int .i64 mx, .int .i64 my])), some (eqS (.bool t))] := ⟨_, rfl⟩
        have s26 : sp.getD 26 none = some (eqS (.agg #[.int .i64 X, .int .i64 Y, .int .i64 n0, .int .i64 n1, .int .i64 n2, .int .i64 W, .int .i64 l0, .int .i64 l1, .int .i64 l2, .int .i64 h0, .int .i64 h1, .int .i64 h2])) := by rw [hsp]; rfl
        have s27 : sp.getD 27 none = some (eqS (.int .i64 a)) := by rw [hsp]; rfl
        have s28 : sp.getD 28 none = some (eqS (.int .i64 b)) := by rw [hsp]; rfl
        have s29 : sp.getD 29 none = some (eqS (.pointer (some ⟨ba, 6, none⟩))) := by rw [hsp]; rfl
        have s30 : sp.getD 30 none = some (eqS (.pointer (some ⟨ba, 8, none⟩))) := by rw [hsp]; rfl
        have s31 : sp.getD 31 none = some (eqS (.int .i64 l2)) := by rw [hsp]; rfl
        have s32 : sp.getD 32 none = some (eqS (.agg #[.int .i64 a, .int .i64 b, .int .i64 l2])) := by rw [hsp]; rfl
        have s33 : sp.getD 33 none = some (eqS (.agg #[.int .i64 X, .int .i64 Y, .int .i64 a1, .int .i64 (b1'), .int .i64 a2, .int .i64 (b2'), .int .i64 a3, .int .i64 (b3')])) := by rw [hsp]; rfl
        have s34 : sp.getD 34 none = some (eqS (.agg #[.int .i64 a2, .int .i64 (b2')])) := by rw [hsp]; rfl
        have s35 : sp.getD 35 none = some (eqS (.agg #[.int .i64 mx, .int .i64 my])) := by rw [hsp]; rfl
        have s36 : sp.getD 36 none = some (eqS (.bool t)) := by rw [hsp]; rfl
        clear hsp
        refine (region_allR (RtS sp) (rtS_keep sp) rfl rfl rfl (by kernel_rfl) (by kernel_rfl) (by kernel_rfl) ?_ ?_)
        · intro Q'
          refine obsR_cons ?_ ?_
          · intro T wx K hB hF hD hK
            have g3 : T[3]? = some (.pointer (some ⟨ba, 0, none⟩)) := hF 3 (freeM_of (by kernel_rfl))
            refine ob_yes (wanted_none rfl) ?_
            clear hF hD
            exact wp_load_row 27 (.tmp 3) rfl _ (eval_tmp g3) _ _ _ _ (blk_call hA'.out hB) Tryd.underlying27 rfl (by kernel_rfl) (hK _ _ (Below.refl _ _) (rt_eqS s26))
          refine obsR_cons ?_ ?_
          · intro T wx K hB hF hD hK
            have g9 : T[9]? = some (.pointer (some ⟨Bx, 0, none⟩)) := hF 9 (freeM_of (by kernel_rfl))
            refine ob_yes (wanted_none rfl) ?_
            clear hF hD
            have c := blk_cell (blk_call hX'.out hB) 0 _ rfl
            go_simp
            exact hK _ _ (Below.refl _ _) (rt_eqS s27)
          refine obsR_cons ?_ ?_
          · intro T wx K hB hF hD hK
            have g10 : T[10]? = some (.pointer (some ⟨By, 0, none⟩)) := hF 10 (freeM_of (by kernel_rfl))
            refine ob_yes (wanted_none rfl) ?_
            clear hF hD
            have c := blk_cell (blk_call hY'.out hB) 0 _ rfl
            go_simp
            exact hK _ _ (Below.refl _ _) (rt_eqS s28)
          refine obsR_cons ?_ ?_
          · intro T wx K hB hF hD hK
            have g3 : T[3]? = some (.pointer (some ⟨ba, 0, none⟩)) := hF 3 (freeM_of (by kernel_rfl))
            refine ob_yes (wanted_none rfl) ?_
            clear hF hD
            go_simp
            exact hK _ _ (Below.refl _ _) (rt_eqS s29)
          refine obsR_cons ?_ ?_
          · intro T wx K hB hF hD hK
            have g29 := get_eqS (hD 3 29 (by simp [Region.binds]) (by kernel_rfl)) s29
            refine ob_yes (wanted_none rfl) ?_
            clear hF hD
            go_simp
            exact hK _ _ (Below.refl _ _) (rt_eqS s30)
          refine obsR_cons ?_ ?_
          · intro T wx K hB hF hD hK
            have g30 := get_eqS (hD 4 30 (by simp [Region.binds]) (by kernel_rfl)) s30
            refine ob_yes (wanted_none rfl) ?_
            clear hF hD
            have c := blk_cell (blk_call hA'.out hB) 8 _ rfl
            go_simp
            exact hK _ _ (Below.refl _ _) (rt_eqS s31)
          refine obsR_cons ?_ ?_
          · intro T wx K hB hF hD hK
            have g27 := get_eqS (hD 1 27 (by simp [Region.binds]) (by kernel_rfl)) s27
            have g28 := get_eqS (hD 2 28 (by simp [Region.binds]) (by kernel_rfl)) s28
            have g31 := get_eqS (hD 5 31 (by simp [Region.binds]) (by kernel_rfl)) s31
            refine ob_yes (wanted_none rfl) ?_
            clear hF hD
            go_simp
            exact hK _ _ (Below.refl _ _) (rt_eqS s32)
          refine obsR_cons ?_ ?_
          · intro T wx K hB hF hD hK
            have g26 := get_eqS (hD 0 26 (by simp [Region.binds]) (by kernel_rfl)) s26
            have g32 := get_eqS (hD 6 32 (by simp [Region.binds]) (by kernel_rfl)) s32
            refine ob_yes (wanted_none rfl) ?_
            clear hF hD
            go_simp
            refine (jpts_is X Y n0 n1 n2 W l0 l1 l2 h0 h1 h2 a b l2 x1 x2 x3 y1 y2 y3 u1 u2 u3 v1 v2 v3 a1 a2 a3 b1' b2' b3' _ (T5.below hB) ka kb kc V HP).mono ?_; rintro e w9 ⟨rfl, hb⟩
            exact hK _ _ hb (rt_eqS s33)
          refine obsR_cons ?_ ?_
          · intro T wx K hB hF hD hK
            have g33 := get_eqS (hD 7 33 (by simp [Region.binds]) (by kernel_rfl)) s33
            refine ob_yes (wanted_none rfl) ?_
            clear hF hD
            have I2 := fun w => ixP2 X Y a1 b1' a2 b2' a3 b3' w
            go_simp
            exact hK _ _ (Below.refl _ _) (rt_eqS s34)
          refine obsR_cons ?_ ?_
          · intro T wx K hB hF hD hK
            have g7 : T[7]? = some (.pointer (some ⟨bw7, 0, none⟩)) := hF 7 (freeM_of (by kernel_rfl))
            refine ob_yes (wanted_none rfl) ?_
            clear hF hD
            exact wp_load_row 23 (.tmp 7) rfl _ (eval_tmp g7) _ _ _ _ (blk_call hW'.out hB) Tryd.underlying23 rfl (by kernel_rfl) (hK _ _ (Below.refl _ _) (rt_eqS s35))
          refine obsR_cons ?_ ?_
          · intro T wx K hB hF hD hK
            have g34 := get_eqS (hD 8 34 (by simp [Region.binds]) (by kernel_rfl)) s34
            have g35 := get_eqS (hD 9 35 (by simp [Region.binds]) (by kernel_rfl)) s35
            refine ob_yes (wanted_none rfl) ?_
            clear hF hD
            go_simp
            split
            · rename_i e1
              split
              · rename_i e2
                exact hK _ _ (Below.refl _ _) (rt_eqS' s36 (congrArg Value.bool (by rw [← HT.out]; simp [e1, e2])))
              · rename_i e2
                exact hK _ _ (Below.refl _ _) (rt_eqS' s36 (congrArg Value.bool (by rw [← HT.out]; simp [e2])))
            · rename_i e1
              exact hK _ _ (Below.refl _ _) (rt_eqS' s36 (congrArg Value.bool (by rw [← HT.out]; simp [e1])))
          exact obsR_nil
        · intro T6 W6 hb8 hF hs hD
          have g26 := get_eqS (hD 0 26 (by decide) (by kernel_rfl)) s26
          have g27 := get_eqS (hD 1 27 (by decide) (by kernel_rfl)) s27
          have g28 := get_eqS (hD 2 28 (by decide) (by kernel_rfl)) s28
          have g29 := get_eqS (hD 3 29 (by decide) (by kernel_rfl)) s29
          have g30 := get_eqS (hD 4 30 (by decide) (by kernel_rfl)) s30
          have g31 := get_eqS (hD 5 31 (by decide) (by kernel_rfl)) s31
          have g32 := get_eqS (hD 6 32 (by decide) (by kernel_rfl)) s32
          have g33 := get_eqS (hD 7 33 (by decide) (by kernel_rfl)) s33
          have g34 := get_eqS (hD 8 34 (by decide) (by kernel_rfl)) s34
          have g35 := get_eqS (hD 9 35 (by decide) (by kernel_rfl)) s35
          have g36 := get_eqS (hD 10 36 (by decide) (by kernel_rfl)) s36
          have hT9 := conc [(26, .agg #[.int .i64 X, .int .i64 Y, .int .i64 n0, .int .i64 n1, .int .i64 n2, .int .i64 W, .int .i64 l0, .int .i64 l1, .int .i64 l2, .int .i64 h0, .int .i64 h1, .int .i64 h2]), (27, .int .i64 a), (28, .int .i64 b), (29, .pointer (some ⟨ba, 6, none⟩)), (30, .pointer (some ⟨ba, 8, none⟩)), (31, .int .i64 l2), (32, .agg #[.int .i64 a, .int .i64 b, .int .i64 l2]), (33, .agg #[.int .i64 X, .int .i64 Y, .int .i64 a1, .int .i64 (b1'), .int .i64 a2, .int .i64 (b2'), .int .i64 a3, .int .i64 (b3')]), (34, .agg #[.int .i64 a2, .int .i64 (b2')]), (35, .agg #[.int .i64 mx, .int .i64 my]), (36, .bool t)] hs hF (by simp only [List.forall_mem_cons]; exact ⟨g26, g27, g28, g29, g30, g31, g32, g33, g34, g35, g36, fun p hp => absurd hp List.not_mem_nil⟩) (by kernel_rfl)
          simp only [List.foldl, List.setIfInBounds_toArray, List.set_cons_succ, List.set_cons_zero] at hT9
          subst hT9
          clear hF hD hs g26 g27 g28 g29 g30 g31 g32 g33 g34 g35 g36 s26 s27 s28 s29 s30 s31 s32 s33 s34 s35 s36
          have kF : KeepsFrom W2.heap.size W5 W6 := KeepsFrom.of_grownBy (grownB hb8) (fun j e => by cases e)
          have kG : KeepsFrom W4.heap.size W5 W6 := KeepsFrom.of_grownBy (grownB hb8) (fun j e => by cases e)
          have B6 : Below w.heap.size W5 W6 := hb8.mono B5.size
          have hH6 := hH'.call hb8
          have hR6 := hR'.call hb8
          cases t
          rotate_left
          · gi_wp2_with fail
            have E : sol2 X Y n0 n1 n2 l2 h2 px py dx dy a b = [] := by
              unfold sol2
              rw [PW.out, hmx.out, hmy.out, if_neg]
              intro h
              have := HT.out
              simp only [Prod.mk.injEq] at h
              simp [h.1, h.2] at this
            refine ⟨kG, Held.kpV hH' hH6 6 7 rfl rfl rfl rfl, ⟨hH6, ?_⟩, hB'.trans B6, hK'.trans kF⟩
            rw [valB_snoc, List.flatMap_append, show [b].flatMap (sol2 X Y n0 n1 n2 l2 h2 px py dx dy a) = [] by simp [E], List.append_nil]
            exact hR6
          have E : sol2 X Y n0 n1 n2 l2 h2 px py dx dy a b = ((ups l2 h2).filter fun c => decide (pd a b c = (dx, dy))).map fun c => (a, b, c) := by
            unfold sol2
            rw [PW.out, hmx.out, hmy.out, if_pos]
            have := HT.out
            simp at this
            rw [this.1, this.2]
          have V2 := fun w => values2_is X Y n0 n1 n2 W l0 l1 l2 h0 h1 h2 w (by omega) (by omega)
          have HA6 := Lib.hid (hH6.get 0 _ rfl)
          have c0 := blk_cell HA6.out 0 _ rfl
          have c1 := blk_cell HA6.out 1 _ rfl
          have c2 := blk_cell HA6.out 2 _ rfl
          have c3 := blk_cell HA6.out 3 _ rfl
          have c4 := blk_cell HA6.out 4 _ rfl
          have c5 := blk_cell HA6.out 5 _ rfl
          have c6 := blk_cell HA6.out 6 _ rfl
          have c7 := blk_cell HA6.out 7 _ rfl
          have c8 := blk_cell HA6.out 8 _ rfl
          have c9 := blk_cell HA6.out 9 _ rfl
          have c10 := blk_cell HA6.out 10 _ rfl
          have c11 := blk_cell HA6.out 11 _ rfl
          have la := blk_lt HA6.out
          have hx6 := blk_call hX'.out hb8
          have hy6 := blk_call hY'.out hb8
          have hrl6 := blk_call hrl2 hb8
          have hb8' := hb8
          clear hA' hD' hW' hX' hY' hb8 hH6
          gi_wp2_with (refine ⟨trivial, ?_⟩; gi_at_call 36; refine (CallsIn.inRound l2' (callsIn_wide.2 (V2 _))).mono ?_; rintro e w' ⟨⟨b5, b6, rfl, m1, m2, g5, g6⟩, hb⟩)
          clear V2 c0 c1 c2 c3 c4 c5 c6 c7 c8 c9 c10 c11 la HA6
          have hrl7 := blk_call hrl6 hb
          have hH7 : Held [(ba, #[.int .i64 X, .int .i64 Y, .int .i64 n0, .int .i64 n1, .int .i64 n2, .int .i64 W, .int .i64 l0, .int .i64 l1, .int .i64 l2, .int .i64 h0, .int .i64 h1, .int .i64 h2], 27), (bd, #[.int .i64 dx, .int .i64 dy, .int .i64 3], 29), (bw7, #[.int .i64 mx, .int .i64 my], 23), (b1, #[.int .i64 l0], 3), (b2, #[.int .i64 h0], 3), (Bx, #[.int .i64 a], 3), (b3, #[.int .i64 l1], 3), (b4, #[.int .i64 h1], 3), (By, #[.int .i64 b], 3), (b5, #[.int .i64 l2], 3), (b6, #[.int .i64 h2], 3)] w' := by
            intro x hx0
            simp only [List.mem_cons, List.not_mem_nil, or_false] at hx0
            rcases hx0 with rfl | rfl | rfl | rfl | rfl | rfl | rfl | rfl | rfl | rfl | rfl
            · exact ((hH'.call hb8').call hb).get 0 _ rfl
            · exact ((hH'.call hb8').call hb).get 1 _ rfl
            · exact ((hH'.call hb8').call hb).get 2 _ rfl
            · exact ((hH'.call hb8').call hb).get 3 _ rfl
            · exact ((hH'.call hb8').call hb).get 4 _ rfl
            · exact ((hH'.call hb8').call hb).get 5 _ rfl
            · exact ((hH'.call hb8').call hb).get 6 _ rfl
            · exact ((hH'.call hb8').call hb).get 7 _ rfl
            · exact blk_call hy6 hb
            · exact g5
            · exact g6
          have hR7 := hR6.call hb
          have B7 : Below w.heap.size W5 w' := B6.trans (hb.mono (Nat.le_trans B5.size hb8'.size))
          have kF7 : KeepsFrom W2.heap.size W5 w' := kF.trans (KeepsFrom.of_grownBy (grownB hb) (fun j e => by cases e))
          have kS7 : W5.heap.size ≤ w'.heap.size := Nat.le_trans hb8'.size hb.size
          have T7 := Tab.below TT0.out (B5.trans B7)
          have lb5 := blk_lt g5
          have lb6 := blk_lt g6
          clear hb hR6 kF kG B6 hx6 hy6 hrl6 hb8' HT T5
          generalize w' = W7 at *
          refine wpIn_rangeFunc_ownN (l₀ := l2') (r₀ := rl2) rfl hrl7 (by omega) (gf := 49) (lb := #[.pointer (some ⟨b5, 0, none⟩), .pointer (some ⟨b6, 0, none⟩)]) rfl trivial (enters_of Tryd.func49 (by kernel_rfl) rfl)
            ((values_stops (12 - 1 - 1 - 1 - 1 - 1) (by omega) b5 b6 l2 h2 vb2 W7 g5 g6).inRound l2') kpV_t (kpV_b lb5 lb6) (Below.refl _ _) (fun _ => rfl)
            (fun pre'' W' => (Held [(ba, #[.int .i64 X, .int .i64 Y, .int .i64 n0, .int .i64 n1, .int .i64 n2, .int .i64 W, .int .i64 l0, .int .i64 l1, .int .i64 l2, .int .i64 h0, .int .i64 h1, .int .i64 h2], 27), (bd, #[.int .i64 dx, .int .i64 dy, .int .i64 3], 29), (bw7, #[.int .i64 mx, .int .i64 my], 23), (b1, #[.int .i64 l0], 3), (b2, #[.int .i64 h0], 3), (Bx, #[.int .i64 a], 3), (b3, #[.int .i64 l1], 3), (b4, #[.int .i64 h1], 3), (By, #[.int .i64 b], 3), (b5, #[.int .i64 l2], 3), (b6, #[.int .i64 h2], 3)] W' ∧ RowAt w.heap.size bs ((valB pre).flatMap (sol1 X Y n0 n1 n2 l1 l2 h1 h2 px py dx dy) ++ ((valB pre').flatMap (sol2 X Y n0 n1 n2 l2 h2 px py dx dy a) ++ ((valB pre'').filter fun c => decide (pd a b c = (dx, dy))).map fun c => (a, b, c))) W') ∧ (Below w.heap.size W5 W' ∧ KeepsFrom W2.heap.size W5 W'))
            (fun _ _ _ => False)
            (OwnFrom.and (OwnFrom.and (held_own _ _) (rowAt_own _ _ _ (fun pre'' => (valB pre).flatMap (sol1 X Y n0 n1 n2 l1 l2 h1 h2 px py dx dy) ++ ((valB pre').flatMap (sol2 X Y n0 n1 n2 l2 h2 px py dx dy a) ++ ((valB pre'').filter fun c => decide (pd a b c = (dx, dy))).map fun c => (a, b, c))))) (OwnFrom.and (ownFrom_below B5.size (Nat.le_trans B5.size kS7)) (ownFrom_keepsFrom kS7)))
            (fun _ _ _ _ _ hs _ _ => hs)
            ⟨⟨hH7, by simpa [valB] using hR7⟩, B7, kF7⟩
            (fun z ac W' => ac = { tmps := #[.agg #[.int .i64 X, .int .i64 Y, .int .i64 n0, .int .i64 n1, .int .i64 n2, .int .i64 W, .int .i64 l0, .int .i64 l1, .int .i64 l2, .int .i64 h0, .int .i64 h1, .int .i64 h2], .agg #[.int .i64 px, .int .i64 py], .agg #[.int .i64 dx, .int .i64 dy, .int .i64 3], .pointer (some ⟨ba, 0, none⟩), .pointer (some ⟨bt, 0, none⟩), .pointer (some ⟨bd, 0, none⟩), .slice none 0 0, .pointer (some ⟨bw7, 0, none⟩), .pointer (some ⟨bs, 0, none⟩), .pointer (some ⟨Bx, 0, none⟩), .pointer (some ⟨By, 0, none⟩), .int .i64 z.1, undef, .agg #[.int .i64 px, .int .i64 py], .agg #[.int .i64 dx, .int .i64 dy, .int .i64 3], .pointer (some ⟨ba, 2, none⟩), .pointer (some ⟨ba, 4, none⟩), .int .i64 n2, .agg #[.int .i64 u, .int .i64 v], .agg #[.int .i64 mx, .int .i64 my], .agg #[.int .i64 X, .int .i64 Y, .int .i64 n0, .int .i64 n1, .int .i64 n2, .int .i64 W, .int .i64 l0, .int .i64 l1, .int .i64 l2, .int .i64 h0, .int .i64 h1, .int .i64 h2], .func (.func 49) #[] #[.pointer (some ⟨b1, 0, none⟩), .pointer (some ⟨b2, 0, none⟩)], .int .i64 a, .agg #[.int .i64 X, .int .i64 Y, .int .i64 n0, .int .i64 n1, .int .i64 n2, .int .i64 W, .int .i64 l0, .int .i64 l1, .int .i64 l2, .int .i64 h0, .int .i64 h1, .int .i64 h2], .func (.func 49) #[] #[.pointer (some ⟨b3, 0, none⟩), .pointer (some ⟨b4, 0, none⟩)], .int .i64 b, .agg #[.int .i64 X, .int .i64 Y, .int .i64 n0, .int .i64 n1, .int .i64 n2, .int .i64 W, .int .i64 l0, .int .i64 l1, .int .i64 l2, .int .i64 h0, .int .i64 h1, .int .i64 h2], .int .i64 a, .int .i64 b, .pointer (some ⟨ba, 6, none⟩), .pointer (some ⟨ba, 8, none⟩), .int .i64 l2, .agg #[.int .i64 a, .int .i64 b, .int .i64 l2], .agg #[.int .i64 X, .int .i64 Y, .int .i64 a1, .int .i64 (b1'), .int .i64 a2, .int .i64 (b2'), .int .i64 a3, .int .i64 (b3')], .agg #[.int .i64 a2, .int .i64 (b2')], .agg #[.int .i64 mx, .int .i64 my], .bool false, .agg #[.int .i64 X, .int .i64 Y, .int .i64 n0, .int .i64 n1, .int .i64 n2, .int .i64 W, .int .i64 l0, .int .i64 l1, .int .i64 l2, .int .i64 h0, .int .i64 h1, .int .i64 h2], .func (.func 49) #[] #[.pointer (some ⟨b5, 0, none⟩), .pointer (some ⟨b6, 0, none⟩)], .int .i64 z.1, undef, undef, undef, undef, undef, undef, undef, undef, undef, undef, undef, undef, undef, undef, undef], defers := [] })
            (fun _ _ _ _ _ _ hs _ _ => hs)
            ?assign3 ?body3 ?done3 ?stop3
          case assign3 =>
            rintro l3' pre'' z W' K hi hK
            rw [show encB z = #[.int .i64 z.1] from rfl]
            gi_wp2
            exact hK _ _ (KeepsFrom.refl _ _) (kpV_r _) hi rfl
          case body3 =>
            rintro l3' pre'' ⟨c, hc⟩ ac W8 hl3 ⟨rl3, hrl3⟩ ⟨⟨hH8, hR8⟩, hB8, hK8⟩ rfl hlen3
            have cx := blk_cell (hH8.get 5 _ rfl) 0 _ rfl
            have cy := blk_cell (hH8.get 8 _ rfl) 0 _ rfl
            have lx := blk_lt (hH8.get 5 _ rfl)
            have ly := blk_lt (hH8.get 8 _ rfl)
            have hlen0 : pre.length < 36 := by omega
            have hlen1 : pre'.length < 36 := by omega
            have hlen4 : pre''.length < 36 := by omega
            obtain ⟨s1, s2, hs⟩ : ∃ s1 s2, gm (x2, y2) (rE c) = (s1, s2) := ⟨_, _, rfl⟩
            have HE := Lib.hid hs
            have PD : Hid (pd a b c = (s1, s2)) := Lib.hid (by unfold pd; rw [HP.out.e1, HP.out.e2, hs])
            clear hs
            obtain ⟨t, ht⟩ : ∃ t, decide (s1 = dx ∧ s2 = dy) = t := ⟨_, rfl⟩
            have HT := Lib.hid ht
            clear ht
            have kd : -1000 ≤ c ∧ c ≤ 1000 := by omega
            gi_wp2_with fail
            have HQ := Lib.hid (blk_new W8 (.cells #[.int .i64 a, .int .i64 b, .int .i64 c] 25) _ rfl)
            have hH9 := hH8.alloc (.cells #[.int .i64 a, .int .i64 b, .int .i64 c] 25)
            have hR9 := hR8.alloc (.cells #[.int .i64 a, .int .i64 b, .int .i64 c] 25)
            have hB9 : Below w.heap.size W5 (W8.alloc (.cells #[.int .i64 a, .int .i64 b, .int .i64 c] 25)) := hB8.alloc (Nat.le_trans B5.size hB8.size) _
            have hK9 : KeepsFrom W2.heap.size W5 (W8.alloc (.cells #[.int .i64 a, .int .i64 b, .int .i64 c] 25)) := hK8.trans ((KeepsOthers.alloc _ _).from _)
            have T9 := Tab.below TT0.out (B5.trans hB9)
            have hrow0 := hR9
            have hz8 : W8.heap.size ≤ (W8.alloc (.cells #[.int .i64 a, .int .i64 b, .int .i64 c] 25)).heap.size := by simp
            have kF0 : KeepsFrom W7.heap.size W8 (W8.alloc (.cells #[.int .i64 a, .int .i64 b, .int .i64 c] 25)) := (KeepsOthers.alloc _ _).from _
            obtain ⟨bq, hbq⟩ : ∃ q, W8.heap.size = q := ⟨_, rfl⟩
            rw [hbq] at HQ ⊢
            clear hbq cx cy lx ly hrow0
            generalize W8.alloc (.cells #[.int .i64 a, .int .i64 b, .int .i64 c] 25) = W9 at *
            have hA9 := Lib.hid (hH9.get 0 _ rfl)
            have hD9 := Lib.hid (hH9.get 1 _ rfl)
            obtain ⟨sp, hsp⟩ : ∃ sp : ToldS, sp = [none, none, none, none, none, none, none, none, none, none, none, none, none, none, none, none, none, none, none, none, none, none, none, none, none, none, none, none, none, none, none, none, none, none, none, none, none, none, none, none, none, none, none, none, some (eqS (.agg #[.int .i64 X, .int .i64 Y, .int .i64 n0, .int .i64 n1, .int .i64 n2, .int .i64 W, .int .i64 l0, .int .i64 l1, .int .i64 l2, .int .i64 h0, .int .i64 h1, .int .i64 h2])), some (eqS (.agg #[.int .i64 a, .int .i64 b, .int .i64 c])), some (eqS (.agg #[.int .i64 x1, .int .i64 y1, .int .i64 1, .int .i64 x2, .int .i64 y2, .int .i64 2, .int .i64 s1, .int .i64 s2, .int .i64 3])), some (eqS (.agg #[.int .i64 s1, .int .i64 s2, .int .i64 3])), some (eqS (.agg #[.int .i64 dx, .int .i64 dy, .int .i64 3])), some (eqS (.bool t))] := ⟨_, rfl⟩
            have s44 : sp.getD 44 none = some (eqS (.agg #[.int .i64 X, .int .i64 Y, .int .i64 n0, .int .i64 n1, .int .i64 n2, .int .i64 W, .int .i64 l0, .int .i64 l1, .int .i64 l2, .int .i64 h0, .int .i64 h1, .int .i64 h2])) := by rw [hsp]; rfl
            have s45 : sp.getD 45 none = some (eqS (.agg #[.int .i64 a, .int .i64 b, .int .i64 c])) := by rw [hsp]; rfl
            have s46 : sp.getD 46 none = some (eqS (.agg #[.int .i64 x1, .int .i64 y1, .int .i64 1, .int .i64 x2, .int .i64 y2, .int .i64 2, .int .i64 s1, .int .i64 s2, .int .i64 3])) := by rw [hsp]; rfl
            have s47 : sp.getD 47 none = some (eqS (.agg #[.int .i64 s1, .int .i64 s2, .int .i64 3])) := by rw [hsp]; rfl
            have s48 : sp.getD 48 none = some (eqS (.agg #[.int .i64 dx, .int .i64 dy, .int .i64 3])) := by rw [hsp]; rfl
            have s49 : sp.getD 49 none = some (eqS (.bool t)) := by rw [hsp]; rfl
            clear hsp
            refine (region_allR (RtS sp) (rtS_keep sp) rfl rfl rfl (by kernel_rfl) (by kernel_rfl) (by kernel_rfl) ?_ ?_)
            · intro Q'
              refine obsR_cons ?_ ?_
              · intro T wx K hB hF hD hK
                have g3 : T[3]? = some (.pointer (some ⟨ba, 0, none⟩)) := hF 3 (freeM_of (by kernel_rfl))
                refine ob_yes (wanted_none rfl) ?_
                clear hF hD
                exact wp_load_row 27 (.tmp 3) rfl _ (eval_tmp g3) _ _ _ _ (blk_call hA9.out hB) Tryd.underlying27 rfl (by kernel_rfl) (hK _ _ (Below.refl _ _) (rt_eqS s44))
              refine obsR_cons ?_ ?_
              · intro T wx K hB hF hD hK
                have g12 : T[12]? = some (.pointer (some ⟨bq, 0, none⟩)) := hF 12 (freeM_of (by kernel_rfl))
                refine ob_yes (wanted_none rfl) ?_
                clear hF hD
                exact wp_load_row 25 (.tmp 12) rfl _ (eval_tmp g12) _ _ _ _ (blk_call HQ.out hB) Tryd.underlying25 rfl (by kernel_rfl) (hK _ _ (Below.refl _ _) (rt_eqS s45))
              refine obsR_cons ?_ ?_
              · intro T wx K hB hF hD hK
                have g44 := get_eqS (hD 0 44 (by simp [Region.binds]) (by kernel_rfl)) s44
                have g45 := get_eqS (hD 1 45 (by simp [Region.binds]) (by kernel_rfl)) s45
                refine ob_yes (wanted_none rfl) ?_
                clear hF hD
                go_simp
                refine (ldirs_is X Y n0 n1 n2 W l0 l1 l2 h0 h1 h2 a b c x1 y1 x2 y2 s1 s2 _ (T9.below hB) ka kb kd (Lib.hid HP.out.e1) (Lib.hid HP.out.e2) HE).mono ?_; rintro e w9 ⟨rfl, hb⟩
                exact hK _ _ hb (rt_eqS s46)
              refine obsR_cons ?_ ?_
              · intro T wx K hB hF hD hK
                have g46 := get_eqS (hD 2 46 (by simp [Region.binds]) (by kernel_rfl)) s46
                refine ob_yes (wanted_none rfl) ?_
                clear hF hD
                have I2 := fun w => ixD2 x1 y1 x2 y2 s1 s2 w
                go_simp
                exact hK _ _ (Below.refl _ _) (rt_eqS s47)
              refine obsR_cons ?_ ?_
              · intro T wx K hB hF hD hK
                have g5 : T[5]? = some (.pointer (some ⟨bd, 0, none⟩)) := hF 5 (freeM_of (by kernel_rfl))
                refine ob_yes (wanted_none rfl) ?_
                clear hF hD
                exact wp_load_row 29 (.tmp 5) rfl _ (eval_tmp g5) _ _ _ _ (blk_call hD9.out hB) Tryd.underlying29 rfl (by kernel_rfl) (hK _ _ (Below.refl _ _) (rt_eqS s48))
              refine obsR_cons ?_ ?_
              · intro T wx K hB hF hD hK
                have g47 := get_eqS (hD 3 47 (by simp [Region.binds]) (by kernel_rfl)) s47
                have g48 := get_eqS (hD 4 48 (by simp [Region.binds]) (by kernel_rfl)) s48
                refine ob_yes (wanted_none rfl) ?_
                clear hF hD
                go_simp
                split
                · rename_i e1
                  split
                  · rename_i e2
                    exact hK _ _ (Below.refl _ _) (rt_eqS' s49 (congrArg Value.bool (by rw [← HT.out]; simp [e1, e2])))
                  · rename_i e2
                    exact hK _ _ (Below.refl _ _) (rt_eqS' s49 (congrArg Value.bool (by rw [← HT.out]; simp [e2])))
                · rename_i e1
                  exact hK _ _ (Below.refl _ _) (rt_eqS' s49 (congrArg Value.bool (by rw [← HT.out]; simp [e1])))
              exact obsR_nil
            · intro T11 Wa hb8 hF hs hD
              have g44 := get_eqS (hD 0 44 (by decide) (by kernel_rfl)) s44
              have g45 := get_eqS (hD 1 45 (by decide) (by kernel_rfl)) s45
              have g46 := get_eqS (hD 2 46 (by decide) (by kernel_rfl)) s46
              have g47 := get_eqS (hD 3 47 (by decide) (by kernel_rfl)) s47
              have g48 := get_eqS (hD 4 48 (by decide) (by kernel_rfl)) s48
              have g49 := get_eqS (hD 5 49 (by decide) (by kernel_rfl)) s49
              have hT9 := conc [(44, .agg #[.int .i64 X, .int .i64 Y, .int .i64 n0, .int .i64 n1, .int .i64 n2, .int .i64 W, .int .i64 l0, .int .i64 l1, .int .i64 l2, .int .i64 h0, .int .i64 h1, .int .i64 h2]), (45, .agg #[.int .i64 a, .int .i64 b, .int .i64 c]), (46, .agg #[.int .i64 x1, .int .i64 y1, .int .i64 1, .int .i64 x2, .int .i64 y2, .int .i64 2, .int .i64 s1, .int .i64 s2, .int .i64 3]), (47, .agg #[.int .i64 s1, .int .i64 s2, .int .i64 3]), (48, .agg #[.int .i64 dx, .int .i64 dy, .int .i64 3]), (49, .bool t)] hs hF (by simp only [List.forall_mem_cons]; exact ⟨g44, g45, g46, g47, g48, g49, fun p hp => absurd hp List.not_mem_nil⟩) (by kernel_rfl)
              simp only [List.foldl, List.setIfInBounds_toArray, List.set_cons_succ, List.set_cons_zero] at hT9
              subst hT9
              clear hF hD hs g44 g45 g46 g47 g48 g49 s44 s45 s46 s47 s48 s49
              have hHa := hH9.call hb8
              have hRa := hR9.call hb8
              have kF1 : KeepsFrom W2.heap.size W9 Wa := KeepsFrom.of_grownBy (grownB hb8) (fun j e => by cases e)
              have kF2 : KeepsFrom W7.heap.size W9 Wa := KeepsFrom.of_grownBy (grownB hb8) (fun j e => by cases e)
              have Ba : Below w.heap.size W5 Wa := hB9.trans (hb8.mono (Nat.le_trans B5.size hB9.size))
              cases t
              · gi_wp2_with fail
                refine ⟨kF0.trans kF2, Held.kpV hH8 hHa 9 10 rfl rfl rfl rfl, ⟨hHa, ?_⟩, Ba, hK9.trans kF1⟩
                rw [valB_snoc, List.filter_append, show [c].filter (fun c => decide (pd a b c = (dx, dy))) = [] from ?_, List.append_nil]
                · exact hRa
                · rw [List.filter_cons_of_neg, List.filter_nil]
                  have := HT.out
                  simp only [decide_eq_true_eq, PD.out, Prod.mk.injEq]
                  exact of_decide_eq_false this
              · obtain ⟨rv, hv, hrow⟩ := hRa
                have EQ : (valB pre).flatMap (sol1 X Y n0 n1 n2 l1 l2 h1 h2 px py dx dy) ++ ((valB pre').flatMap (sol2 X Y n0 n1 n2 l2 h2 px py dx dy a) ++ ((valB (pre'' ++ [⟨c, hc⟩])).filter fun c => decide (pd a b c = (dx, dy))).map fun c => (a, b, c)) = ((valB pre).flatMap (sol1 X Y n0 n1 n2 l1 l2 h1 h2 px py dx dy) ++ ((valB pre').flatMap (sol2 X Y n0 n1 n2 l2 h2 px py dx dy a) ++ ((valB pre'').filter fun c => decide (pd a b c = (dx, dy))).map fun c => (a, b, c))) ++ [(a, b, c)] := by
                  rw [valB_snoc, List.filter_append, List.map_append, show [c].filter (fun c => decide (pd a b c = (dx, dy))) = [c] from ?_]
                  · simp only [List.map_cons, List.map_nil, List.append_assoc]
                  · rw [List.filter_cons_of_pos, List.filter_nil]
                    have := of_decide_eq_true HT.out
                    simp only [decide_eq_true_eq, PD.out, Prod.mk.injEq]
                    exact this
                have HN : Hid (((valB pre).flatMap (sol1 X Y n0 n1 n2 l1 l2 h1 h2 px py dx dy) ++ ((valB pre').flatMap (sol2 X Y n0 n1 n2 l2 h2 px py dx dy a) ++ ((valB pre'').filter fun c => decide (pd a b c = (dx, dy))).map fun c => (a, b, c))).length + 1 ≤ 60000) := Lib.hid (by
                  have e1 := flatMap_len (valB pre) (sol1 X Y n0 n1 n2 l1 l2 h1 h2 px py dx dy) 1296 (fun a => sol1_len _ _ _ _ _ _ _ _ _ _ _ _ _ _ ⟨vb2.1, vb2.2.2⟩ ⟨vb1.1, vb1.2.2⟩)
                  have e2 := flatMap_len (valB pre') (sol2 X Y n0 n1 n2 l2 h2 px py dx dy a) 36 (fun b => sol2_len _ _ _ _ _ _ _ _ _ _ _ _ _ ⟨vb2.1, vb2.2.2⟩)
                  have e3 := List.length_filter_le (fun c => decide (pd a b c = (dx, dy))) (valB pre'')
                  have f1 : (valB pre).length = pre.length := by simp [valB]
                  have f2 : (valB pre').length = pre'.length := by simp [valB]
                  have f3 : (valB pre'').length = pre''.length := by simp [valB]
                  rw [f1] at e1
                  rw [f2] at e2
                  rw [f3] at e3
                  simp only [List.length_append, List.length_map]
                  omega)
                obtain ⟨LL, hLL⟩ : ∃ LL, (valB pre).flatMap (sol1 X Y n0 n1 n2 l1 l2 h1 h2 px py dx dy) ++ ((valB pre').flatMap (sol2 X Y n0 n1 n2 l2 h2 px py dx dy a) ++ ((valB pre'').filter fun c => decide (pd a b c = (dx, dy))).map fun c => (a, b, c)) = LL := ⟨_, rfl⟩
                rw [hLL] at hrow HN EQ
                clear hLL hR8 hR9 T9 hR7 hR' hR hR1
                have hl := HN.out
                have mlen : maxLen = 9223372036854775807 := rfl
                have cv := hv.cell
                have cq0 := blk_cell (blk_call HQ.out hb8) 0 _ rfl
                have cq1 := blk_cell (blk_call HQ.out hb8) 1 _ rfl
                have cq2 := blk_cell (blk_call HQ.out hb8) 2 _ rfl
                have lq := blk_lt (blk_call HQ.out hb8)
                have NT : ∀ x ∈ ([(ba, #[.int .i64 X, .int .i64 Y, .int .i64 n0, .int .i64 n1, .int .i64 n2, .int .i64 W, .int .i64 l0, .int .i64 l1, .int .i64 l2, .int .i64 h0, .int .i64 h1, .int .i64 h2], 27), (bd, #[.int .i64 dx, .int .i64 dy, .int .i64 3], 29), (bw7, #[.int .i64 mx, .int .i64 my], 23), (b1, #[.int .i64 l0], 3), (b2, #[.int .i64 h0], 3), (Bx, #[.int .i64 a], 3), (b3, #[.int .i64 l1], 3), (b4, #[.int .i64 h1], 3), (By, #[.int .i64 b], 3), (b5, #[.int .i64 l2], 3), (b6, #[.int .i64 h2], 3)] : HL), x.2.2 ≠ 25 := by simp
                have NU : ∀ x ∈ ([(ba, #[.int .i64 X, .int .i64 Y, .int .i64 n0, .int .i64 n1, .int .i64 n2, .int .i64 W, .int .i64 l0, .int .i64 l1, .int .i64 l2, .int .i64 h0, .int .i64 h1, .int .i64 h2], 27), (bd, #[.int .i64 dx, .int .i64 dy, .int .i64 3], 29), (bw7, #[.int .i64 mx, .int .i64 my], 23), (b1, #[.int .i64 l0], 3), (b2, #[.int .i64 h0], 3), (Bx, #[.int .i64 a], 3), (b3, #[.int .i64 l1], 3), (b4, #[.int .i64 h1], 3), (By, #[.int .i64 b], 3), (b5, #[.int .i64 l2], 3), (b6, #[.int .i64 h2], 3)] : HL), x.2.2 ≠ 31 := by simp
                have HR := hHa.row hrow NT
                have hna : w.heap.size ≤ Wa.heap.size := Nat.le_trans B5.size Ba.size
                have hnb := Nb.out
                obtain ⟨i0, hi, hz0, hz1', hz2'⟩ := info_parts infoJ
                gi_wp2_with (gi_at_builtin; refine wpListIn_append_own _ rfl _ _ 31 rfl w.heap.size 25 i0 (.agg #[.int .i64 0, .int .i64 0, .int .i64 0]) 3 24 Tryd.underlying31 hi hz0 hz1' hz2' rfl (by decide) _ _ _ rfl (hrow.alloc _) ⟨Wa.heap.size, 0, none⟩ 1 1 [.int .i64 a, .int .i64 b, .int .i64 c] rfl rfl (cell_three_new _ _ _ _ _) (by simp [Value.oneCell']) (by omega) (by omega) (by rw [World.size_alloc]; omega) ?_; intro v' wb hown' hgrow _; obtain ⟨g', cap', rfl⟩ := ownsRow_succ hown'; obtain ⟨hv1, hv2, hr2, hk2, hbb⟩ := hv.appended (by decide) hrow hna hnb hown' hgrow; have hc1 := hv1.cell; have hf1 := hv1.frozen; have hHb := ((hHa.alloc _).kept hgrow HR); have hHc := hHb.set (j := 0) (hHb.ne hv1 NU) (.slice (some ⟨g', 0, none⟩) (LL.length + 1) cap'))
                refine ⟨(kF0.trans kF2).trans (hk2.from _), Held.kpV hH8 hHc 9 10 rfl rfl rfl rfl, ⟨hHc, ?_⟩, Ba.trans hbb, (hK9.trans kF1).trans (hk2.from _)⟩
                rw [EQ]
                exact ⟨_, hv2, by rw [List.length_append, flat3_append]; exact hr2⟩
          case done3 =>
            rintro ys' W' rfl ⟨⟨hH8, hR8⟩, hB8, hK8⟩
            rw [valB_all, ← E] at hR8
            gi_wp2
            refine ⟨keepsFrom_mono hK8 (Nat.le_trans hz2 hz4), Held.kpV hH' (hH8.sub (M := [(ba, #[.int .i64 X, .int .i64 Y, .int .i64 n0, .int .i64 n1, .int .i64 n2, .int .i64 W, .int .i64 l0, .int .i64 l1, .int .i64 l2, .int .i64 h0, .int .i64 h1, .int .i64 h2], 27), (bd, #[.int .i64 dx, .int .i64 dy, .int .i64 3], 29), (bw7, #[.int .i64 mx, .int .i64 my], 23), (b1, #[.int .i64 l0], 3), (b2, #[.int .i64 h0], 3), (Bx, #[.int .i64 a], 3), (b3, #[.int .i64 l1], 3), (b4, #[.int .i64 h1], 3)]) (by simp)) 6 7 rfl rfl rfl rfl, ⟨hH8.sub (by simp), ?_⟩, hB'.trans hB8, hK'.trans hK8⟩
            rw [valB_snoc, List.flatMap_append, show [b].flatMap (sol2 X Y n0 n1 n2 l2 h2 px py dx dy a) = sol2 X Y n0 n1 n2 l2 h2 px py dx dy a b by simp]
            exact hR8
          case stop3 =>
            rintro c pre'' W' _ h
            exact h.elim
      case done2 =>
        rintro ys' W' rfl ⟨⟨hH', hR'⟩, hB', hK'⟩
        rw [valB_all] at hR'
        gi_wp2
        refine ⟨hK', Held.kpV hH (hH'.sub (M := [(ba, #[.int .i64 X, .int .i64 Y, .int .i64 n0, .int .i64 n1, .int .i64 n2, .int .i64 W, .int .i64 l0, .int .i64 l1, .int .i64 l2, .int .i64 h0, .int .i64 h1, .int .i64 h2], 27), (bd, #[.int .i64 dx, .int .i64 dy, .int .i64 3], 29), (bw7, #[.int .i64 mx, .int .i64 my], 23), (b1, #[.int .i64 l0], 3), (b2, #[.int .i64 h0], 3)]) (by simp)) 3 4 rfl rfl rfl rfl, ⟨hH'.sub (by simp), ?_⟩, hB.trans hB'⟩
        rw [valB_snoc, List.flatMap_append, show [a].flatMap (sol1 X Y n0 n1 n2 l1 l2 h1 h2 px py dx dy) = sol1 X Y n0 n1 n2 l1 l2 h1 h2 px py dx dy a by simp]
        exact hR'
      case stop2 =>
        rintro c pre' W' _ h
        exact h.elim
    case done =>
      rintro D ys W3 hD rfl ⟨⟨hH, hR⟩, hB⟩ hK
      rw [valB_all] at hR
      obtain ⟨v, hv, hrow⟩ := hR
      have cv := hv.cell
      gi_wp2
      refine ⟨by simp, .inl ⟨_, _, rfl, run_takeDeferred hK, ?_⟩⟩
      obtain ⟨ao, cap, rfl, -, hp⟩ := prow3_own (ownsRow_putObj hrow _ hK rfl)
      exact ⟨_, results_tmp rfl _ _ _, ⟨ao, cap, rfl, hp⟩, hB.trans (belowK_b (w := w) (Nat.le_refl _) W3 D _ _ (Nat.le_trans B2.out.size hD) hK rfl rfl)⟩
    case stop =>
      rintro D c pre W3 _ _ h _
      exact h.elim
end Go.Proofs.YtceejjamngplkaaDoor
