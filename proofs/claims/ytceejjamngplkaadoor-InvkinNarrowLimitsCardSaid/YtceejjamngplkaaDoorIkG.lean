/- Contracts of package invkin: the closure of Nearest, fold, Nearest; of the reference: Near. Conditions: joint values between -1000 and 1000. -/
import Derived.Test.YtceejjamngplkaaDoorIkE
import Derived.Test.YtceejjamngplkaaDoorIkH
namespace Go.Proofs.YtceejjamngplkaaDoor
open Go.ChangeShapes Go.WideShapes Go.ChangeAt Go.RowKit
set_option linter.unusedVariables false
set_option linter.unusedSimpArgs false
set_option maxRecDepth 100000
/-- The nearer of two, the earlier one at a tie. -/
def nr (q r x : J3) : J3 := if dst3 x q < dst3 r q then x else r
def nearL (q : J3) : List J3 → J3
  | [] => j0
  | x :: l => l.foldl (nr q) x

set_option maxHeartbeats 2000000 in
theorem near1_is (a b c d e f q0 q1 q2 : Int) (r0 r1 r2 : Int) (bq : Nat) (w : World) (h1 : B1000 (a, b, c)) (h2 : B1000 (d, e, f)) (hq : B1000 (q0, q1, q2)) (hr : Hid (nr (q0, q1, q2) (a, b, c) (d, e, f) = (r0, r1, r2)))
    (HQ : Hid (w.heap[bq]? = some (.cells #[.int .i64 q0, .int .i64 q1, .int .i64 q2] 25 (0, 0)))) :
    Calls Tryd.prog 40 #[.agg #[.int .i64 a, .int .i64 b, .int .i64 c], .agg #[.int .i64 d, .int .i64 e, .int .i64 f], .pointer (some ⟨bq, 0, none⟩)] w fun x w' => x = .returned (.agg #[.int .i64 r0, .int .i64 r1, .int .i64 r2]) ∧ Below w.heap.size w w' := by
  obtain ⟨m1, hm1⟩ : ∃ m, dst3 (d, e, f) (q0, q1, q2) = m := ⟨_, rfl⟩
  obtain ⟨m2, hm2⟩ : ∃ m, dst3 (a, b, c) (q0, q1, q2) = m := ⟨_, rfl⟩
  have HM1 := Lib.hid hm1
  have HM2 := Lib.hid hm2
  obtain ⟨t, ht⟩ : ∃ t, decide (m1 < m2) = t := ⟨_, rfl⟩
  have HT := Lib.hid ht
  have HR : Hid ((r0, r1, r2) = if t = true then (d, e, f) else (a, b, c)) := Lib.hid (by rw [← hr.out, ← ht]; unfold nr; rw [hm1, hm2]; simp only [decide_eq_true_eq])
  clear hm1 hm2 ht hr
  go_enter Tryd.func40, Tryd.ntmps40
  go_upto_region 1 with fail
  obtain ⟨W0, hW0⟩ : ∃ z, (((w.alloc (.cells #[.int .i64 a, .int .i64 b, .int .i64 c] 25)).alloc (.cells #[.int .i64 d, .int .i64 e, .int .i64 f] 25)).alloc (.cells #[.int .i64 0, .int .i64 0, .int .i64 0] 25)) = z := ⟨_, rfl⟩
  have HR0 : Hid (W0.heap[w.heap.size + 1 + 1]? = some (.cells #[.int .i64 0, .int .i64 0, .int .i64 0] 25 (0, 0))) := Lib.hid (by rw [← hW0]; exact blk_new _ _ _ (by simp))
  have HL : Hid (W0.heap[w.heap.size + 1]? = some (.cells #[.int .i64 d, .int .i64 e, .int .i64 f] 25 (0, 0))) := Lib.hid (by rw [← hW0]; exact blk_alloc (blk_new _ _ _ (by simp)) _)
  have HE : Hid (W0.heap[w.heap.size]? = some (.cells #[.int .i64 a, .int .i64 b, .int .i64 c] 25 (0, 0))) := Lib.hid (by rw [← hW0]; exact blk_alloc (blk_alloc (blk_new _ _ _ rfl) _) _)
  replace HQ : Hid (W0.heap[bq]? = some (.cells #[.int .i64 q0, .int .i64 q1, .int .i64 q2] 25 (0, 0))) := Lib.hid (by rw [← hW0]; exact blk_alloc (blk_alloc (blk_alloc HQ.out _) _) _)
  have B : Hid (Below w.heap.size w W0) := Lib.hid (by rw [← hW0]; go_grown)
  rw [hW0]
  clear hW0
  obtain ⟨x1, e1⟩ : ∃ a, w.heap.size = a := ⟨_, rfl⟩
  obtain ⟨x2, e2⟩ : ∃ a, w.heap.size + 1 = a := ⟨_, rfl⟩
  obtain ⟨x3, e3⟩ : ∃ a, w.heap.size + 1 + 1 = a := ⟨_, rfl⟩
  rw [e3, e2, e1]
  rw [e3] at HR0
  rw [e2] at HL
  rw [e1] at HE
  have NE := Lib.hid (show x2 ≠ x3 ∧ x1 ≠ x3 ∧ w.heap.size ≤ x3 by omega)
  clear e3 e2 e1
  obtain ⟨sp, hsp⟩ : ∃ sp : ToldS, sp = [none, none, none, none, none, none, some (eqS (.agg #[.int .i64 d, .int .i64 e, .int .i64 f])), some (eqS (.agg #[.int .i64 q0, .int .i64 q1, .int .i64 q2])), some (eqS (.int .i64 m1)), some (eqS (.agg #[.int .i64 a, .int .i64 b, .int .i64 c])), some (eqS (.agg #[.int .i64 q0, .int .i64 q1, .int .i64 q2])), some (eqS (.int .i64 m2)), some (eqS (.bool t))] := ⟨_, rfl⟩
  have s6 : sp.getD 6 none = some (eqS (.agg #[.int .i64 d, .int .i64 e, .int .i64 f])) := by rw [hsp]; rfl
  have s7 : sp.getD 7 none = some (eqS (.agg #[.int .i64 q0, .int .i64 q1, .int .i64 q2])) := by rw [hsp]; rfl
  have s8 : sp.getD 8 none = some (eqS (.int .i64 m1)) := by rw [hsp]; rfl
  have s9 : sp.getD 9 none = some (eqS (.agg #[.int .i64 a, .int .i64 b, .int .i64 c])) := by rw [hsp]; rfl
  have s10 : sp.getD 10 none = some (eqS (.agg #[.int .i64 q0, .int .i64 q1, .int .i64 q2])) := by rw [hsp]; rfl
  have s11 : sp.getD 11 none = some (eqS (.int .i64 m2)) := by rw [hsp]; rfl
  have s12 : sp.getD 12 none = some (eqS (.bool t)) := by rw [hsp]; rfl
  clear hsp
  refine (wpIn_wide (n := 0)).1 (region_allR (RtS sp) (rtS_keep sp) rfl rfl rfl (by kernel_rfl) (by kernel_rfl) (by kernel_rfl) ?_ ?_)
  · intro Q'
    refine obsR_cons ?_ ?_
    · intro T wx K hB hF hD hK
      have g4 : T[4]? = some (.pointer (some ⟨x2, 0, none⟩)) := hF 4 (freeM_of (by kernel_rfl))
      refine ob_yes (wanted_none rfl) ?_
      clear hF hD
      exact wp_load_row 25 (.tmp 4) rfl _ (eval_tmp g4) _ _ _ _ (blk_call HL.out hB) Tryd.underlying25 rfl (by kernel_rfl) (hK _ _ (Below.refl _ _) (rt_eqS s6))
    refine obsR_cons ?_ ?_
    · intro T wx K hB hF hD hK
      have g2 : T[2]? = some (.pointer (some ⟨bq, 0, none⟩)) := hF 2 (freeM_of (by kernel_rfl))
      refine ob_yes (wanted_none rfl) ?_
      clear hF hD
      exact wp_load_row 25 (.tmp 2) rfl _ (eval_tmp g2) _ _ _ _ (blk_call HQ.out hB) Tryd.underlying25 rfl (by kernel_rfl) (hK _ _ (Below.refl _ _) (rt_eqS s7))
    refine obsR_cons ?_ ?_
    · intro T wx K hB hF hD hK
      have g6 := get_eqS (hD 0 6 (by simp [Region.binds]) (by kernel_rfl)) s6
      have g7 := get_eqS (hD 1 7 (by simp [Region.binds]) (by kernel_rfl)) s7
      refine ob_yes (wanted_none rfl) ?_
      clear hF hD
      go_simp
      refine (dist_is d e f q0 q1 q2 m1 _ h2 hq HM1).mono ?_; rintro e w9 ⟨rfl, hb⟩
      exact hK _ _ hb (rt_eqS s8)
    refine obsR_cons ?_ ?_
    · intro T wx K hB hF hD hK
      have g3 : T[3]? = some (.pointer (some ⟨x1, 0, none⟩)) := hF 3 (freeM_of (by kernel_rfl))
      refine ob_yes (wanted_none rfl) ?_
      clear hF hD
      exact wp_load_row 25 (.tmp 3) rfl _ (eval_tmp g3) _ _ _ _ (blk_call HE.out hB) Tryd.underlying25 rfl (by kernel_rfl) (hK _ _ (Below.refl _ _) (rt_eqS s9))
    refine obsR_cons ?_ ?_
    · intro T wx K hB hF hD hK
      have g2 : T[2]? = some (.pointer (some ⟨bq, 0, none⟩)) := hF 2 (freeM_of (by kernel_rfl))
      refine ob_yes (wanted_none rfl) ?_
      clear hF hD
      exact wp_load_row 25 (.tmp 2) rfl _ (eval_tmp g2) _ _ _ _ (blk_call HQ.out hB) Tryd.underlying25 rfl (by kernel_rfl) (hK _ _ (Below.refl _ _) (rt_eqS s10))
    refine obsR_cons ?_ ?_
    · intro T wx K hB hF hD hK
      have g9 := get_eqS (hD 3 9 (by simp [Region.binds]) (by kernel_rfl)) s9
      have g10 := get_eqS (hD 4 10 (by simp [Region.binds]) (by kernel_rfl)) s10
      refine ob_yes (wanted_none rfl) ?_
      clear hF hD
      go_simp
      refine (dist_is a b c q0 q1 q2 m2 _ h1 hq HM2).mono ?_; rintro e w9 ⟨rfl, hb⟩
      exact hK _ _ hb (rt_eqS s11)
    refine obsR_cons ?_ ?_
    · intro T wx K hB hF hD hK
      have g8 := get_eqS (hD 2 8 (by simp [Region.binds]) (by kernel_rfl)) s8
      have g11 := get_eqS (hD 5 11 (by simp [Region.binds]) (by kernel_rfl)) s11
      refine ob_yes (wanted_none rfl) ?_
      clear hF hD
      go_simp
      exact hK _ _ (Below.refl _ _) (rt_eqS' s12 (congrArg Value.bool HT.out))
    exact obsR_nil
  · intro T1 W1 hb8 hF hs hD
    have g6 := get_eqS (hD 0 6 (by decide) (by kernel_rfl)) s6
    have g7 := get_eqS (hD 1 7 (by decide) (by kernel_rfl)) s7
    have g8 := get_eqS (hD 2 8 (by decide) (by kernel_rfl)) s8
    have g9 := get_eqS (hD 3 9 (by decide) (by kernel_rfl)) s9
    have g10 := get_eqS (hD 4 10 (by decide) (by kernel_rfl)) s10
    have g11 := get_eqS (hD 5 11 (by decide) (by kernel_rfl)) s11
    have g12 := get_eqS (hD 6 12 (by decide) (by kernel_rfl)) s12
    have hT9 := conc [(6, .agg #[.int .i64 d, .int .i64 e, .int .i64 f]), (7, .agg #[.int .i64 q0, .int .i64 q1, .int .i64 q2]), (8, .int .i64 m1), (9, .agg #[.int .i64 a, .int .i64 b, .int .i64 c]), (10, .agg #[.int .i64 q0, .int .i64 q1, .int .i64 q2]), (11, .int .i64 m2), (12, .bool t)] hs hF (by simp only [List.forall_mem_cons]; exact ⟨g6, g7, g8, g9, g10, g11, g12, fun p hp => absurd hp List.not_mem_nil⟩) (by kernel_rfl)
    simp only [List.foldl, List.setIfInBounds_toArray, List.set_cons_succ, List.set_cons_zero] at hT9
    subst hT9
    clear hF hD hs g6 g7 g8 g9 g10 g11 g12 s6 s7 s8 s9 s10 s11 s12
    have HL1 := blk_call HL.out hb8
    have HE1 := blk_call HE.out hb8
    have HR1 := blk_call HR0.out hb8
    have B1 := belT B.out hb8
    clear hb8 HL HE HR0 HQ B
    have f0 := blk_fz HR1 0
    have f1 := blk_fz HR1 1
    have f2 := blk_fz HR1 2
    have y0 := blk_cell HR1 0 _ rfl
    have y1 := blk_cell HR1 1 _ rfl
    have y2 := blk_cell HR1 2 _ rfl
    have n3 := NE.out.2.2
    cases t
    · have c0 := blk_cell HE1 0 _ rfl
      have c1 := blk_cell HE1 1 _ rfl
      have c2 := blk_cell HE1 2 _ rfl
      go_wp2_with fail
      have Z := blk_set (j := 2) (blk_set (j := 1) (blk_set (j := 0) HR1 (.int .i64 a)) (.int .i64 b)) (.int .i64 c)
      have BZ := belS (p := ⟨x3, 2, none⟩) (belS (p := ⟨x3, 1, none⟩) (belS (p := ⟨x3, 0, none⟩) B1 n3 (.int .i64 a)) n3 (.int .i64 b)) n3 (.int .i64 c)
      generalize ((W1.setCell ⟨x3, 0, none⟩ (.int .i64 a)).setCell ⟨x3, 1, none⟩ (.int .i64 b)).setCell ⟨x3, 2, none⟩ (.int .i64 c) = W2 at *
      have z0 := blk_cell Z 0 _ rfl
      have z1 := blk_cell Z 1 _ rfl
      have z2 := blk_cell Z 2 _ rfl
      refine bodyPost_ret (v := .agg #[.int .i64 a, .int .i64 b, .int .i64 c]) (by simp [results, Tryd.results40, go_sem, z0, z1, z2]) rfl ?_
      have hr := HR.out
      simp at hr
      obtain ⟨rfl, rfl, rfl⟩ := hr
      exact ⟨rfl, BZ⟩
    · have c0 := blk_cell HL1 0 _ rfl
      have c1 := blk_cell HL1 1 _ rfl
      have c2 := blk_cell HL1 2 _ rfl
      go_wp2_with fail
      have Z := blk_set (j := 2) (blk_set (j := 1) (blk_set (j := 0) HR1 (.int .i64 d)) (.int .i64 e)) (.int .i64 f)
      have BZ := belS (p := ⟨x3, 2, none⟩) (belS (p := ⟨x3, 1, none⟩) (belS (p := ⟨x3, 0, none⟩) B1 n3 (.int .i64 d)) n3 (.int .i64 e)) n3 (.int .i64 f)
      generalize ((W1.setCell ⟨x3, 0, none⟩ (.int .i64 d)).setCell ⟨x3, 1, none⟩ (.int .i64 e)).setCell ⟨x3, 2, none⟩ (.int .i64 f) = W2 at *
      have z0 := blk_cell Z 0 _ rfl
      have z1 := blk_cell Z 1 _ rfl
      have z2 := blk_cell Z 2 _ rfl
      refine bodyPost_ret (v := .agg #[.int .i64 d, .int .i64 e, .int .i64 f]) (by simp [results, Tryd.results40, go_sem, z0, z1, z2]) rfl ?_
      have hr := HR.out
      simp at hr
      obtain ⟨rfl, rfl, rfl⟩ := hr
      exact ⟨rfl, BZ⟩
theorem nr_b {q r x : J3} (hr : B1000 r) (hx : B1000 x) : B1000 (nr q r x) := by unfold nr; split <;> assumption
theorem fold_b {q : J3} {l : List J3} {f : J3} (hf : B1000 f) (hl : ∀ x ∈ l, B1000 x) : B1000 (l.foldl (nr q) f) := by
  induction l generalizing f with
  | nil => exact hf
  | cons x l ih => exact ih (nr_b hf (hl x (by simp))) (fun y hy => hl y (by simp [hy]))
theorem take_fold {q : J3} {l : List J3} {f : J3} {k : Nat} (hk : k < l.length) : (l.take (k + 1)).foldl (nr q) f = nr q ((l.take k).foldl (nr q) f) (l.getD k j0) := by
  rw [List.take_add_one, List.foldl_append, List.getD_eq_getElem?_getD, List.getElem?_eq_getElem hk]
  rfl
theorem getD_mem {l : List J3} {k : Nat} (hk : k < l.length) : l.getD k j0 ∈ l := by
  rw [List.getD_eq_getElem?_getD, List.getElem?_eq_getElem hk]
  exact List.getElem_mem hk
set_option maxHeartbeats 2000000 in
theorem fold_is (ao : Option Addr) (n cap : Nat) (l : List J3) (a b c q0 q1 q2 r0 r1 r2 : Int) (bq : Nat) (w : World) (hn : l.length = n) (hl : l.length ≤ 1000000) (hP : PRow3 w ao l) (hA : Hid (∀ x ∈ l, B1000 x)) (hf : Hid (B1000 (a, b, c))) (hq : B1000 (q0, q1, q2)) (hr : Hid (l.foldl (nr (q0, q1, q2)) (a, b, c) = (r0, r1, r2)))
    (HQ : Hid (w.heap[bq]? = some (.cells #[.int .i64 q0, .int .i64 q1, .int .i64 q2] 25 (0, 0)))) :
    Calls Tryd.prog 41 #[.slice ao n cap, .agg #[.int .i64 a, .int .i64 b, .int .i64 c], .func (.func 40) #[] #[.pointer (some ⟨bq, 0, none⟩)]] w fun x w' => x = .returned (.agg #[.int .i64 r0, .int .i64 r1, .int .i64 r2]) ∧ Below w.heap.size w w' := by
  subst hn
  have hqb := blk_lt HQ.out
  go_enter Tryd.func41, Tryd.ntmps41
  go_wp2_with fail
  obtain ⟨W0, hW0⟩ : ∃ z, (((w.alloc (.cells #[.int .i64 a, .int .i64 b, .int .i64 c] 25)).alloc (.cells #[.int .i64 0, .int .i64 0, .int .i64 0] 25)).alloc (.cells #[.int .i64 a, .int .i64 b, .int .i64 c] 25)) = z := ⟨_, rfl⟩
  have HV : Hid (W0.heap[w.heap.size + 1 + 1]? = some (.cells #[.int .i64 a, .int .i64 b, .int .i64 c] 25 (0, 0))) := Lib.hid (by rw [← hW0]; exact blk_new _ _ _ (by simp))
  have HR : Hid (W0.heap[w.heap.size + 1]? = some (.cells #[.int .i64 0, .int .i64 0, .int .i64 0] 25 (0, 0))) := Lib.hid (by rw [← hW0]; exact blk_alloc (blk_new _ _ _ (by simp)) _)
  replace HQ : Hid (W0.heap[bq]? = some (.cells #[.int .i64 q0, .int .i64 q1, .int .i64 q2] 25 (0, 0))) := Lib.hid (by rw [← hW0]; exact blk_alloc (blk_alloc (blk_alloc HQ.out _) _) _)
  have B : Hid (Below w.heap.size w W0) := Lib.hid (by rw [← hW0]; go_grown)
  have HP : Hid (PRow3 W0 ao l) := Lib.hid (by rw [← hW0]; exact prow3_alloc (prow3_alloc (prow3_alloc hP _) _) _)
  rw [hW0]
  clear hW0
  obtain ⟨x1, e1⟩ : ∃ a, w.heap.size = a := ⟨_, rfl⟩
  obtain ⟨x2, e2⟩ : ∃ a, w.heap.size + 1 = a := ⟨_, rfl⟩
  obtain ⟨x3, e3⟩ : ∃ a, w.heap.size + 1 + 1 = a := ⟨_, rfl⟩
  have HPw := Lib.hid hP
  rw [e3, e2, e1]
  rw [e3] at HV
  rw [e2] at HR
  have NE := Lib.hid (show x3 ≠ x2 ∧ x3 ≠ bq ∧ w.heap.size ≤ x3 ∧ w.heap.size ≤ x2 by omega)
  clear e3 e2 e1 hP hqb
  go_loopw [13] (fun i wr => ∃ (k : Nat) (s0 s1 s2 : Int), k ≤ l.length ∧ i = .int .i64 k ∧ Hid ((l.take k).foldl (nr (q0, q1, q2)) (a, b, c) = (s0, s1, s2)) ∧ Hid (wr.heap[x3]? = some (.cells #[.int .i64 s0, .int .i64 s1, .int .i64 s2] 25 (0, 0))) ∧ Hid (wr.heap[x2]? = some (.cells #[.int .i64 0, .int .i64 0, .int .i64 0] 25 (0, 0))) ∧ Hid (wr.heap[bq]? = some (.cells #[.int .i64 q0, .int .i64 q1, .int .i64 q2] 25 (0, 0))) ∧ Hid (Below w.heap.size w wr)) (fun i _ => l.length - (intOf i).toNat)
  case atStart => exact ⟨0, a, b, c, Nat.zero_le _, rfl, Lib.hid rfl, HV, HR, HQ, B⟩
  case round =>
    obtain ⟨k, s0, s1, s2, hk, rfl, HS, HV1, HR1, HQ1, HB1⟩ := hrel
    clear HV HR HQ B HP
    by_cases hlt : k < l.length
    · obtain ⟨b', o', rfl, c1, c2, c3⟩ := prow3_below HPw.out (HB1.out) k hlt
      have hki : (k : Int) < l.length := by omega
      have BX := Lib.hid (hA.out _ (getD_mem hlt))
      have TF := Lib.hid (take_fold (q := (q0, q1, q2)) (f := (a, b, c)) hlt)
      have BS : Hid (B1000 (s0, s1, s2)) := Lib.hid (by rw [← HS.out]; exact fold_b hf.out (fun x hx => hA.out x (List.mem_of_mem_take hx)))
      rw [HS.out] at TF
      generalize l.getD k j0 = ek at *
      obtain ⟨x, y, z⟩ := ek
      obtain ⟨t0, t1, t2, ht⟩ : ∃ t0 t1 t2, nr (q0, q1, q2) (s0, s1, s2) (x, y, z) = (t0, t1, t2) := ⟨_, _, _, rfl⟩
      have HT := Lib.hid ht
      rw [ht] at TF
      clear ht
      have lb := World.block_lt_of_cell? wr _ c1
      have v0 := blk_cell HV1.out 0 _ rfl
      have v1 := blk_cell HV1.out 1 _ rfl
      have v2 := blk_cell HV1.out 2 _ rfl
      have lv := blk_lt HV1.out
      have HX := Lib.hid (blk_new wr (.cells #[.int .i64 x, .int .i64 y, .int .i64 z] 25) _ rfl)
      have hV' := Lib.hid (blk_alloc HV1.out (.cells #[.int .i64 x, .int .i64 y, .int .i64 z] 25))
      have hR' := Lib.hid (blk_alloc HR1.out (.cells #[.int .i64 x, .int .i64 y, .int .i64 z] 25))
      have hQ' := Lib.hid (blk_alloc HQ1.out (.cells #[.int .i64 x, .int .i64 y, .int .i64 z] 25))
      have hB' := Lib.hid (belA HB1.out (.cells #[.int .i64 x, .int .i64 y, .int .i64 z] 25))
      go_wp2_with (go_at_call 40; refine (near1_is s0 s1 s2 x y z q0 q1 q2 t0 t1 t2 bq _ BS.out BX.out hq HT hQ').mono ?_; rintro e w2 ⟨rfl, hb⟩; have kV := Lib.hid (blk_call hV'.out hb); have kR := Lib.hid (blk_call hR'.out hb); have kQ := Lib.hid (blk_call hQ'.out hb); have kB := Lib.hid (belT hB'.out hb); clear hb; have z0 := blk_cell kV.out 0 _ rfl; have z1 := blk_cell kV.out 1 _ rfl; have z2 := blk_cell kV.out 2 _ rfl; have f0 := blk_fz kV.out 0; have f1 := blk_fz kV.out 1; have f2 := blk_fz kV.out 2)
      exact ⟨⟨k + 1, t0, t1, t2, by omega, by go_num, TF, Lib.hid (blk_set (j := 2) (blk_set (j := 1) (blk_set (j := 0) kV.out _) _) _), Lib.hid (blk_other (blk_other (blk_other kR.out NE.out.1 _) NE.out.1 _) NE.out.1 _), Lib.hid (blk_other (blk_other (blk_other kQ.out NE.out.2.1 _) NE.out.2.1 _) NE.out.2.1 _), Lib.hid (belS (belS (belS kB.out NE.out.2.2.1 _) NE.out.2.2.1 _) NE.out.2.2.1 _)⟩, by simp [intOf]; omega⟩
    · obtain rfl : k = l.length := by omega
      have he := HS.out
      rw [List.take_length, hr.out] at he
      simp only [Prod.mk.injEq] at he
      obtain ⟨rfl, rfl, rfl⟩ := he
      have v0 := blk_cell HV1.out 0 _ rfl
      have v1 := blk_cell HV1.out 1 _ rfl
      have v2 := blk_cell HV1.out 2 _ rfl
      have y0 := blk_cell HR1.out 0 _ rfl
      have y1 := blk_cell HR1.out 1 _ rfl
      have y2 := blk_cell HR1.out 2 _ rfl
      have f0 := blk_fz HR1.out 0
      have f1 := blk_fz HR1.out 1
      have f2 := blk_fz HR1.out 2
      have HRR := Lib.hid HR1.out
      clear HS hr
      go_wp2_with fail
      have Z := blk_set (j := 2) (blk_set (j := 1) (blk_set (j := 0) HRR.out (.int .i64 r0)) (.int .i64 r1)) (.int .i64 r2)
      have n3 := NE.out.2.2.2
      have BZ := belS (p := ⟨x2, 2, none⟩) (belS (p := ⟨x2, 1, none⟩) (belS (p := ⟨x2, 0, none⟩) HB1.out n3 (.int .i64 r0)) n3 (.int .i64 r1)) n3 (.int .i64 r2)
      generalize ((wr.setCell ⟨x2, 0, none⟩ (.int .i64 r0)).setCell ⟨x2, 1, none⟩ (.int .i64 r1)).setCell ⟨x2, 2, none⟩ (.int .i64 r2) = W2 at *
      have z0 := blk_cell Z 0 _ rfl
      have z1 := blk_cell Z 1 _ rfl
      have z2 := blk_cell Z 2 _ rfl
      refine bodyPost_ret (v := .agg #[.int .i64 r0, .int .i64 r1, .int .i64 r2]) (by simp [results, Tryd.results41, go_sem, z0, z1, z2]) rfl ?_
      exact ⟨rfl, BZ⟩
def rowS3 (l : List J3) : StP := ⟨fun v w => ∃ ao c, v = .slice ao l.length c ∧ PRow3 w ao l, fun _ _ _ ⟨ao, c, h, p⟩ hb => ⟨ao, c, h, prow3_below p hb⟩⟩
theorem prow3_tail {w : World} {b o : Nat} {x : J3} {l : List J3} (h : PRow3 w (some ⟨b, o, none⟩) (x :: l)) : PRow3 w (some ⟨b, o + 3, none⟩) l := fun i hi => by
  obtain ⟨b', o', e, c1, c2, c3⟩ := h (i + 1) (by simp; omega)
  cases e
  refine ⟨b, o + 3, rfl, ?_, ?_, ?_⟩
  · rw [show o + 3 + i * 3 = o + (i + 1) * 3 by omega]; exact c1
  · rw [show o + 3 + i * 3 + 1 = o + (i + 1) * 3 + 1 by omega]; exact c2
  · rw [show o + 3 + i * 3 + 2 = o + (i + 1) * 3 + 2 by omega]; exact c3
set_option maxHeartbeats 2000000 in
theorem nearest_is (ao : Option Addr) (n cap : Nat) (l : List J3) (q0 q1 q2 r0 r1 r2 : Int) (w : World) (hn : l.length = n) (hl : l.length ≤ 1000000) (hc : n ≤ cap) (hcm : cap ≤ 9223372036854775807) (hP : PRow3 w ao l) (hA : Hid (∀ x ∈ l, B1000 x)) (hq : B1000 (q0, q1, q2)) (hr : Hid (nearL (q0, q1, q2) l = (r0, r1, r2))) :
    Calls Tryd.prog 19 #[.slice ao n cap, .agg #[.int .i64 q0, .int .i64 q1, .int .i64 q2]] w fun x w' => x = .returned (.tuple #[.agg #[.int .i64 r0, .int .i64 r1, .int .i64 r2], .bool (!l.isEmpty)]) ∧ Below w.heap.size w w' := by
  subst hn
  cases l with
  | nil =>
    have he := hr.out
    simp only [nearL, Prod.mk.injEq] at he
    obtain ⟨rfl, rfl, rfl⟩ := he
    go_enter Tryd.func19, Tryd.ntmps19
    go_wp2_with fail
    have Z := blk_new (w.alloc (.cells #[.int .i64 q0, .int .i64 q1, .int .i64 q2] 25)) (.cells #[.int .i64 0, .int .i64 0, .int .i64 0] 25) (w.heap.size + 1) (by simp)
    have BZ : Below w.heap.size w ((w.alloc (.cells #[.int .i64 q0, .int .i64 q1, .int .i64 q2] 25)).alloc (.cells #[.int .i64 0, .int .i64 0, .int .i64 0] 25)) := by go_grown
    generalize (w.alloc (.cells #[.int .i64 q0, .int .i64 q1, .int .i64 q2] 25)).alloc (.cells #[.int .i64 0, .int .i64 0, .int .i64 0] 25) = W2 at *
    have z0 := blk_cell Z 0 _ rfl
    have z1 := blk_cell Z 1 _ rfl
    have z2 := blk_cell Z 2 _ rfl
    refine bodyPost_ret (v := .tuple #[.agg #[.int .i64 0, .int .i64 0, .int .i64 0], .bool false]) (by simp [results, Tryd.results19, go_sem, z0, z1, z2]) rfl ?_
    exact ⟨rfl, BZ⟩
  | cons x l =>
    obtain ⟨a, b, c⟩ := x
    have hA1 : Hid (∀ x ∈ l, B1000 x) := Lib.hid (fun x hx => hA.out x (by simp [hx]))
    have hf : Hid (B1000 (a, b, c)) := Lib.hid (hA.out _ (by simp))
    have hr1 : Hid (l.foldl (nr (q0, q1, q2)) (a, b, c) = (r0, r1, r2)) := Lib.hid hr.out
    clear hr hA
    obtain ⟨b', o', rfl, c1, c2, c3⟩ := hP 0 (by simp)
    have PT := Lib.hid (prow3_tail hP)
    have hcl : l.length + 1 ≤ cap := by simpa using hc
    have hll : l.length ≤ 999999 := by simp at hl; omega
    clear hP hc hl
    simp only [List.length_cons, Nat.zero_mul, Nat.add_zero] at *
    have lb := World.block_lt_of_cell? w _ c1
    go_enter Tryd.func19, Tryd.ntmps19
    go_upto_region 4 with fail
    simp only [List.getD_cons_zero] at c1 c2 c3
    obtain ⟨W0, hW0⟩ : ∃ z, ((w.alloc (.cells #[.int .i64 q0, .int .i64 q1, .int .i64 q2] 25)).alloc (.cells #[.int .i64 0, .int .i64 0, .int .i64 0] 25)) = z := ⟨_, rfl⟩
    have HR : Hid (W0.heap[w.heap.size + 1]? = some (.cells #[.int .i64 0, .int .i64 0, .int .i64 0] 25 (0, 0))) := Lib.hid (by rw [← hW0]; exact blk_new _ _ _ (by simp))
    have HQ : Hid (W0.heap[w.heap.size]? = some (.cells #[.int .i64 q0, .int .i64 q1, .int .i64 q2] 25 (0, 0))) := Lib.hid (by rw [← hW0]; exact blk_alloc (blk_new _ _ _ rfl) _)
    have B : Hid (Below w.heap.size w W0) := Lib.hid (by rw [← hW0]; go_grown)
    have PT0 : Hid (PRow3 W0 (some ⟨b', o' + 3, none⟩) l) := Lib.hid (by rw [← hW0]; exact prow3_alloc (prow3_alloc PT.out _) _)
    have d1 : W0.cell? ⟨b', o', none⟩ = some (.int .i64 a) := (B.out.cell (World.block_lt_of_cell? w _ c1)).trans c1
    have d2 : W0.cell? ⟨b', o' + 1, none⟩ = some (.int .i64 b) := (B.out.cell (World.block_lt_of_cell? w _ c2)).trans c2
    have d3 : W0.cell? ⟨b', o' + 2, none⟩ = some (.int .i64 c) := (B.out.cell (World.block_lt_of_cell? w _ c3)).trans c3
    rw [hW0]
    clear hW0 c1 c2 c3 lb PT
    obtain ⟨x1, e1⟩ : ∃ a, w.heap.size = a := ⟨_, rfl⟩
    obtain ⟨x2, e2⟩ : ∃ a, w.heap.size + 1 = a := ⟨_, rfl⟩
    rw [e2, e1]
    rw [e2] at HR
    rw [e1] at HQ
    have NE := Lib.hid (show w.heap.size ≤ x2 by omega)
    clear e2 e1
    obtain ⟨sp, hsp⟩ : ∃ sp : ToldS, sp = [none, none, none, none, none, none, none, none, none, none, none, none, some (eqS (.slice (some ⟨b', o', none⟩) (l.length + 1) cap)), some (rowS3 l), some (eqS (.slice (some ⟨b', o', none⟩) (l.length + 1) cap)), some (eqS (.pointer (some ⟨b', o', none⟩))), some (eqS (.agg #[.int .i64 a, .int .i64 b, .int .i64 c])), some (eqS (.func (.func 40) #[] #[.pointer (some ⟨x1, 0, none⟩)])), some (eqS (.agg #[.int .i64 r0, .int .i64 r1, .int .i64 r2]))] := ⟨_, rfl⟩
    have s12 : sp.getD 12 none = some (eqS (.slice (some ⟨b', o', none⟩) (l.length + 1) cap)) := by rw [hsp]; rfl
    have s13 : sp.getD 13 none = some (rowS3 l) := by rw [hsp]; rfl
    have s14 : sp.getD 14 none = some (eqS (.slice (some ⟨b', o', none⟩) (l.length + 1) cap)) := by rw [hsp]; rfl
    have s15 : sp.getD 15 none = some (eqS (.pointer (some ⟨b', o', none⟩))) := by rw [hsp]; rfl
    have s16 : sp.getD 16 none = some (eqS (.agg #[.int .i64 a, .int .i64 b, .int .i64 c])) := by rw [hsp]; rfl
    have s17 : sp.getD 17 none = some (eqS (.func (.func 40) #[] #[.pointer (some ⟨x1, 0, none⟩)])) := by rw [hsp]; rfl
    have s18 : sp.getD 18 none = some (eqS (.agg #[.int .i64 r0, .int .i64 r1, .int .i64 r2])) := by rw [hsp]; rfl
    clear hsp
    refine (wpIn_wide (n := 0)).1 (region_headR (RtS sp) (rtS_keep sp) 7 rfl rfl rfl (by kernel_rfl) (by decide) (by kernel_rfl) (by kernel_rfl) (by kernel_rfl) ?_ ?_)
    · intro Q'; show ObsR _ _ _ _ _ _ _ _ (List.take _ _); simp only [List.take_succ_cons, List.take_zero]
      refine obsR_cons ?_ ?_
      · intro T wx K hB hF hD hK
        have g0 : T[0]? = some (.slice (some ⟨b', o', none⟩) (l.length + 1) cap) := hF 0 (freeM_of (by kernel_rfl))
        refine ob_yes (wanted_none rfl) ?_
        clear hF hD
        go_simp
        exact hK _ _ (Below.refl _ _) (rt_eqS s12)
      refine obsR_cons ?_ ?_
      · intro T wx K hB hF hD hK
        have g12 := get_eqS (hD 0 12 (by simp [Region.binds]) (by kernel_rfl)) s12
        refine ob_yes (wanted_none rfl) ?_
        clear hF hD
        go_simp
        rw [if_pos (by omega)]
        exact hK _ _ (Below.refl _ _) (rt_S s13 ⟨_, _, rfl, by by_cases hz : cap = 1 <;> simp only [hz, if_true, if_false] <;> first | exact prow3_below PT0.out hB | (have h0 : l = [] := List.length_eq_zero_iff.1 (by omega); subst h0; exact prow3_nil _ _)⟩)
      refine obsR_cons ?_ ?_
      · intro T wx K hB hF hD hK
        have g0 : T[0]? = some (.slice (some ⟨b', o', none⟩) (l.length + 1) cap) := hF 0 (freeM_of (by kernel_rfl))
        refine ob_yes (wanted_none rfl) ?_
        clear hF hD
        go_simp
        exact hK _ _ (Below.refl _ _) (rt_eqS s14)
      refine obsR_cons ?_ ?_
      · intro T wx K hB hF hD hK
        have g14 := get_eqS (hD 2 14 (by simp [Region.binds]) (by kernel_rfl)) s14
        refine ob_yes (wanted_none rfl) ?_
        clear hF hD
        go_simp
        exact hK _ _ (Below.refl _ _) (rt_eqS s15)
      refine obsR_cons ?_ ?_
      · intro T wx K hB hF hD hK
        have g15 := get_eqS (hD 3 15 (by simp [Region.binds]) (by kernel_rfl)) s15
        refine ob_yes (wanted_none rfl) ?_
        clear hF hD
        have k1 := (hB.cell (World.block_lt_of_cell? W0 _ d1)).trans d1
        have k2 := (hB.cell (World.block_lt_of_cell? W0 _ d2)).trans d2
        have k3 := (hB.cell (World.block_lt_of_cell? W0 _ d3)).trans d3
        go_simp
        exact hK _ _ (Below.refl _ _) (rt_eqS s16)
      refine obsR_cons ?_ ?_
      · intro T wx K hB hF hD hK
        have g6 : T[6]? = some (.func (.func 40) #[] #[.pointer (some ⟨x1, 0, none⟩)]) := hF 6 (freeM_of (by kernel_rfl))
        refine ob_yes (wanted_none rfl) ?_
        clear hF hD
        go_simp
        exact hK _ _ (Below.refl _ _) (rt_eqS s17)
      refine obsR_cons ?_ ?_
      · intro T wx K hB hF hD hK
        obtain ⟨v13, g13, p13⟩ := getS (hD 1 13 (by simp [Region.binds]) (by kernel_rfl)) s13
        have g16 := get_eqS (hD 4 16 (by simp [Region.binds]) (by kernel_rfl)) s16
        have g17 := get_eqS (hD 5 17 (by simp [Region.binds]) (by kernel_rfl)) s17
        refine ob_yes (wanted_none rfl) ?_
        clear hF hD
        obtain ⟨so, sc, rfl, hp⟩ := p13
        go_simp
        refine (fold_is so _ sc l a b c q0 q1 q2 r0 r1 r2 x1 _ rfl (by omega) hp hA1 hf hq hr1 (Lib.hid (blk_call HQ.out hB))).mono ?_; rintro e w9 ⟨rfl, hb⟩
        exact hK _ _ hb (rt_eqS s18)
      exact obsR_nil
    · intro T9 w8 hb8 hF hs hD
      have g12 := get_eqS (hD 0 12 (by decide) (by kernel_rfl)) s12
      obtain ⟨v13, g13, p13⟩ := getS (hD 1 13 (by decide) (by kernel_rfl)) s13
      have g14 := get_eqS (hD 2 14 (by decide) (by kernel_rfl)) s14
      have g15 := get_eqS (hD 3 15 (by decide) (by kernel_rfl)) s15
      have g16 := get_eqS (hD 4 16 (by decide) (by kernel_rfl)) s16
      have g17 := get_eqS (hD 5 17 (by decide) (by kernel_rfl)) s17
      have g18 := get_eqS (hD 6 18 (by decide) (by kernel_rfl)) s18
      have hT9 := conc [(12, .slice (some ⟨b', o', none⟩) (l.length + 1) cap), (13, v13), (14, .slice (some ⟨b', o', none⟩) (l.length + 1) cap), (15, .pointer (some ⟨b', o', none⟩)), (16, .agg #[.int .i64 a, .int .i64 b, .int .i64 c]), (17, .func (.func 40) #[] #[.pointer (some ⟨x1, 0, none⟩)]), (18, .agg #[.int .i64 r0, .int .i64 r1, .int .i64 r2])] hs hF (by simp only [List.forall_mem_cons]; exact ⟨g12, g13, g14, g15, g16, g17, g18, fun p hp => absurd hp List.not_mem_nil⟩) (by kernel_rfl)
      simp only [List.foldl, List.setIfInBounds_toArray, List.set_cons_succ, List.set_cons_zero] at hT9
      subst hT9
      clear hF hD hs g12 g13 g14 g15 g16 g17 g18 s12 s13 s14 s15 s16 s17 s18
      show wpOpsIn _ _ _ _ _ [7, 8] _ _
      refine tail_store rfl rfl rfl rfl rfl 25 (.tmp 4) (.tmp 18) rfl rfl x2 #[.int .i64 r0, .int .i64 r1, .int .i64 r2] rfl rfl _ _ (blk_call HR.out hb8) (by kernel_rfl) rfl (by kernel_rfl) ?_
      have HR1 := Lib.hid (setRow_heap w8 x2 _ #[.int .i64 r0, .int .i64 r1, .int .i64 r2] _ _ (blk_call HR.out hb8))
      have B1 := Lib.hid (below_setRow7 (belT B.out hb8) NE.out #[.int .i64 r0, .int .i64 r1, .int .i64 r2])
      refine tail_one rfl rfl rfl rfl rfl (by intro c e; cases e) ?_
      go_simp
      simp only [wpOpsIn]
      generalize w8.setRow x2 #[.int .i64 r0, .int .i64 r1, .int .i64 r2] = W1 at *
      have z0 := blk_cell HR1.out 0 _ rfl
      have z1 := blk_cell HR1.out 1 _ rfl
      have z2 := blk_cell HR1.out 2 _ rfl
      go_wp2_with fail
      refine bodyPost_ret (v := .tuple #[.agg #[.int .i64 r0, .int .i64 r1, .int .i64 r2], .bool true]) (by simp [results, Tryd.results19, go_sem, z0, z1, z2]) rfl ?_
      exact ⟨rfl, B1.out⟩
end Go.Proofs.YtceejjamngplkaaDoor
