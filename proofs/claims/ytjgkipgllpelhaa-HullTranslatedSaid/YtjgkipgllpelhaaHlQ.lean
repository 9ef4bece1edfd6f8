/- Contracts of has of the laws, of the reference's Edge and Has. Condition: the slice reads as the list says; the coordinates are bounded. -/
import Derived.Test.YtjgkipgllpelhaaHlP
namespace Go.Proofs.Ytjgkipgllpelhaa
open Go.ChangeShapes Go.WideShapes Go.ChangeAt Go.RowKit
set_option linter.unusedVariables false
set_option linter.unusedSimpArgs false

set_option maxHeartbeats 2000000 in
theorem has_is (ao : Option Addr) (n cap : Nat) (x y : Int) (l : List (Int × Int)) (t : Bool) (w : World) (hn : l.length = n) (ht : Hid (decide ((x, y) ∈ l) = t)) (hl : l.length ≤ 1000000) (hP : PRow w ao l) :
    Calls Try.prog 22 #[.slice ao n cap, .agg #[.int .i64 x, .int .i64 y]] w fun e w' => e = .returned (.bool t) ∧ Below w.heap.size w w' := by
  subst hn
  have HP := Lib.hid hP
  clear hP
  go_enter Try.func22, Try.ntmps22
  go_wp2
  go_loopw [5] (fun i wr => ∃ k : Nat, k ≤ l.length ∧ i = .int .i64 k ∧ Hid (∀ j, j < k → gp l j ≠ (x, y)) ∧ Below w.heap.size w wr ∧ wr.cell? ⟨w.heap.size, 0, none⟩ = some (.int .i64 x) ∧ wr.cell? ⟨w.heap.size, 1, none⟩ = some (.int .i64 y)) (fun i _ => l.length - (intOf i).toNat)
  case atStart => exact ⟨0, Nat.zero_le _, rfl, Lib.hid (fun j hj => by omega), belA (Below.refl _ _) _, cbx' _ _ _ _ 0 _ rfl rfl, cbx' _ _ _ _ 1 _ rfl rfl⟩
  case round =>
    obtain ⟨k, hk, rfl, hE, hB, d3, d4⟩ := hrel
    by_cases hlt : k < l.length
    · obtain ⟨b, o, rfl, c1, c2⟩ := prow_at HP.out hlt
      have d1 := (hB.cell (World.block_lt_of_cell? w _ c1)).trans c1
      have d2 := (hB.cell (World.block_lt_of_cell? w _ c2)).trans c2
      have hki : (k : Int) < l.length := by omega
      have HB := Lib.hid hB
      have HEK := Lib.hid (fun (h : ¬ (cx l k = x ∧ cy l k = y)) => (fun j hj => by
        by_cases e : j = k
        · subst e
          intro q
          exact h ⟨congrArg Prod.fst q, congrArg Prod.snd q⟩
        · exact hE.out j (by omega) : ∀ j, j < k + 1 → gp l j ≠ (x, y)))
      have HYE := Lib.hid (fun (h1 : cx l k = x) (h2 : cy l k = y) => (by
        rw [← ht.out]
        refine decide_eq_true ?_
        have q : gp l k = (x, y) := by rw [← h1, ← h2]; rfl
        rw [← q]; exact gp_mem hlt : t = true))
      clear c1 c2 hB hE
      generalize cx l k = a at *
      generalize cy l k = c at *
      go_upto_region 4 with fail
      by_cases hx : a = x
      · subst hx
        by_cases hy : c = y
        · subst hy
          have E := Lib.hid (HYE.out rfl rfl)
          go_region
          all_goals
            go_wp2
            go_ret
            exact ⟨ret_bool E.out.symm, HB.out.drew⟩
        · have E := Lib.hid (HEK.out (fun h => hy h.2))
          go_region
          all_goals
            go_wp2
            go_roundw
            case rel => exact ⟨k + 1, by omega, by go_num, E, HB.out.drew, d3, d4⟩
            case measure => simp [intOf]; omega
      · have E := Lib.hid (HEK.out (fun h => hx h.1))
        go_region
        all_goals
          go_wp2
          go_roundw
          case rel => exact ⟨k + 1, by omega, by go_num, E, HB.out.drew, d3, d4⟩
          case measure => simp [intOf]; omega
    · have E : Hid (t = false) := Lib.hid (by
        rw [← ht.out]
        refine decide_eq_false fun h => ?_
        obtain ⟨i, hi, q⟩ := mem_gp h
        exact hE.out i (by omega) q)
      go_wp2
      go_ret
      exact ⟨ret_bool E.out.symm, hB⟩

theorem ray_eq {a b c d p q : Int} (h : onB a b c d p q = false) : rayB a b c d p q = ((decide (b ≤ q) != decide (d ≤ q)) && (decide (b < d) == decide (0 < det a b c d p q))) := by
  have nz : (b ≤ q ∧ q < d) ∨ (d ≤ q ∧ q < b) → det a b c d p q ≠ 0 := fun g z => by
    have : onB a b c d p q = true := by
      rw [← on_tr]
      refine on_axis (by omega) (by unfold Btw; omega) ?_
      unfold det at z
      grind
    rw [h] at this; cases this
  have r := ori_cmp a b c d p q
  have r2 := ori_cmp c d a b p q
  have s : det c d a b p q = -det a b c d p q := by unfold det; grind
  unfold rayB upB
  rw [r, r2, s]
  have k1 : (0 < cmpI (det a b c d p q) 0) ↔ 0 < det a b c d p q := by unfold cmpI; split <;> (try split) <;> omega
  have k2 : (0 < cmpI (-det a b c d p q) 0) ↔ det a b c d p q < 0 := by unfold cmpI; split <;> (try split) <;> omega
  generalize det a b c d p q = z at *
  generalize cmpI z 0 = u at *
  generalize cmpI (-z) 0 = v at *
  rw [Bool.eq_iff_iff]
  split <;> simp only [Bool.and_eq_true, decide_eq_true_eq, bne_iff_ne, beq_iff_eq, ne_eq, decide_eq_decide] <;> omega

set_option maxRecDepth 100000 in
set_option maxHeartbeats 2000000 in
theorem edge_is (a b c d p q : Int) (t : Bool) (w : World) (ka : InV a) (kb : InV b) (kc : InV c) (kd : InV d) (kp : InV p) (kq : InV q) (h : Hid (onB a b c d p q = t)) :
    Calls Try.prog 40 #[.agg #[.int .i64 a, .int .i64 b], .agg #[.int .i64 c, .int .i64 d], .agg #[.int .i64 p, .int .i64 q]] w fun e w' => e = .returned (.bool t) ∧ Below w.heap.size w w' := by
  obtain ⟨n, hn⟩ : ∃ n, det a b c d p q = n := ⟨_, rfl⟩
  have q1 := run_min2 a c
  have q2 := run_max2 a c
  have q3 := run_min2 b d
  have q4 := run_max2 b d
  have E : Hid (t = (decide (n = 0) && (decide (mnI a c ≤ p) && (decide (p ≤ mxI a c) && (decide (mnI b d ≤ q) && decide (q ≤ mxI b d)))))) := Lib.hid (by
    rw [← h.out]
    unfold onB
    rw [ori_zero, hn]
    cases decide (mnI a c ≤ p) <;> cases decide (p ≤ mxI a c) <;> cases decide (mnI b d ≤ q) <;> cases decide (q ≤ mxI b d) <;> cases decide (n = 0) <;> rfl)
  have HC := Lib.hid (fun w => side_is a b c d p q n w ka kb kc kd kp kq (Lib.hid hn))
  obtain ⟨m1, hm1⟩ : ∃ m, mnI a c = m := ⟨_, rfl⟩
  obtain ⟨m2, hm2⟩ : ∃ m, mxI a c = m := ⟨_, rfl⟩
  obtain ⟨m3, hm3⟩ : ∃ m, mnI b d = m := ⟨_, rfl⟩
  obtain ⟨m4, hm4⟩ : ∃ m, mxI b d = m := ⟨_, rfl⟩
  rw [hm1] at q1 E
  rw [hm2] at q2 E
  rw [hm3] at q3 E
  rw [hm4] at q4 E
  clear hn ka kb kc kd kp kq h hm1 hm2 hm3 hm4
  have hB : Below w.heap.size w w := Below.refl _ _
  go_enter Try.func40, Try.ntmps40
  go_wp2_with fail
  refine (HC.out _).mono ?_; rintro e w1 ⟨rfl, hb⟩
  have k1 : w1.cell? ⟨w.heap.size, 0, none⟩ = some (.int .i64 a) := cell_call (cell_alloc (cell_alloc (cbx w #[.int .i64 a, .int .i64 b] 35 (w.heap.size) 0 (.int .i64 a) (by simp) rfl) _) _) hb
  have k2 : w1.cell? ⟨w.heap.size, 1, none⟩ = some (.int .i64 b) := cell_call (cell_alloc (cell_alloc (cbx w #[.int .i64 a, .int .i64 b] 35 (w.heap.size) 1 (.int .i64 b) (by simp) rfl) _) _) hb
  have k3 : w1.cell? ⟨w.heap.size + 1, 0, none⟩ = some (.int .i64 c) := cell_call (cell_alloc (cbx (w.alloc (.cells #[.int .i64 a, .int .i64 b] 35)) #[.int .i64 c, .int .i64 d] 35 (w.heap.size + 1) 0 (.int .i64 c) (by simp) rfl) _) hb
  have k4 : w1.cell? ⟨w.heap.size + 1, 1, none⟩ = some (.int .i64 d) := cell_call (cell_alloc (cbx (w.alloc (.cells #[.int .i64 a, .int .i64 b] 35)) #[.int .i64 c, .int .i64 d] 35 (w.heap.size + 1) 1 (.int .i64 d) (by simp) rfl) _) hb
  have k5 : w1.cell? ⟨w.heap.size + 1 + 1, 0, none⟩ = some (.int .i64 p) := cell_call (cbx ((w.alloc (.cells #[.int .i64 a, .int .i64 b] 35)).alloc (.cells #[.int .i64 c, .int .i64 d] 35)) #[.int .i64 p, .int .i64 q] 35 (w.heap.size + 1 + 1) 0 (.int .i64 p) (by simp) rfl) hb
  have k6 : w1.cell? ⟨w.heap.size + 1 + 1, 1, none⟩ = some (.int .i64 q) := cell_call (cbx ((w.alloc (.cells #[.int .i64 a, .int .i64 b] 35)).alloc (.cells #[.int .i64 c, .int .i64 d] 35)) #[.int .i64 p, .int .i64 q] 35 (w.heap.size + 1 + 1) 1 (.int .i64 q) (by simp) rfl) hb
  replace hB := belT (belA (belA (belA hB _) _) _) hb
  clear hb HC
  have zk1 : w.heap.size < w1.heap.size := World.block_lt_of_cell? w1 _ k1
  have zk3 : w.heap.size + 1 < w1.heap.size := World.block_lt_of_cell? w1 _ k3
  have zk5 : w.heap.size + 1 + 1 < w1.heap.size := World.block_lt_of_cell? w1 _ k5
  by_cases h0 : n = 0
  · subst h0
    by_cases g1 : m1 ≤ p
    · by_cases g2 : p ≤ m2
      · by_cases g3 : m3 ≤ q
        · by_cases g4 : q ≤ m4
          · go_wp2
            go_ret
            exact ⟨ret_bool (by rw [E.out, eq_comm, Bool.eq_iff_iff]; simp only [Bool.and_eq_true, decide_eq_true_eq, Bool.false_eq_true, iff_false, iff_true, true_and]; omega), hB⟩
          · go_wp2
            go_ret
            exact ⟨ret_bool (by rw [E.out, eq_comm, Bool.eq_iff_iff]; simp only [Bool.and_eq_true, decide_eq_true_eq, Bool.false_eq_true, iff_false, iff_true, true_and]; omega), hB⟩
        · go_wp2
          go_ret
          exact ⟨ret_bool (by rw [E.out, eq_comm, Bool.eq_iff_iff]; simp only [Bool.and_eq_true, decide_eq_true_eq, Bool.false_eq_true, iff_false, iff_true, true_and]; omega), hB⟩
      · go_wp2
        go_ret
        exact ⟨ret_bool (by rw [E.out, eq_comm, Bool.eq_iff_iff]; simp only [Bool.and_eq_true, decide_eq_true_eq, Bool.false_eq_true, iff_false, iff_true, true_and]; omega), hB⟩
    · go_wp2
      go_ret
      exact ⟨ret_bool (by rw [E.out, eq_comm, Bool.eq_iff_iff]; simp only [Bool.and_eq_true, decide_eq_true_eq, Bool.false_eq_true, iff_false, iff_true, true_and]; omega), hB⟩
  · have hn0 : (n == 0) = false := by rw [beq_eq_false_iff_ne]; exact h0
    go_wp2
    go_ret
    exact ⟨ret_bool (by rw [E.out, eq_comm, Bool.eq_iff_iff]; simp only [Bool.and_eq_true, decide_eq_true_eq, Bool.false_eq_true, iff_false, iff_true, true_and]; omega), hB⟩

set_option maxRecDepth 100000 in
set_option maxHeartbeats 4000000 in
theorem hasP_is (ao : Option Addr) (n cap : Nat) (p q : Int) (ps : List (Int × Int)) (v : Int) (w : World) (hn : ps.length = n) (hv : Hid (locE ps p q = v)) (hle : n ≤ 1000000) (hP : PRow w ao ps) (hV : AllV ps) (kp : InV p) (kq : InV q) :
    Calls Try.prog 23 #[.slice ao n cap, .agg #[.int .i64 p, .int .i64 q]] w fun e w' => e = .returned (.int .i64 v) ∧ Below w.heap.size w w' := by
  subst hn
  have HP := Lib.hid hP
  have HV := Lib.hid hV
  clear hP hV
  go_enter Try.func23, Try.ntmps23
  go_wp2
  go_loopw [5, 6] (fun u i wr => ∃ (k : Nat) (o : Bool), k ≤ ps.length ∧ i = .int .i64 k ∧ u = .bool o ∧ Hid (∀ j, j < k → onE ps p q j = false) ∧ Hid (sideF (rayE ps p q) (List.range k) = if o then 1 else -1) ∧ Below w.heap.size w wr ∧ wr.heap[w.heap.size]? = some (.cells #[.int .i64 p, .int .i64 q] 35 (0, 0))) (fun _ i _ => ps.length - (intOf i).toNat)
  case atStart => exact ⟨0, false, Nat.zero_le _, rfl, rfl, Lib.hid (fun j hj => by omega), Lib.hid rfl, belA (Below.refl _ _) _, blk_new _ _ _ rfl⟩
  case round =>
    obtain ⟨k, o, hk, rfl, rfl, hE, hS, hB, hX⟩ := hrel
    by_cases hlt : k < ps.length
    · obtain ⟨j, hj⟩ : ∃ j, nx ps.length k = j := ⟨_, rfl⟩
      have hjl : j < ps.length := by rw [← hj]; exact nx_lt' hlt
      obtain ⟨b, b0, rfl, c1, c2⟩ := prow_at HP.out hlt
      obtain ⟨b', b0', ho', c3, c4⟩ := prow_at HP.out hjl
      obtain ⟨rfl, rfl⟩ : b = b' ∧ b0 = b0' := by simpa using ho'
      clear ho'
      have d1 := (hB.cell (World.block_lt_of_cell? w _ c1)).trans c1
      have d2 := (hB.cell (World.block_lt_of_cell? w _ c2)).trans c2
      have d3 := (hB.cell (World.block_lt_of_cell? w _ c3)).trans c3
      have d4 := (hB.cell (World.block_lt_of_cell? w _ c4)).trans c4
      obtain ⟨i1, i2⟩ := HV.out k hlt
      obtain ⟨i3, i4⟩ := HV.out j hjl
      have hki : (k : Int) < ps.length := by omega
      have hji : (j : Int) < ps.length := by omega
      have hpe : ¬ ps = [] := fun e => by rw [e] at hlt; simp at hlt
      have hn0 : (ps.length : Int) ≠ 0 := by omega
      have htm : ((k : Int) + 1).tmod (ps.length : Int) = (j : Int) := by
        rw [← hj, Int.tmod_eq_emod_of_nonneg (by omega)]; unfold nx; simp
      obtain ⟨u, hu⟩ : ∃ u, onE ps p q k = u := ⟨_, rfl⟩
      have HON : Hid (onB (cx ps k) (cy ps k) (cx ps j) (cy ps j) p q = u) := Lib.hid (by rw [← hu]; unfold onE; rw [hj])
      have HR : Hid (u = false → rayE ps p q k = ((decide (cy ps k ≤ q) != decide (cy ps j ≤ q)) && (decide (cy ps k < cy ps j) == decide (0 < det (cx ps k) (cy ps k) (cx ps j) (cy ps j) p q)))) := Lib.hid (fun h => by
        unfold rayE
        rw [hj]
        exact ray_eq (by rw [HON.out]; exact h))
      have H0 : Hid (u = true → v = 0) := Lib.hid (fun h => by rw [← hv.out]; exact loc_zero.2 ⟨k, hlt, by rw [hu]; exact h⟩)
      have HNE : Hid (u = false → ∀ i, i < k + 1 → onE ps p q i = false) := Lib.hid (fun h i hi => by
        by_cases e : i = k
        · subst e; rw [hu]; exact h
        · exact hE.out i (by omega))
      have HSN : Hid (∀ o' : Bool, rayE ps p q k = Bool.xor o o' → sideF (rayE ps p q) (List.range (k + 1)) = if o' then 1 else -1) := Lib.hid (fun o' h => by
        rw [List.range_succ, sideF_snoc, hS.out, h]
        cases o <;> cases o' <;> rfl)
      have HB := Lib.hid hB
      have hBs := hB.size
      have zX := blk_lt hX
      have zb : b < wr.heap.size := World.block_lt_of_cell? wr _ d1
      clear c1 c2 c3 c4 hj hu hE hS
      generalize cx ps k = x1 at *
      generalize cy ps k = y1 at *
      generalize cx ps j = x2 at *
      generalize cy ps j = y2 at *
      obtain ⟨D, hD⟩ : ∃ D, det x1 y1 x2 y2 p q = D := ⟨_, rfl⟩
      rw [hD] at HR
      have HD := Lib.hid hD
      have f0 := blk_cell hX 0 _ rfl
      have f1 := blk_cell hX 1 _ rfl
      have HX := Lib.hid hX
      clear hB hX hD
      go_wp2_with fail
      trace_state
      have hA := blk_alloc (blk_new wr (.cells #[.int .i64 x1, .int .i64 y1] 35) _ rfl) (.cells #[.int .i64 x2, .int .i64 y2] 35)
      have hC := blk_new (wr.alloc (.cells #[.int .i64 x1, .int .i64 y1] 35)) (.cells #[.int .i64 x2, .int .i64 y2] 35) (wr.heap.size + 1) (by simp)
      have hX := blk_alloc (blk_alloc HX.out (.cells #[.int .i64 x1, .int .i64 y1] 35)) (.cells #[.int .i64 x2, .int .i64 y2] 35)
      have hB := belA (belA HB.out (.cells #[.int .i64 x1, .int .i64 y1] 35)) (.cells #[.int .i64 x2, .int .i64 y2] 35)
      refine (edge_is x1 y1 x2 y2 p q u _ i1 i2 i3 i4 kp kq HON).mono ?_
      rintro e w1 ⟨rfl, hb⟩
      replace hA := blk_call hA hb
      replace hC := blk_call hC hb
      replace hX := blk_call hX hb
      have HB2 := Lib.hid (belT hB hb)
      have HX2 := Lib.hid hX
      have a0 := blk_cell hA 0 _ rfl
      have a1 := blk_cell hA 1 _ rfl
      have e0 := blk_cell hC 0 _ rfl
      have e1 := blk_cell hC 1 _ rfl
      have x0 := blk_cell hX 0 _ rfl
      have x1' := blk_cell hX 1 _ rfl
      have zA := blk_lt hA
      have zC := blk_lt hC
      have zX2 := blk_lt hX
      clear hA hC hX hB hb f0 f1 d1 d2 d3 d4
      have HSD := Lib.hid (fun w => side_is x1 y1 x2 y2 p q D w i1 i2 i3 i4 kp kq HD)
      clear i1 i2 i3 i4
      cases u with
      | true =>
        have E := Lib.hid (H0.out rfl)
        go_wp2_with fail
        go_ret
        exact ⟨ret_int E.out.symm, HB2.out⟩
      | false =>
      have NE := Lib.hid (HNE.out rfl)
      have HR2 := Lib.hid (HR.out rfl)
      clear HNE HR H0
      by_cases g1 : y1 ≤ q
      · by_cases g2 : y2 ≤ q
        · have HS2 := Lib.hid (HSN.out o (by rw [HR2.out, decide_eq_true (by omega : y1 ≤ q), decide_eq_true (by omega : y2 ≤ q)]; cases o <;> rfl))
          have s1 : (decide (y1 ≤ q) == decide (y2 ≤ q)) = true := by rw [decide_eq_true (by omega : y1 ≤ q), decide_eq_true (by omega : y2 ≤ q)]; rfl
          have HB3 := HB2
          have HX3 := HX2
          go_wp2_with fail
          go_roundw
          case rel => exact ⟨k + 1, o, by omega, by go_num, by first | rfl | (cases o <;> rfl), NE, HS2, HB3.out, HX3.out⟩
          case measure => simp [intOf]; omega
        · have l12 : y1 < y2 := by omega
          have s1 : (decide (y1 ≤ q) == decide (y2 ≤ q)) = false := by rw [decide_eq_true (by omega : y1 ≤ q), decide_eq_false (by omega : ¬ y2 ≤ q)]; rfl
          go_wp2_with fail
          refine (HSD.out _).mono ?_
          rintro e w2 ⟨rfl, hb⟩
          have HB3 := Lib.hid (belT HB2.out hb)
          have HX3 := Lib.hid (blk_call HX2.out hb)
          replace a1 := cell_call a1 hb
          replace e1 := cell_call e1 hb
          replace zA := World.block_lt_of_cell? w2 _ a1
          replace zC := World.block_lt_of_cell? w2 _ e1
          clear hb a0 e0 x0 x1' zX2
          by_cases hD : 0 < D
          · have HS2 := Lib.hid (HSN.out (!o) (by rw [HR2.out, decide_eq_true (by omega : y1 ≤ q), decide_eq_false (by omega : ¬ y2 ≤ q), decide_eq_true (by omega : y1 < y2), decide_eq_true (by omega : 0 < D)]; cases o <;> rfl))
            have s2 : (decide (y1 < y2) == decide (0 < D)) = true := by rw [decide_eq_true (by omega : y1 < y2), decide_eq_true (by omega : 0 < D)]; rfl
            go_wp2_with fail
            go_roundw
            case rel => exact ⟨k + 1, (!o), by omega, by go_num, by first | rfl | (cases o <;> rfl), NE, HS2, HB3.out, HX3.out⟩
            case measure => simp [intOf]; omega
          · have HS2 := Lib.hid (HSN.out o (by rw [HR2.out, decide_eq_true (by omega : y1 ≤ q), decide_eq_false (by omega : ¬ y2 ≤ q), decide_eq_true (by omega : y1 < y2), decide_eq_false (by omega : ¬ 0 < D)]; cases o <;> rfl))
            have s2 : (decide (y1 < y2) == decide (0 < D)) = false := by rw [decide_eq_true (by omega : y1 < y2), decide_eq_false (by omega : ¬ 0 < D)]; rfl
            go_wp2_with fail
            go_roundw
            case rel => exact ⟨k + 1, o, by omega, by go_num, by first | rfl | (cases o <;> rfl), NE, HS2, HB3.out, HX3.out⟩
            case measure => simp [intOf]; omega
      · by_cases g2 : y2 ≤ q
        · have l12 : ¬ y1 < y2 := by omega
          have s1 : (decide (y1 ≤ q) == decide (y2 ≤ q)) = false := by rw [decide_eq_false (by omega : ¬ y1 ≤ q), decide_eq_true (by omega : y2 ≤ q)]; rfl
          go_wp2_with fail
          refine (HSD.out _).mono ?_
          rintro e w2 ⟨rfl, hb⟩
          have HB3 := Lib.hid (belT HB2.out hb)
          have HX3 := Lib.hid (blk_call HX2.out hb)
          replace a1 := cell_call a1 hb
          replace e1 := cell_call e1 hb
          replace zA := World.block_lt_of_cell? w2 _ a1
          replace zC := World.block_lt_of_cell? w2 _ e1
          clear hb a0 e0 x0 x1' zX2
          by_cases hD : 0 < D
          · have HS2 := Lib.hid (HSN.out o (by rw [HR2.out, decide_eq_false (by omega : ¬ y1 ≤ q), decide_eq_true (by omega : y2 ≤ q), decide_eq_false (by omega : ¬ y1 < y2), decide_eq_true (by omega : 0 < D)]; cases o <;> rfl))
            have s2 : (decide (y1 < y2) == decide (0 < D)) = false := by rw [decide_eq_false (by omega : ¬ y1 < y2), decide_eq_true (by omega : 0 < D)]; rfl
            go_wp2_with fail
            go_roundw
            case rel => exact ⟨k + 1, o, by omega, by go_num, by first | rfl | (cases o <;> rfl), NE, HS2, HB3.out, HX3.out⟩
            case measure => simp [intOf]; omega
          · have HS2 := Lib.hid (HSN.out (!o) (by rw [HR2.out, decide_eq_false (by omega : ¬ y1 ≤ q), decide_eq_true (by omega : y2 ≤ q), decide_eq_false (by omega : ¬ y1 < y2), decide_eq_false (by omega : ¬ 0 < D)]; cases o <;> rfl))
            have s2 : (decide (y1 < y2) == decide (0 < D)) = true := by rw [decide_eq_false (by omega : ¬ y1 < y2), decide_eq_false (by omega : ¬ 0 < D)]; rfl
            go_wp2_with fail
            go_roundw
            case rel => exact ⟨k + 1, (!o), by omega, by go_num, by first | rfl | (cases o <;> rfl), NE, HS2, HB3.out, HX3.out⟩
            case measure => simp [intOf]; omega
        · have HS2 := Lib.hid (HSN.out o (by rw [HR2.out, decide_eq_false (by omega : ¬ y1 ≤ q), decide_eq_false (by omega : ¬ y2 ≤ q)]; cases o <;> rfl))
          have s1 : (decide (y1 ≤ q) == decide (y2 ≤ q)) = true := by rw [decide_eq_false (by omega : ¬ y1 ≤ q), decide_eq_false (by omega : ¬ y2 ≤ q)]; rfl
          have HB3 := HB2
          have HX3 := HX2
          go_wp2_with fail
          go_roundw
          case rel => exact ⟨k + 1, o, by omega, by go_num, by first | rfl | (cases o <;> rfl), NE, HS2, HB3.out, HX3.out⟩
          case measure => simp [intOf]; omega
    · obtain rfl : k = ps.length := by omega
      have E : Hid (v = if o then 1 else -1) := Lib.hid (by
        rw [← hv.out, ← hS.out]
        unfold locE
        rw [if_neg]
        rw [Bool.not_eq_true, List.any_eq_false]
        intro i hi
        rw [hE.out i (List.mem_range.1 hi)]; decide)
      clear hE hS
      cases o with
      | false =>
        go_wp2
        go_ret
        exact ⟨ret_int E.out.symm, hB⟩
      | true =>
        go_wp2
        go_ret
        exact ⟨ret_int E.out.symm, hB⟩
end Go.Proofs.Ytjgkipgllpelhaa
