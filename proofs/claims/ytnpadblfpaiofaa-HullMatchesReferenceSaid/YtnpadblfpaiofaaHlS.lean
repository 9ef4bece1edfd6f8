/- Contract of the reference's cut. The coordinates are bounded. -/
import Derived.Test.YtnpadblfpaiofaaHlR
namespace Go.Proofs.Ytnpadblfpaiofaa
open Go.ChangeShapes Go.WideShapes Go.ChangeAt Go.RowKit
set_option linter.unusedVariables false
set_option linter.unusedSimpArgs false

theorem opp_cmp (x y : Int) : oppB (cmpI x 0) (cmpI y 0) = decide ((x < 0 ∧ 0 < y) ∨ (0 < x ∧ y < 0)) := by
  unfold oppB
  rw [decide_eq_decide]
  rcases Int.lt_trichotomy x 0 with h | h | h <;> rcases Int.lt_trichotomy y 0 with g | g | g
  all_goals
    first | rw [cmpI_lt h] | (rw [cmpI_eq h]) | rw [cmpI_gt h]
    first | rw [cmpI_lt g] | (rw [cmpI_eq g]) | rw [cmpI_gt g]
    omega

set_option maxRecDepth 100000 in
set_option maxHeartbeats 16000000 in
theorem cut_is (a b c d p q r s : Int) (t : Bool) (w : World) (ka : InV a) (kb : InV b) (kc : InV c) (kd : InV d) (kp : InV p) (kq : InV q) (kr : InV r) (ks : InV s) (h : Hid (segB a b c d p q r s = t)) :
    Calls Try.prog 48 #[.agg #[.int .i64 a, .int .i64 b], .agg #[.int .i64 c, .int .i64 d], .agg #[.int .i64 p, .int .i64 q], .agg #[.int .i64 r, .int .i64 s]] w fun e w' => e = .returned (.bool t) ∧ Below w.heap.size w w' := by
  obtain ⟨e1, h1⟩ : ∃ x, onB a b c d p q = x := ⟨_, rfl⟩
  obtain ⟨e2, h2⟩ : ∃ x, onB a b c d r s = x := ⟨_, rfl⟩
  obtain ⟨e3, h3⟩ : ∃ x, onB p q r s a b = x := ⟨_, rfl⟩
  obtain ⟨e4, h4⟩ : ∃ x, onB p q r s c d = x := ⟨_, rfl⟩
  obtain ⟨D1, g1⟩ : ∃ x, det a b c d p q = x := ⟨_, rfl⟩
  obtain ⟨D2, g2⟩ : ∃ x, det a b c d r s = x := ⟨_, rfl⟩
  obtain ⟨D3, g3⟩ : ∃ x, det p q r s a b = x := ⟨_, rfl⟩
  obtain ⟨D4, g4⟩ : ∃ x, det p q r s c d = x := ⟨_, rfl⟩
  have E : Hid (t = ((e1 || e2) || (e3 || e4) || (decide ((D1 < 0 ∧ 0 < D2) ∨ (0 < D1 ∧ D2 < 0)) && decide ((D3 < 0 ∧ 0 < D4) ∨ (0 < D3 ∧ D4 < 0))))) := Lib.hid (by
    rw [← h.out]
    unfold segB
    rw [h1, h2, h3, h4, ori_cmp, ori_cmp, ori_cmp, ori_cmp, g1, g2, g3, g4, opp_cmp, opp_cmp])
  have N1 := Lib.hid (fun w => edge_is a b c d p q e1 w ka kb kc kd kp kq (Lib.hid h1))
  have N2 := Lib.hid (fun w => edge_is a b c d r s e2 w ka kb kc kd kr ks (Lib.hid h2))
  have N3 := Lib.hid (fun w => edge_is p q r s a b e3 w kp kq kr ks ka kb (Lib.hid h3))
  have N4 := Lib.hid (fun w => edge_is p q r s c d e4 w kp kq kr ks kc kd (Lib.hid h4))
  have C1 := Lib.hid (fun w => side_gr a b c d p q D1 w ka kb kc kd kp kq (Lib.hid g1))
  have C2 := Lib.hid (fun w => side_gr a b c d r s D2 w ka kb kc kd kr ks (Lib.hid g2))
  have C3 := Lib.hid (fun w => side_gr p q r s a b D3 w kp kq kr ks ka kb (Lib.hid g3))
  have C4 := Lib.hid (fun w => side_gr p q r s c d D4 w kp kq kr ks kc kd (Lib.hid g4))
  have S1 := Lib.hid (fun w => side_is a b c d p q D1 w ka kb kc kd kp kq (Lib.hid g1))
  have S2 := Lib.hid (fun w => side_is a b c d r s D2 w ka kb kc kd kr ks (Lib.hid g2))
  have S3 := Lib.hid (fun w => side_is p q r s a b D3 w kp kq kr ks ka kb (Lib.hid g3))
  have S4 := Lib.hid (fun w => side_is p q r s c d D4 w kp kq kr ks kc kd (Lib.hid g4))
  clear h h1 h2 h3 h4 g1 g2 g3 g4 ka kb kc kd kp kq kr ks
  go_enter Try.func48, Try.ntmps48
  have X1 := blk_alloc (blk_alloc (blk_alloc (blk_new w (.cells #[.int .i64 a, .int .i64 b] 35) _ rfl) (.cells #[.int .i64 c, .int .i64 d] 35)) (.cells #[.int .i64 p, .int .i64 q] 35)) (.cells #[.int .i64 r, .int .i64 s] 35)
  have X2 := blk_alloc (blk_alloc (blk_new (w.alloc (.cells #[.int .i64 a, .int .i64 b] 35)) (.cells #[.int .i64 c, .int .i64 d] 35) (w.heap.size + 1) (by simp)) (.cells #[.int .i64 p, .int .i64 q] 35)) (.cells #[.int .i64 r, .int .i64 s] 35)
  have X3 := blk_alloc (blk_new ((w.alloc (.cells #[.int .i64 a, .int .i64 b] 35)).alloc (.cells #[.int .i64 c, .int .i64 d] 35)) (.cells #[.int .i64 p, .int .i64 q] 35) (w.heap.size + 1 + 1) (by simp)) (.cells #[.int .i64 r, .int .i64 s] 35)
  have X4 := blk_new (((w.alloc (.cells #[.int .i64 a, .int .i64 b] 35)).alloc (.cells #[.int .i64 c, .int .i64 d] 35)).alloc (.cells #[.int .i64 p, .int .i64 q] 35)) (.cells #[.int .i64 r, .int .i64 s] 35) (w.heap.size + 1 + 1 + 1) (by simp)
  have HB := belA (belA (belA (belA (Below.refl _ w) (.cells #[.int .i64 a, .int .i64 b] 35)) (.cells #[.int .i64 c, .int .i64 d] 35)) (.cells #[.int .i64 p, .int .i64 q] 35)) (.cells #[.int .i64 r, .int .i64 s] 35)
  go_wp2_with fail
  refine (N1.out _).mono ?_
  rintro e w1 ⟨rfl, hb⟩
  replace X1 := blk_call X1 hb
  replace X2 := blk_call X2 hb
  replace X3 := blk_call X3 hb
  replace X4 := blk_call X4 hb
  replace HB := belT HB hb
  clear hb
  have k1 := blk_cell X1 0 _ rfl
  have k2 := blk_cell X1 1 _ rfl
  have z1 := blk_lt X1
  have k3 := blk_cell X2 0 _ rfl
  have k4 := blk_cell X2 1 _ rfl
  have z2 := blk_lt X2
  have k5 := blk_cell X3 0 _ rfl
  have k6 := blk_cell X3 1 _ rfl
  have z3 := blk_lt X3
  have k7 := blk_cell X4 0 _ rfl
  have k8 := blk_cell X4 1 _ rfl
  have z4 := blk_lt X4
  cases e1 with
  | true =>
    have G1 := fun n os => cell_grown (n := n) (os := os) z1 k1
    have G2 := fun n os => cell_grown (n := n) (os := os) z1 k2
    have G3 := fun n os => cell_grown (n := n) (os := os) z2 k3
    have G4 := fun n os => cell_grown (n := n) (os := os) z2 k4
    have G5 := fun n os => cell_grown (n := n) (os := os) z3 k5
    have G6 := fun n os => cell_grown (n := n) (os := os) z3 k6
    have G7 := fun n os => cell_grown (n := n) (os := os) z4 k7
    have G8 := fun n os => cell_grown (n := n) (os := os) z4 k8
    go_upto_region 2 with fail
    clear k1 k2 k3 k4 k5 k6 k7 k8 z1 z2 z3 z4
    refine wq_region mixedP (by kernel_rfl) ?_
    repeat (refine wq_step (fun K hK => ?_); go_simp; first | (refine hK _ ?_; clear hK K) | (apply Exists.intro; refine ⟨fun _ => ?_, hK _ ?_⟩; (first | (go_at_call 30; first | with_reducible refine Calls.grown_of (C1.out _) | with_reducible refine Calls.grown_of (C2.out _))); clear hK K))
    refine wq_nil ?_
    intro _ hw'
    obtain ⟨⟨nq, osq⟩, hw''⟩ := hw'
    subst hw''
    clear G1 G2 G3 G4 G5 G6 G7 G8
    have hb := below_gr w1 nq osq
    replace X1 := blk_call X1 hb
    replace X2 := blk_call X2 hb
    replace X3 := blk_call X3 hb
    replace X4 := blk_call X4 hb
    replace HB := belT HB hb
    clear hb
    generalize Sort.grow (w1.drewN nq) osq = wa at *
    have k1 := blk_cell X1 0 _ rfl
    have k2 := blk_cell X1 1 _ rfl
    have z1 := blk_lt X1
    have k3 := blk_cell X2 0 _ rfl
    have k4 := blk_cell X2 1 _ rfl
    have z2 := blk_lt X2
    have k5 := blk_cell X3 0 _ rfl
    have k6 := blk_cell X3 1 _ rfl
    have z3 := blk_lt X3
    have k7 := blk_cell X4 0 _ rfl
    have k8 := blk_cell X4 1 _ rfl
    have z4 := blk_lt X4
    have G1 := fun n os => cell_grown (n := n) (os := os) z1 k1
    have G2 := fun n os => cell_grown (n := n) (os := os) z1 k2
    have G3 := fun n os => cell_grown (n := n) (os := os) z2 k3
    have G4 := fun n os => cell_grown (n := n) (os := os) z2 k4
    have G5 := fun n os => cell_grown (n := n) (os := os) z3 k5
    have G6 := fun n os => cell_grown (n := n) (os := os) z3 k6
    have G7 := fun n os => cell_grown (n := n) (os := os) z4 k7
    have G8 := fun n os => cell_grown (n := n) (os := os) z4 k8
    go_upto_region 3 with fail
    clear k1 k2 k3 k4 k5 k6 k7 k8 z1 z2 z3 z4
    refine wq_region mixedP (by kernel_rfl) ?_
    repeat (refine wq_step (fun K hK => ?_); go_simp; first | (refine hK _ ?_; clear hK K) | (apply Exists.intro; refine ⟨fun _ => ?_, hK _ ?_⟩; (first | (go_at_call 30; first | with_reducible refine Calls.grown_of (C3.out _) | with_reducible refine Calls.grown_of (C4.out _))); clear hK K))
    refine wq_nil ?_
    intro _ hw'
    obtain ⟨⟨nq, osq⟩, hw''⟩ := hw'
    subst hw''
    clear G1 G2 G3 G4 G5 G6 G7 G8
    have hb := below_gr wa nq osq
    replace X1 := blk_call X1 hb
    replace X2 := blk_call X2 hb
    replace X3 := blk_call X3 hb
    replace X4 := blk_call X4 hb
    replace HB := belT HB hb
    clear hb
    generalize Sort.grow (wa.drewN nq) osq = wb at *
    have k1 := blk_cell X1 0 _ rfl
    have k2 := blk_cell X1 1 _ rfl
    have z1 := blk_lt X1
    have k3 := blk_cell X2 0 _ rfl
    have k4 := blk_cell X2 1 _ rfl
    have z2 := blk_lt X2
    have k5 := blk_cell X3 0 _ rfl
    have k6 := blk_cell X3 1 _ rfl
    have z3 := blk_lt X3
    have k7 := blk_cell X4 0 _ rfl
    have k8 := blk_cell X4 1 _ rfl
    have z4 := blk_lt X4
    go_wp2_with fail
    refine (S1.out _).mono ?_
    rintro e wc1 ⟨rfl, hb⟩
    replace X1 := blk_call X1 hb
    replace X2 := blk_call X2 hb
    replace X3 := blk_call X3 hb
    replace X4 := blk_call X4 hb
    replace HB := belT HB hb
    clear hb
    clear k1 k2 k3 k4 k5 k6 k7 k8 z1 z2 z3 z4
    have k1 := blk_cell X1 0 _ rfl
    have k2 := blk_cell X1 1 _ rfl
    have z1 := blk_lt X1
    have k3 := blk_cell X2 0 _ rfl
    have k4 := blk_cell X2 1 _ rfl
    have z2 := blk_lt X2
    have k5 := blk_cell X3 0 _ rfl
    have k6 := blk_cell X3 1 _ rfl
    have z3 := blk_lt X3
    have k7 := blk_cell X4 0 _ rfl
    have k8 := blk_cell X4 1 _ rfl
    have z4 := blk_lt X4
    by_cases n1 : D1 = 0
    · have m1 : (D1 != 0) = false := by rw [bne_eq_false_iff_eq]; exact n1
      go_wp2
      go_ret
      exact ⟨ret_bool (by rw [E.out, eq_comm, Bool.eq_iff_iff]; simp only [Bool.or_eq_true, Bool.and_eq_true, decide_eq_true_eq, Bool.false_eq_true, true_or, or_true, false_or, or_false, iff_false, iff_true] <;> omega), HB⟩
    have m1 : (D1 != 0) = true := by rw [bne_iff_ne]; exact n1
    go_wp2_with fail
    refine (S2.out _).mono ?_
    rintro e wc2 ⟨rfl, hb⟩
    replace X1 := blk_call X1 hb
    replace X2 := blk_call X2 hb
    replace X3 := blk_call X3 hb
    replace X4 := blk_call X4 hb
    replace HB := belT HB hb
    clear hb
    clear k1 k2 k3 k4 k5 k6 k7 k8 z1 z2 z3 z4
    have k1 := blk_cell X1 0 _ rfl
    have k2 := blk_cell X1 1 _ rfl
    have z1 := blk_lt X1
    have k3 := blk_cell X2 0 _ rfl
    have k4 := blk_cell X2 1 _ rfl
    have z2 := blk_lt X2
    have k5 := blk_cell X3 0 _ rfl
    have k6 := blk_cell X3 1 _ rfl
    have z3 := blk_lt X3
    have k7 := blk_cell X4 0 _ rfl
    have k8 := blk_cell X4 1 _ rfl
    have z4 := blk_lt X4
    by_cases n2 : D2 = 0
    · have m2 : (D2 != 0) = false := by rw [bne_eq_false_iff_eq]; exact n2
      go_wp2
      go_ret
      exact ⟨ret_bool (by rw [E.out, eq_comm, Bool.eq_iff_iff]; simp only [Bool.or_eq_true, Bool.and_eq_true, decide_eq_true_eq, Bool.false_eq_true, true_or, or_true, false_or, or_false, iff_false, iff_true] <;> omega), HB⟩
    have m2 : (D2 != 0) = true := by rw [bne_iff_ne]; exact n2
    go_wp2_with fail
    refine (S3.out _).mono ?_
    rintro e wc3 ⟨rfl, hb⟩
    replace X1 := blk_call X1 hb
    replace X2 := blk_call X2 hb
    replace X3 := blk_call X3 hb
    replace X4 := blk_call X4 hb
    replace HB := belT HB hb
    clear hb
    clear k1 k2 k3 k4 k5 k6 k7 k8 z1 z2 z3 z4
    have k1 := blk_cell X1 0 _ rfl
    have k2 := blk_cell X1 1 _ rfl
    have z1 := blk_lt X1
    have k3 := blk_cell X2 0 _ rfl
    have k4 := blk_cell X2 1 _ rfl
    have z2 := blk_lt X2
    have k5 := blk_cell X3 0 _ rfl
    have k6 := blk_cell X3 1 _ rfl
    have z3 := blk_lt X3
    have k7 := blk_cell X4 0 _ rfl
    have k8 := blk_cell X4 1 _ rfl
    have z4 := blk_lt X4
    by_cases n3 : D3 = 0
    · have m3 : (D3 != 0) = false := by rw [bne_eq_false_iff_eq]; exact n3
      go_wp2
      go_ret
      exact ⟨ret_bool (by rw [E.out, eq_comm, Bool.eq_iff_iff]; simp only [Bool.or_eq_true, Bool.and_eq_true, decide_eq_true_eq, Bool.false_eq_true, true_or, or_true, false_or, or_false, iff_false, iff_true] <;> omega), HB⟩
    have m3 : (D3 != 0) = true := by rw [bne_iff_ne]; exact n3
    go_wp2_with fail
    refine (S4.out _).mono ?_
    rintro e wc4 ⟨rfl, hb⟩
    replace X1 := blk_call X1 hb
    replace X2 := blk_call X2 hb
    replace X3 := blk_call X3 hb
    replace X4 := blk_call X4 hb
    replace HB := belT HB hb
    clear hb
    clear k1 k2 k3 k4 k5 k6 k7 k8 z1 z2 z3 z4
    have k1 := blk_cell X1 0 _ rfl
    have k2 := blk_cell X1 1 _ rfl
    have z1 := blk_lt X1
    have k3 := blk_cell X2 0 _ rfl
    have k4 := blk_cell X2 1 _ rfl
    have z2 := blk_lt X2
    have k5 := blk_cell X3 0 _ rfl
    have k6 := blk_cell X3 1 _ rfl
    have z3 := blk_lt X3
    have k7 := blk_cell X4 0 _ rfl
    have k8 := blk_cell X4 1 _ rfl
    have z4 := blk_lt X4
    by_cases n4 : D4 = 0
    · have m4 : (D4 != 0) = false := by rw [bne_eq_false_iff_eq]; exact n4
      go_wp2
      go_ret
      exact ⟨ret_bool (by rw [E.out, eq_comm, Bool.eq_iff_iff]; simp only [Bool.or_eq_true, Bool.and_eq_true, decide_eq_true_eq, Bool.false_eq_true, true_or, or_true, false_or, or_false, iff_false, iff_true] <;> omega), HB⟩
    have m4 : (D4 != 0) = true := by rw [bne_iff_ne]; exact n4
    go_wp2
    go_ret
    exact ⟨ret_bool (by rw [E.out, eq_comm, Bool.eq_iff_iff]; simp only [Bool.or_eq_true, Bool.and_eq_true, decide_eq_true_eq, Bool.false_eq_true, true_or, or_true, false_or, or_false, iff_false, iff_true] <;> omega), HB⟩
  | false =>
    go_wp2_with fail
    refine (N2.out _).mono ?_
    rintro e w2 ⟨rfl, hb⟩
    replace X1 := blk_call X1 hb
    replace X2 := blk_call X2 hb
    replace X3 := blk_call X3 hb
    replace X4 := blk_call X4 hb
    replace HB := belT HB hb
    clear hb
    clear k1 k2 k3 k4 k5 k6 k7 k8 z1 z2 z3 z4
    have k1 := blk_cell X1 0 _ rfl
    have k2 := blk_cell X1 1 _ rfl
    have z1 := blk_lt X1
    have k3 := blk_cell X2 0 _ rfl
    have k4 := blk_cell X2 1 _ rfl
    have z2 := blk_lt X2
    have k5 := blk_cell X3 0 _ rfl
    have k6 := blk_cell X3 1 _ rfl
    have z3 := blk_lt X3
    have k7 := blk_cell X4 0 _ rfl
    have k8 := blk_cell X4 1 _ rfl
    have z4 := blk_lt X4
    cases e2 with
    | true =>
      have G1 := fun n os => cell_grown (n := n) (os := os) z1 k1
      have G2 := fun n os => cell_grown (n := n) (os := os) z1 k2
      have G3 := fun n os => cell_grown (n := n) (os := os) z2 k3
      have G4 := fun n os => cell_grown (n := n) (os := os) z2 k4
      have G5 := fun n os => cell_grown (n := n) (os := os) z3 k5
      have G6 := fun n os => cell_grown (n := n) (os := os) z3 k6
      have G7 := fun n os => cell_grown (n := n) (os := os) z4 k7
      have G8 := fun n os => cell_grown (n := n) (os := os) z4 k8
      go_upto_region 2 with fail
      clear k1 k2 k3 k4 k5 k6 k7 k8 z1 z2 z3 z4
      refine wq_region mixedP (by kernel_rfl) ?_
      repeat (refine wq_step (fun K hK => ?_); go_simp; first | (refine hK _ ?_; clear hK K) | (apply Exists.intro; refine ⟨fun _ => ?_, hK _ ?_⟩; (first | (go_at_call 30; first | with_reducible refine Calls.grown_of (C1.out _) | with_reducible refine Calls.grown_of (C2.out _))); clear hK K))
      refine wq_nil ?_
      intro _ hw'
      obtain ⟨⟨nq, osq⟩, hw''⟩ := hw'
      subst hw''
      clear G1 G2 G3 G4 G5 G6 G7 G8
      have hb := below_gr w2 nq osq
      replace X1 := blk_call X1 hb
      replace X2 := blk_call X2 hb
      replace X3 := blk_call X3 hb
      replace X4 := blk_call X4 hb
      replace HB := belT HB hb
      clear hb
      generalize Sort.grow (w2.drewN nq) osq = wa at *
      have k1 := blk_cell X1 0 _ rfl
      have k2 := blk_cell X1 1 _ rfl
      have z1 := blk_lt X1
      have k3 := blk_cell X2 0 _ rfl
      have k4 := blk_cell X2 1 _ rfl
      have z2 := blk_lt X2
      have k5 := blk_cell X3 0 _ rfl
      have k6 := blk_cell X3 1 _ rfl
      have z3 := blk_lt X3
      have k7 := blk_cell X4 0 _ rfl
      have k8 := blk_cell X4 1 _ rfl
      have z4 := blk_lt X4
      have G1 := fun n os => cell_grown (n := n) (os := os) z1 k1
      have G2 := fun n os => cell_grown (n := n) (os := os) z1 k2
      have G3 := fun n os => cell_grown (n := n) (os := os) z2 k3
      have G4 := fun n os => cell_grown (n := n) (os := os) z2 k4
      have G5 := fun n os => cell_grown (n := n) (os := os) z3 k5
      have G6 := fun n os => cell_grown (n := n) (os := os) z3 k6
      have G7 := fun n os => cell_grown (n := n) (os := os) z4 k7
      have G8 := fun n os => cell_grown (n := n) (os := os) z4 k8
      go_upto_region 3 with fail
      clear k1 k2 k3 k4 k5 k6 k7 k8 z1 z2 z3 z4
      refine wq_region mixedP (by kernel_rfl) ?_
      repeat (refine wq_step (fun K hK => ?_); go_simp; first | (refine hK _ ?_; clear hK K) | (apply Exists.intro; refine ⟨fun _ => ?_, hK _ ?_⟩; (first | (go_at_call 30; first | with_reducible refine Calls.grown_of (C3.out _) | with_reducible refine Calls.grown_of (C4.out _))); clear hK K))
      refine wq_nil ?_
      intro _ hw'
      obtain ⟨⟨nq, osq⟩, hw''⟩ := hw'
      subst hw''
      clear G1 G2 G3 G4 G5 G6 G7 G8
      have hb := below_gr wa nq osq
      replace X1 := blk_call X1 hb
      replace X2 := blk_call X2 hb
      replace X3 := blk_call X3 hb
      replace X4 := blk_call X4 hb
      replace HB := belT HB hb
      clear hb
      generalize Sort.grow (wa.drewN nq) osq = wb at *
      have k1 := blk_cell X1 0 _ rfl
      have k2 := blk_cell X1 1 _ rfl
      have z1 := blk_lt X1
      have k3 := blk_cell X2 0 _ rfl
      have k4 := blk_cell X2 1 _ rfl
      have z2 := blk_lt X2
      have k5 := blk_cell X3 0 _ rfl
      have k6 := blk_cell X3 1 _ rfl
      have z3 := blk_lt X3
      have k7 := blk_cell X4 0 _ rfl
      have k8 := blk_cell X4 1 _ rfl
      have z4 := blk_lt X4
      go_wp2_with fail
      refine (S1.out _).mono ?_
      rintro e wc1 ⟨rfl, hb⟩
      replace X1 := blk_call X1 hb
      replace X2 := blk_call X2 hb
      replace X3 := blk_call X3 hb
      replace X4 := blk_call X4 hb
      replace HB := belT HB hb
      clear hb
      clear k1 k2 k3 k4 k5 k6 k7 k8 z1 z2 z3 z4
      have k1 := blk_cell X1 0 _ rfl
      have k2 := blk_cell X1 1 _ rfl
      have z1 := blk_lt X1
      have k3 := blk_cell X2 0 _ rfl
      have k4 := blk_cell X2 1 _ rfl
      have z2 := blk_lt X2
      have k5 := blk_cell X3 0 _ rfl
      have k6 := blk_cell X3 1 _ rfl
      have z3 := blk_lt X3
      have k7 := blk_cell X4 0 _ rfl
      have k8 := blk_cell X4 1 _ rfl
      have z4 := blk_lt X4
      by_cases n1 : D1 = 0
      · have m1 : (D1 != 0) = false := by rw [bne_eq_false_iff_eq]; exact n1
        go_wp2
        go_ret
        exact ⟨ret_bool (by rw [E.out, eq_comm, Bool.eq_iff_iff]; simp only [Bool.or_eq_true, Bool.and_eq_true, decide_eq_true_eq, Bool.false_eq_true, true_or, or_true, false_or, or_false, iff_false, iff_true] <;> omega), HB⟩
      have m1 : (D1 != 0) = true := by rw [bne_iff_ne]; exact n1
      go_wp2_with fail
      refine (S2.out _).mono ?_
      rintro e wc2 ⟨rfl, hb⟩
      replace X1 := blk_call X1 hb
      replace X2 := blk_call X2 hb
      replace X3 := blk_call X3 hb
      replace X4 := blk_call X4 hb
      replace HB := belT HB hb
      clear hb
      clear k1 k2 k3 k4 k5 k6 k7 k8 z1 z2 z3 z4
      have k1 := blk_cell X1 0 _ rfl
      have k2 := blk_cell X1 1 _ rfl
      have z1 := blk_lt X1
      have k3 := blk_cell X2 0 _ rfl
      have k4 := blk_cell X2 1 _ rfl
      have z2 := blk_lt X2
      have k5 := blk_cell X3 0 _ rfl
      have k6 := blk_cell X3 1 _ rfl
      have z3 := blk_lt X3
      have k7 := blk_cell X4 0 _ rfl
      have k8 := blk_cell X4 1 _ rfl
      have z4 := blk_lt X4
      by_cases n2 : D2 = 0
      · have m2 : (D2 != 0) = false := by rw [bne_eq_false_iff_eq]; exact n2
        go_wp2
        go_ret
        exact ⟨ret_bool (by rw [E.out, eq_comm, Bool.eq_iff_iff]; simp only [Bool.or_eq_true, Bool.and_eq_true, decide_eq_true_eq, Bool.false_eq_true, true_or, or_true, false_or, or_false, iff_false, iff_true] <;> omega), HB⟩
      have m2 : (D2 != 0) = true := by rw [bne_iff_ne]; exact n2
      go_wp2_with fail
      refine (S3.out _).mono ?_
      rintro e wc3 ⟨rfl, hb⟩
      replace X1 := blk_call X1 hb
      replace X2 := blk_call X2 hb
      replace X3 := blk_call X3 hb
      replace X4 := blk_call X4 hb
      replace HB := belT HB hb
      clear hb
      clear k1 k2 k3 k4 k5 k6 k7 k8 z1 z2 z3 z4
      have k1 := blk_cell X1 0 _ rfl
      have k2 := blk_cell X1 1 _ rfl
      have z1 := blk_lt X1
      have k3 := blk_cell X2 0 _ rfl
      have k4 := blk_cell X2 1 _ rfl
      have z2 := blk_lt X2
      have k5 := blk_cell X3 0 _ rfl
      have k6 := blk_cell X3 1 _ rfl
      have z3 := blk_lt X3
      have k7 := blk_cell X4 0 _ rfl
      have k8 := blk_cell X4 1 _ rfl
      have z4 := blk_lt X4
      by_cases n3 : D3 = 0
      · have m3 : (D3 != 0) = false := by rw [bne_eq_false_iff_eq]; exact n3
        go_wp2
        go_ret
        exact ⟨ret_bool (by rw [E.out, eq_comm, Bool.eq_iff_iff]; simp only [Bool.or_eq_true, Bool.and_eq_true, decide_eq_true_eq, Bool.false_eq_true, true_or, or_true, false_or, or_false, iff_false, iff_true] <;> omega), HB⟩
      have m3 : (D3 != 0) = true := by rw [bne_iff_ne]; exact n3
      go_wp2_with fail
      refine (S4.out _).mono ?_
      rintro e wc4 ⟨rfl, hb⟩
      replace X1 := blk_call X1 hb
      replace X2 := blk_call X2 hb
      replace X3 := blk_call X3 hb
      replace X4 := blk_call X4 hb
      replace HB := belT HB hb
      clear hb
      clear k1 k2 k3 k4 k5 k6 k7 k8 z1 z2 z3 z4
      have k1 := blk_cell X1 0 _ rfl
      have k2 := blk_cell X1 1 _ rfl
      have z1 := blk_lt X1
      have k3 := blk_cell X2 0 _ rfl
      have k4 := blk_cell X2 1 _ rfl
      have z2 := blk_lt X2
      have k5 := blk_cell X3 0 _ rfl
      have k6 := blk_cell X3 1 _ rfl
      have z3 := blk_lt X3
      have k7 := blk_cell X4 0 _ rfl
      have k8 := blk_cell X4 1 _ rfl
      have z4 := blk_lt X4
      by_cases n4 : D4 = 0
      · have m4 : (D4 != 0) = false := by rw [bne_eq_false_iff_eq]; exact n4
        go_wp2
        go_ret
        exact ⟨ret_bool (by rw [E.out, eq_comm, Bool.eq_iff_iff]; simp only [Bool.or_eq_true, Bool.and_eq_true, decide_eq_true_eq, Bool.false_eq_true, true_or, or_true, false_or, or_false, iff_false, iff_true] <;> omega), HB⟩
      have m4 : (D4 != 0) = true := by rw [bne_iff_ne]; exact n4
      go_wp2
      go_ret
      exact ⟨ret_bool (by rw [E.out, eq_comm, Bool.eq_iff_iff]; simp only [Bool.or_eq_true, Bool.and_eq_true, decide_eq_true_eq, Bool.false_eq_true, true_or, or_true, false_or, or_false, iff_false, iff_true] <;> omega), HB⟩
    | false =>
      go_wp2_with fail
      refine (N3.out _).mono ?_
      rintro e w3 ⟨rfl, hb⟩
      replace X1 := blk_call X1 hb
      replace X2 := blk_call X2 hb
      replace X3 := blk_call X3 hb
      replace X4 := blk_call X4 hb
      replace HB := belT HB hb
      clear hb
      clear k1 k2 k3 k4 k5 k6 k7 k8 z1 z2 z3 z4
      have k1 := blk_cell X1 0 _ rfl
      have k2 := blk_cell X1 1 _ rfl
      have z1 := blk_lt X1
      have k3 := blk_cell X2 0 _ rfl
      have k4 := blk_cell X2 1 _ rfl
      have z2 := blk_lt X2
      have k5 := blk_cell X3 0 _ rfl
      have k6 := blk_cell X3 1 _ rfl
      have z3 := blk_lt X3
      have k7 := blk_cell X4 0 _ rfl
      have k8 := blk_cell X4 1 _ rfl
      have z4 := blk_lt X4
      cases e3 with
      | true =>
        have G1 := fun n os => cell_grown (n := n) (os := os) z1 k1
        have G2 := fun n os => cell_grown (n := n) (os := os) z1 k2
        have G3 := fun n os => cell_grown (n := n) (os := os) z2 k3
        have G4 := fun n os => cell_grown (n := n) (os := os) z2 k4
        have G5 := fun n os => cell_grown (n := n) (os := os) z3 k5
        have G6 := fun n os => cell_grown (n := n) (os := os) z3 k6
        have G7 := fun n os => cell_grown (n := n) (os := os) z4 k7
        have G8 := fun n os => cell_grown (n := n) (os := os) z4 k8
        go_upto_region 2 with fail
        clear k1 k2 k3 k4 k5 k6 k7 k8 z1 z2 z3 z4
        refine wq_region mixedP (by kernel_rfl) ?_
        repeat (refine wq_step (fun K hK => ?_); go_simp; first | (refine hK _ ?_; clear hK K) | (apply Exists.intro; refine ⟨fun _ => ?_, hK _ ?_⟩; (first | (go_at_call 30; first | with_reducible refine Calls.grown_of (C1.out _) | with_reducible refine Calls.grown_of (C2.out _))); clear hK K))
        refine wq_nil ?_
        intro _ hw'
        obtain ⟨⟨nq, osq⟩, hw''⟩ := hw'
        subst hw''
        clear G1 G2 G3 G4 G5 G6 G7 G8
        have hb := below_gr w3 nq osq
        replace X1 := blk_call X1 hb
        replace X2 := blk_call X2 hb
        replace X3 := blk_call X3 hb
        replace X4 := blk_call X4 hb
        replace HB := belT HB hb
        clear hb
        generalize Sort.grow (w3.drewN nq) osq = wa at *
        have k1 := blk_cell X1 0 _ rfl
        have k2 := blk_cell X1 1 _ rfl
        have z1 := blk_lt X1
        have k3 := blk_cell X2 0 _ rfl
        have k4 := blk_cell X2 1 _ rfl
        have z2 := blk_lt X2
        have k5 := blk_cell X3 0 _ rfl
        have k6 := blk_cell X3 1 _ rfl
        have z3 := blk_lt X3
        have k7 := blk_cell X4 0 _ rfl
        have k8 := blk_cell X4 1 _ rfl
        have z4 := blk_lt X4
        have G1 := fun n os => cell_grown (n := n) (os := os) z1 k1
        have G2 := fun n os => cell_grown (n := n) (os := os) z1 k2
        have G3 := fun n os => cell_grown (n := n) (os := os) z2 k3
        have G4 := fun n os => cell_grown (n := n) (os := os) z2 k4
        have G5 := fun n os => cell_grown (n := n) (os := os) z3 k5
        have G6 := fun n os => cell_grown (n := n) (os := os) z3 k6
        have G7 := fun n os => cell_grown (n := n) (os := os) z4 k7
        have G8 := fun n os => cell_grown (n := n) (os := os) z4 k8
        go_upto_region 3 with fail
        clear k1 k2 k3 k4 k5 k6 k7 k8 z1 z2 z3 z4
        refine wq_region mixedP (by kernel_rfl) ?_
        repeat (refine wq_step (fun K hK => ?_); go_simp; first | (refine hK _ ?_; clear hK K) | (apply Exists.intro; refine ⟨fun _ => ?_, hK _ ?_⟩; (first | (go_at_call 30; first | with_reducible refine Calls.grown_of (C3.out _) | with_reducible refine Calls.grown_of (C4.out _))); clear hK K))
        refine wq_nil ?_
        intro _ hw'
        obtain ⟨⟨nq, osq⟩, hw''⟩ := hw'
        subst hw''
        clear G1 G2 G3 G4 G5 G6 G7 G8
        have hb := below_gr wa nq osq
        replace X1 := blk_call X1 hb
        replace X2 := blk_call X2 hb
        replace X3 := blk_call X3 hb
        replace X4 := blk_call X4 hb
        replace HB := belT HB hb
        clear hb
        generalize Sort.grow (wa.drewN nq) osq = wb at *
        have k1 := blk_cell X1 0 _ rfl
        have k2 := blk_cell X1 1 _ rfl
        have z1 := blk_lt X1
        have k3 := blk_cell X2 0 _ rfl
        have k4 := blk_cell X2 1 _ rfl
        have z2 := blk_lt X2
        have k5 := blk_cell X3 0 _ rfl
        have k6 := blk_cell X3 1 _ rfl
        have z3 := blk_lt X3
        have k7 := blk_cell X4 0 _ rfl
        have k8 := blk_cell X4 1 _ rfl
        have z4 := blk_lt X4
        go_wp2_with fail
        refine (S1.out _).mono ?_
        rintro e wc1 ⟨rfl, hb⟩
        replace X1 := blk_call X1 hb
        replace X2 := blk_call X2 hb
        replace X3 := blk_call X3 hb
        replace X4 := blk_call X4 hb
        replace HB := belT HB hb
        clear hb
        clear k1 k2 k3 k4 k5 k6 k7 k8 z1 z2 z3 z4
        have k1 := blk_cell X1 0 _ rfl
        have k2 := blk_cell X1 1 _ rfl
        have z1 := blk_lt X1
        have k3 := blk_cell X2 0 _ rfl
        have k4 := blk_cell X2 1 _ rfl
        have z2 := blk_lt X2
        have k5 := blk_cell X3 0 _ rfl
        have k6 := blk_cell X3 1 _ rfl
        have z3 := blk_lt X3
        have k7 := blk_cell X4 0 _ rfl
        have k8 := blk_cell X4 1 _ rfl
        have z4 := blk_lt X4
        by_cases n1 : D1 = 0
        · have m1 : (D1 != 0) = false := by rw [bne_eq_false_iff_eq]; exact n1
          go_wp2
          go_ret
          exact ⟨ret_bool (by rw [E.out, eq_comm, Bool.eq_iff_iff]; simp only [Bool.or_eq_true, Bool.and_eq_true, decide_eq_true_eq, Bool.false_eq_true, true_or, or_true, false_or, or_false, iff_false, iff_true] <;> omega), HB⟩
        have m1 : (D1 != 0) = true := by rw [bne_iff_ne]; exact n1
        go_wp2_with fail
        refine (S2.out _).mono ?_
        rintro e wc2 ⟨rfl, hb⟩
        replace X1 := blk_call X1 hb
        replace X2 := blk_call X2 hb
        replace X3 := blk_call X3 hb
        replace X4 := blk_call X4 hb
        replace HB := belT HB hb
        clear hb
        clear k1 k2 k3 k4 k5 k6 k7 k8 z1 z2 z3 z4
        have k1 := blk_cell X1 0 _ rfl
        have k2 := blk_cell X1 1 _ rfl
        have z1 := blk_lt X1
        have k3 := blk_cell X2 0 _ rfl
        have k4 := blk_cell X2 1 _ rfl
        have z2 := blk_lt X2
        have k5 := blk_cell X3 0 _ rfl
        have k6 := blk_cell X3 1 _ rfl
        have z3 := blk_lt X3
        have k7 := blk_cell X4 0 _ rfl
        have k8 := blk_cell X4 1 _ rfl
        have z4 := blk_lt X4
        by_cases n2 : D2 = 0
        · have m2 : (D2 != 0) = false := by rw [bne_eq_false_iff_eq]; exact n2
          go_wp2
          go_ret
          exact ⟨ret_bool (by rw [E.out, eq_comm, Bool.eq_iff_iff]; simp only [Bool.or_eq_true, Bool.and_eq_true, decide_eq_true_eq, Bool.false_eq_true, true_or, or_true, false_or, or_false, iff_false, iff_true] <;> omega), HB⟩
        have m2 : (D2 != 0) = true := by rw [bne_iff_ne]; exact n2
        go_wp2_with fail
        refine (S3.out _).mono ?_
        rintro e wc3 ⟨rfl, hb⟩
        replace X1 := blk_call X1 hb
        replace X2 := blk_call X2 hb
        replace X3 := blk_call X3 hb
        replace X4 := blk_call X4 hb
        replace HB := belT HB hb
        clear hb
        clear k1 k2 k3 k4 k5 k6 k7 k8 z1 z2 z3 z4
        have k1 := blk_cell X1 0 _ rfl
        have k2 := blk_cell X1 1 _ rfl
        have z1 := blk_lt X1
        have k3 := blk_cell X2 0 _ rfl
        have k4 := blk_cell X2 1 _ rfl
        have z2 := blk_lt X2
        have k5 := blk_cell X3 0 _ rfl
        have k6 := blk_cell X3 1 _ rfl
        have z3 := blk_lt X3
        have k7 := blk_cell X4 0 _ rfl
        have k8 := blk_cell X4 1 _ rfl
        have z4 := blk_lt X4
        by_cases n3 : D3 = 0
        · have m3 : (D3 != 0) = false := by rw [bne_eq_false_iff_eq]; exact n3
          go_wp2
          go_ret
          exact ⟨ret_bool (by rw [E.out, eq_comm, Bool.eq_iff_iff]; simp only [Bool.or_eq_true, Bool.and_eq_true, decide_eq_true_eq, Bool.false_eq_true, true_or, or_true, false_or, or_false, iff_false, iff_true] <;> omega), HB⟩
        have m3 : (D3 != 0) = true := by rw [bne_iff_ne]; exact n3
        go_wp2_with fail
        refine (S4.out _).mono ?_
        rintro e wc4 ⟨rfl, hb⟩
        replace X1 := blk_call X1 hb
        replace X2 := blk_call X2 hb
        replace X3 := blk_call X3 hb
        replace X4 := blk_call X4 hb
        replace HB := belT HB hb
        clear hb
        clear k1 k2 k3 k4 k5 k6 k7 k8 z1 z2 z3 z4
        have k1 := blk_cell X1 0 _ rfl
        have k2 := blk_cell X1 1 _ rfl
        have z1 := blk_lt X1
        have k3 := blk_cell X2 0 _ rfl
        have k4 := blk_cell X2 1 _ rfl
        have z2 := blk_lt X2
        have k5 := blk_cell X3 0 _ rfl
        have k6 := blk_cell X3 1 _ rfl
        have z3 := blk_lt X3
        have k7 := blk_cell X4 0 _ rfl
        have k8 := blk_cell X4 1 _ rfl
        have z4 := blk_lt X4
        by_cases n4 : D4 = 0
        · have m4 : (D4 != 0) = false := by rw [bne_eq_false_iff_eq]; exact n4
          go_wp2
          go_ret
          exact ⟨ret_bool (by rw [E.out, eq_comm, Bool.eq_iff_iff]; simp only [Bool.or_eq_true, Bool.and_eq_true, decide_eq_true_eq, Bool.false_eq_true, true_or, or_true, false_or, or_false, iff_false, iff_true] <;> omega), HB⟩
        have m4 : (D4 != 0) = true := by rw [bne_iff_ne]; exact n4
        go_wp2
        go_ret
        exact ⟨ret_bool (by rw [E.out, eq_comm, Bool.eq_iff_iff]; simp only [Bool.or_eq_true, Bool.and_eq_true, decide_eq_true_eq, Bool.false_eq_true, true_or, or_true, false_or, or_false, iff_false, iff_true] <;> omega), HB⟩
      | false =>
        go_wp2_with fail
        refine (N4.out _).mono ?_
        rintro e w4 ⟨rfl, hb⟩
        replace X1 := blk_call X1 hb
        replace X2 := blk_call X2 hb
        replace X3 := blk_call X3 hb
        replace X4 := blk_call X4 hb
        replace HB := belT HB hb
        clear hb
        clear k1 k2 k3 k4 k5 k6 k7 k8 z1 z2 z3 z4
        have k1 := blk_cell X1 0 _ rfl
        have k2 := blk_cell X1 1 _ rfl
        have z1 := blk_lt X1
        have k3 := blk_cell X2 0 _ rfl
        have k4 := blk_cell X2 1 _ rfl
        have z2 := blk_lt X2
        have k5 := blk_cell X3 0 _ rfl
        have k6 := blk_cell X3 1 _ rfl
        have z3 := blk_lt X3
        have k7 := blk_cell X4 0 _ rfl
        have k8 := blk_cell X4 1 _ rfl
        have z4 := blk_lt X4
        cases e4 with
        | true =>
          have G1 := fun n os => cell_grown (n := n) (os := os) z1 k1
          have G2 := fun n os => cell_grown (n := n) (os := os) z1 k2
          have G3 := fun n os => cell_grown (n := n) (os := os) z2 k3
          have G4 := fun n os => cell_grown (n := n) (os := os) z2 k4
          have G5 := fun n os => cell_grown (n := n) (os := os) z3 k5
          have G6 := fun n os => cell_grown (n := n) (os := os) z3 k6
          have G7 := fun n os => cell_grown (n := n) (os := os) z4 k7
          have G8 := fun n os => cell_grown (n := n) (os := os) z4 k8
          go_upto_region 2 with fail
          clear k1 k2 k3 k4 k5 k6 k7 k8 z1 z2 z3 z4
          refine wq_region mixedP (by kernel_rfl) ?_
          repeat (refine wq_step (fun K hK => ?_); go_simp; first | (refine hK _ ?_; clear hK K) | (apply Exists.intro; refine ⟨fun _ => ?_, hK _ ?_⟩; (first | (go_at_call 30; first | with_reducible refine Calls.grown_of (C1.out _) | with_reducible refine Calls.grown_of (C2.out _))); clear hK K))
          refine wq_nil ?_
          intro _ hw'
          obtain ⟨⟨nq, osq⟩, hw''⟩ := hw'
          subst hw''
          clear G1 G2 G3 G4 G5 G6 G7 G8
          have hb := below_gr w4 nq osq
          replace X1 := blk_call X1 hb
          replace X2 := blk_call X2 hb
          replace X3 := blk_call X3 hb
          replace X4 := blk_call X4 hb
          replace HB := belT HB hb
          clear hb
          generalize Sort.grow (w4.drewN nq) osq = wa at *
          have k1 := blk_cell X1 0 _ rfl
          have k2 := blk_cell X1 1 _ rfl
          have z1 := blk_lt X1
          have k3 := blk_cell X2 0 _ rfl
          have k4 := blk_cell X2 1 _ rfl
          have z2 := blk_lt X2
          have k5 := blk_cell X3 0 _ rfl
          have k6 := blk_cell X3 1 _ rfl
          have z3 := blk_lt X3
          have k7 := blk_cell X4 0 _ rfl
          have k8 := blk_cell X4 1 _ rfl
          have z4 := blk_lt X4
          have G1 := fun n os => cell_grown (n := n) (os := os) z1 k1
          have G2 := fun n os => cell_grown (n := n) (os := os) z1 k2
          have G3 := fun n os => cell_grown (n := n) (os := os) z2 k3
          have G4 := fun n os => cell_grown (n := n) (os := os) z2 k4
          have G5 := fun n os => cell_grown (n := n) (os := os) z3 k5
          have G6 := fun n os => cell_grown (n := n) (os := os) z3 k6
          have G7 := fun n os => cell_grown (n := n) (os := os) z4 k7
          have G8 := fun n os => cell_grown (n := n) (os := os) z4 k8
          go_upto_region 3 with fail
          clear k1 k2 k3 k4 k5 k6 k7 k8 z1 z2 z3 z4
          refine wq_region mixedP (by kernel_rfl) ?_
          repeat (refine wq_step (fun K hK => ?_); go_simp; first | (refine hK _ ?_; clear hK K) | (apply Exists.intro; refine ⟨fun _ => ?_, hK _ ?_⟩; (first | (go_at_call 30; first | with_reducible refine Calls.grown_of (C3.out _) | with_reducible refine Calls.grown_of (C4.out _))); clear hK K))
          refine wq_nil ?_
          intro _ hw'
          obtain ⟨⟨nq, osq⟩, hw''⟩ := hw'
          subst hw''
          clear G1 G2 G3 G4 G5 G6 G7 G8
          have hb := below_gr wa nq osq
          replace X1 := blk_call X1 hb
          replace X2 := blk_call X2 hb
          replace X3 := blk_call X3 hb
          replace X4 := blk_call X4 hb
          replace HB := belT HB hb
          clear hb
          generalize Sort.grow (wa.drewN nq) osq = wb at *
          have k1 := blk_cell X1 0 _ rfl
          have k2 := blk_cell X1 1 _ rfl
          have z1 := blk_lt X1
          have k3 := blk_cell X2 0 _ rfl
          have k4 := blk_cell X2 1 _ rfl
          have z2 := blk_lt X2
          have k5 := blk_cell X3 0 _ rfl
          have k6 := blk_cell X3 1 _ rfl
          have z3 := blk_lt X3
          have k7 := blk_cell X4 0 _ rfl
          have k8 := blk_cell X4 1 _ rfl
          have z4 := blk_lt X4
          go_wp2_with fail
          refine (S1.out _).mono ?_
          rintro e wc1 ⟨rfl, hb⟩
          replace X1 := blk_call X1 hb
          replace X2 := blk_call X2 hb
          replace X3 := blk_call X3 hb
          replace X4 := blk_call X4 hb
          replace HB := belT HB hb
          clear hb
          clear k1 k2 k3 k4 k5 k6 k7 k8 z1 z2 z3 z4
          have k1 := blk_cell X1 0 _ rfl
          have k2 := blk_cell X1 1 _ rfl
          have z1 := blk_lt X1
          have k3 := blk_cell X2 0 _ rfl
          have k4 := blk_cell X2 1 _ rfl
          have z2 := blk_lt X2
          have k5 := blk_cell X3 0 _ rfl
          have k6 := blk_cell X3 1 _ rfl
          have z3 := blk_lt X3
          have k7 := blk_cell X4 0 _ rfl
          have k8 := blk_cell X4 1 _ rfl
          have z4 := blk_lt X4
          by_cases n1 : D1 = 0
          · have m1 : (D1 != 0) = false := by rw [bne_eq_false_iff_eq]; exact n1
            go_wp2
            go_ret
            exact ⟨ret_bool (by rw [E.out, eq_comm, Bool.eq_iff_iff]; simp only [Bool.or_eq_true, Bool.and_eq_true, decide_eq_true_eq, Bool.false_eq_true, true_or, or_true, false_or, or_false, iff_false, iff_true] <;> omega), HB⟩
          have m1 : (D1 != 0) = true := by rw [bne_iff_ne]; exact n1
          go_wp2_with fail
          refine (S2.out _).mono ?_
          rintro e wc2 ⟨rfl, hb⟩
          replace X1 := blk_call X1 hb
          replace X2 := blk_call X2 hb
          replace X3 := blk_call X3 hb
          replace X4 := blk_call X4 hb
          replace HB := belT HB hb
          clear hb
          clear k1 k2 k3 k4 k5 k6 k7 k8 z1 z2 z3 z4
          have k1 := blk_cell X1 0 _ rfl
          have k2 := blk_cell X1 1 _ rfl
          have z1 := blk_lt X1
          have k3 := blk_cell X2 0 _ rfl
          have k4 := blk_cell X2 1 _ rfl
          have z2 := blk_lt X2
          have k5 := blk_cell X3 0 _ rfl
          have k6 := blk_cell X3 1 _ rfl
          have z3 := blk_lt X3
          have k7 := blk_cell X4 0 _ rfl
          have k8 := blk_cell X4 1 _ rfl
          have z4 := blk_lt X4
          by_cases n2 : D2 = 0
          · have m2 : (D2 != 0) = false := by rw [bne_eq_false_iff_eq]; exact n2
            go_wp2
            go_ret
            exact ⟨ret_bool (by rw [E.out, eq_comm, Bool.eq_iff_iff]; simp only [Bool.or_eq_true, Bool.and_eq_true, decide_eq_true_eq, Bool.false_eq_true, true_or, or_true, false_or, or_false, iff_false, iff_true] <;> omega), HB⟩
          have m2 : (D2 != 0) = true := by rw [bne_iff_ne]; exact n2
          go_wp2_with fail
          refine (S3.out _).mono ?_
          rintro e wc3 ⟨rfl, hb⟩
          replace X1 := blk_call X1 hb
          replace X2 := blk_call X2 hb
          replace X3 := blk_call X3 hb
          replace X4 := blk_call X4 hb
          replace HB := belT HB hb
          clear hb
          clear k1 k2 k3 k4 k5 k6 k7 k8 z1 z2 z3 z4
          have k1 := blk_cell X1 0 _ rfl
          have k2 := blk_cell X1 1 _ rfl
          have z1 := blk_lt X1
          have k3 := blk_cell X2 0 _ rfl
          have k4 := blk_cell X2 1 _ rfl
          have z2 := blk_lt X2
          have k5 := blk_cell X3 0 _ rfl
          have k6 := blk_cell X3 1 _ rfl
          have z3 := blk_lt X3
          have k7 := blk_cell X4 0 _ rfl
          have k8 := blk_cell X4 1 _ rfl
          have z4 := blk_lt X4
          by_cases n3 : D3 = 0
          · have m3 : (D3 != 0) = false := by rw [bne_eq_false_iff_eq]; exact n3
            go_wp2
            go_ret
            exact ⟨ret_bool (by rw [E.out, eq_comm, Bool.eq_iff_iff]; simp only [Bool.or_eq_true, Bool.and_eq_true, decide_eq_true_eq, Bool.false_eq_true, true_or, or_true, false_or, or_false, iff_false, iff_true] <;> omega), HB⟩
          have m3 : (D3 != 0) = true := by rw [bne_iff_ne]; exact n3
          go_wp2_with fail
          refine (S4.out _).mono ?_
          rintro e wc4 ⟨rfl, hb⟩
          replace X1 := blk_call X1 hb
          replace X2 := blk_call X2 hb
          replace X3 := blk_call X3 hb
          replace X4 := blk_call X4 hb
          replace HB := belT HB hb
          clear hb
          clear k1 k2 k3 k4 k5 k6 k7 k8 z1 z2 z3 z4
          have k1 := blk_cell X1 0 _ rfl
          have k2 := blk_cell X1 1 _ rfl
          have z1 := blk_lt X1
          have k3 := blk_cell X2 0 _ rfl
          have k4 := blk_cell X2 1 _ rfl
          have z2 := blk_lt X2
          have k5 := blk_cell X3 0 _ rfl
          have k6 := blk_cell X3 1 _ rfl
          have z3 := blk_lt X3
          have k7 := blk_cell X4 0 _ rfl
          have k8 := blk_cell X4 1 _ rfl
          have z4 := blk_lt X4
          by_cases n4 : D4 = 0
          · have m4 : (D4 != 0) = false := by rw [bne_eq_false_iff_eq]; exact n4
            go_wp2
            go_ret
            exact ⟨ret_bool (by rw [E.out, eq_comm, Bool.eq_iff_iff]; simp only [Bool.or_eq_true, Bool.and_eq_true, decide_eq_true_eq, Bool.false_eq_true, true_or, or_true, false_or, or_false, iff_false, iff_true] <;> omega), HB⟩
          have m4 : (D4 != 0) = true := by rw [bne_iff_ne]; exact n4
          go_wp2
          go_ret
          exact ⟨ret_bool (by rw [E.out, eq_comm, Bool.eq_iff_iff]; simp only [Bool.or_eq_true, Bool.and_eq_true, decide_eq_true_eq, Bool.false_eq_true, true_or, or_true, false_or, or_false, iff_false, iff_true] <;> omega), HB⟩
        | false =>
          have G1 := fun n os => cell_grown (n := n) (os := os) z1 k1
          have G2 := fun n os => cell_grown (n := n) (os := os) z1 k2
          have G3 := fun n os => cell_grown (n := n) (os := os) z2 k3
          have G4 := fun n os => cell_grown (n := n) (os := os) z2 k4
          have G5 := fun n os => cell_grown (n := n) (os := os) z3 k5
          have G6 := fun n os => cell_grown (n := n) (os := os) z3 k6
          have G7 := fun n os => cell_grown (n := n) (os := os) z4 k7
          have G8 := fun n os => cell_grown (n := n) (os := os) z4 k8
          go_upto_region 2 with fail
          clear k1 k2 k3 k4 k5 k6 k7 k8 z1 z2 z3 z4
          refine wq_region mixedP (by kernel_rfl) ?_
          repeat (refine wq_step (fun K hK => ?_); go_simp; first | (refine hK _ ?_; clear hK K) | (apply Exists.intro; refine ⟨fun _ => ?_, hK _ ?_⟩; (first | (go_at_call 30; first | with_reducible refine Calls.grown_of (C1.out _) | with_reducible refine Calls.grown_of (C2.out _))); clear hK K))
          refine wq_nil ?_
          intro _ hw'
          obtain ⟨⟨nq, osq⟩, hw''⟩ := hw'
          subst hw''
          clear G1 G2 G3 G4 G5 G6 G7 G8
          have hb := below_gr w4 nq osq
          replace X1 := blk_call X1 hb
          replace X2 := blk_call X2 hb
          replace X3 := blk_call X3 hb
          replace X4 := blk_call X4 hb
          replace HB := belT HB hb
          clear hb
          generalize Sort.grow (w4.drewN nq) osq = wa at *
          have k1 := blk_cell X1 0 _ rfl
          have k2 := blk_cell X1 1 _ rfl
          have z1 := blk_lt X1
          have k3 := blk_cell X2 0 _ rfl
          have k4 := blk_cell X2 1 _ rfl
          have z2 := blk_lt X2
          have k5 := blk_cell X3 0 _ rfl
          have k6 := blk_cell X3 1 _ rfl
          have z3 := blk_lt X3
          have k7 := blk_cell X4 0 _ rfl
          have k8 := blk_cell X4 1 _ rfl
          have z4 := blk_lt X4
          have G1 := fun n os => cell_grown (n := n) (os := os) z1 k1
          have G2 := fun n os => cell_grown (n := n) (os := os) z1 k2
          have G3 := fun n os => cell_grown (n := n) (os := os) z2 k3
          have G4 := fun n os => cell_grown (n := n) (os := os) z2 k4
          have G5 := fun n os => cell_grown (n := n) (os := os) z3 k5
          have G6 := fun n os => cell_grown (n := n) (os := os) z3 k6
          have G7 := fun n os => cell_grown (n := n) (os := os) z4 k7
          have G8 := fun n os => cell_grown (n := n) (os := os) z4 k8
          go_upto_region 3 with fail
          clear k1 k2 k3 k4 k5 k6 k7 k8 z1 z2 z3 z4
          refine wq_region mixedP (by kernel_rfl) ?_
          repeat (refine wq_step (fun K hK => ?_); go_simp; first | (refine hK _ ?_; clear hK K) | (apply Exists.intro; refine ⟨fun _ => ?_, hK _ ?_⟩; (first | (go_at_call 30; first | with_reducible refine Calls.grown_of (C3.out _) | with_reducible refine Calls.grown_of (C4.out _))); clear hK K))
          refine wq_nil ?_
          intro _ hw'
          obtain ⟨⟨nq, osq⟩, hw''⟩ := hw'
          subst hw''
          clear G1 G2 G3 G4 G5 G6 G7 G8
          have hb := below_gr wa nq osq
          replace X1 := blk_call X1 hb
          replace X2 := blk_call X2 hb
          replace X3 := blk_call X3 hb
          replace X4 := blk_call X4 hb
          replace HB := belT HB hb
          clear hb
          generalize Sort.grow (wa.drewN nq) osq = wb at *
          have k1 := blk_cell X1 0 _ rfl
          have k2 := blk_cell X1 1 _ rfl
          have z1 := blk_lt X1
          have k3 := blk_cell X2 0 _ rfl
          have k4 := blk_cell X2 1 _ rfl
          have z2 := blk_lt X2
          have k5 := blk_cell X3 0 _ rfl
          have k6 := blk_cell X3 1 _ rfl
          have z3 := blk_lt X3
          have k7 := blk_cell X4 0 _ rfl
          have k8 := blk_cell X4 1 _ rfl
          have z4 := blk_lt X4
          go_wp2_with fail
          refine (S1.out _).mono ?_
          rintro e wc1 ⟨rfl, hb⟩
          replace X1 := blk_call X1 hb
          replace X2 := blk_call X2 hb
          replace X3 := blk_call X3 hb
          replace X4 := blk_call X4 hb
          replace HB := belT HB hb
          clear hb
          clear k1 k2 k3 k4 k5 k6 k7 k8 z1 z2 z3 z4
          have k1 := blk_cell X1 0 _ rfl
          have k2 := blk_cell X1 1 _ rfl
          have z1 := blk_lt X1
          have k3 := blk_cell X2 0 _ rfl
          have k4 := blk_cell X2 1 _ rfl
          have z2 := blk_lt X2
          have k5 := blk_cell X3 0 _ rfl
          have k6 := blk_cell X3 1 _ rfl
          have z3 := blk_lt X3
          have k7 := blk_cell X4 0 _ rfl
          have k8 := blk_cell X4 1 _ rfl
          have z4 := blk_lt X4
          by_cases n1 : D1 = 0
          · have m1 : (D1 != 0) = false := by rw [bne_eq_false_iff_eq]; exact n1
            go_wp2
            go_ret
            exact ⟨ret_bool (by rw [E.out, eq_comm, Bool.eq_iff_iff]; simp only [Bool.or_eq_true, Bool.and_eq_true, decide_eq_true_eq, Bool.false_eq_true, true_or, or_true, false_or, or_false, iff_false, iff_true] <;> omega), HB⟩
          have m1 : (D1 != 0) = true := by rw [bne_iff_ne]; exact n1
          go_wp2_with fail
          refine (S2.out _).mono ?_
          rintro e wc2 ⟨rfl, hb⟩
          replace X1 := blk_call X1 hb
          replace X2 := blk_call X2 hb
          replace X3 := blk_call X3 hb
          replace X4 := blk_call X4 hb
          replace HB := belT HB hb
          clear hb
          clear k1 k2 k3 k4 k5 k6 k7 k8 z1 z2 z3 z4
          have k1 := blk_cell X1 0 _ rfl
          have k2 := blk_cell X1 1 _ rfl
          have z1 := blk_lt X1
          have k3 := blk_cell X2 0 _ rfl
          have k4 := blk_cell X2 1 _ rfl
          have z2 := blk_lt X2
          have k5 := blk_cell X3 0 _ rfl
          have k6 := blk_cell X3 1 _ rfl
          have z3 := blk_lt X3
          have k7 := blk_cell X4 0 _ rfl
          have k8 := blk_cell X4 1 _ rfl
          have z4 := blk_lt X4
          by_cases n2 : D2 = 0
          · have m2 : (D2 != 0) = false := by rw [bne_eq_false_iff_eq]; exact n2
            go_wp2
            go_ret
            exact ⟨ret_bool (by rw [E.out, eq_comm, Bool.eq_iff_iff]; simp only [Bool.or_eq_true, Bool.and_eq_true, decide_eq_true_eq, Bool.false_eq_true, true_or, or_true, false_or, or_false, iff_false, iff_true] <;> omega), HB⟩
          have m2 : (D2 != 0) = true := by rw [bne_iff_ne]; exact n2
          go_wp2_with fail
          refine (S3.out _).mono ?_
          rintro e wc3 ⟨rfl, hb⟩
          replace X1 := blk_call X1 hb
          replace X2 := blk_call X2 hb
          replace X3 := blk_call X3 hb
          replace X4 := blk_call X4 hb
          replace HB := belT HB hb
          clear hb
          clear k1 k2 k3 k4 k5 k6 k7 k8 z1 z2 z3 z4
          have k1 := blk_cell X1 0 _ rfl
          have k2 := blk_cell X1 1 _ rfl
          have z1 := blk_lt X1
          have k3 := blk_cell X2 0 _ rfl
          have k4 := blk_cell X2 1 _ rfl
          have z2 := blk_lt X2
          have k5 := blk_cell X3 0 _ rfl
          have k6 := blk_cell X3 1 _ rfl
          have z3 := blk_lt X3
          have k7 := blk_cell X4 0 _ rfl
          have k8 := blk_cell X4 1 _ rfl
          have z4 := blk_lt X4
          by_cases n3 : D3 = 0
          · have m3 : (D3 != 0) = false := by rw [bne_eq_false_iff_eq]; exact n3
            go_wp2
            go_ret
            exact ⟨ret_bool (by rw [E.out, eq_comm, Bool.eq_iff_iff]; simp only [Bool.or_eq_true, Bool.and_eq_true, decide_eq_true_eq, Bool.false_eq_true, true_or, or_true, false_or, or_false, iff_false, iff_true] <;> omega), HB⟩
          have m3 : (D3 != 0) = true := by rw [bne_iff_ne]; exact n3
          go_wp2_with fail
          refine (S4.out _).mono ?_
          rintro e wc4 ⟨rfl, hb⟩
          replace X1 := blk_call X1 hb
          replace X2 := blk_call X2 hb
          replace X3 := blk_call X3 hb
          replace X4 := blk_call X4 hb
          replace HB := belT HB hb
          clear hb
          clear k1 k2 k3 k4 k5 k6 k7 k8 z1 z2 z3 z4
          have k1 := blk_cell X1 0 _ rfl
          have k2 := blk_cell X1 1 _ rfl
          have z1 := blk_lt X1
          have k3 := blk_cell X2 0 _ rfl
          have k4 := blk_cell X2 1 _ rfl
          have z2 := blk_lt X2
          have k5 := blk_cell X3 0 _ rfl
          have k6 := blk_cell X3 1 _ rfl
          have z3 := blk_lt X3
          have k7 := blk_cell X4 0 _ rfl
          have k8 := blk_cell X4 1 _ rfl
          have z4 := blk_lt X4
          by_cases n4 : D4 = 0
          · have m4 : (D4 != 0) = false := by rw [bne_eq_false_iff_eq]; exact n4
            go_wp2
            go_ret
            exact ⟨ret_bool (by rw [E.out, eq_comm, Bool.eq_iff_iff]; simp only [Bool.or_eq_true, Bool.and_eq_true, decide_eq_true_eq, Bool.false_eq_true, true_or, or_true, false_or, or_false, iff_false, iff_true] <;> omega), HB⟩
          have m4 : (D4 != 0) = true := by rw [bne_iff_ne]; exact n4
          cases f1 : decide (0 < D1) <;> cases f2 : decide (0 < D2) <;> cases f3 : decide (0 < D3) <;> cases f4 : decide (0 < D4)
          all_goals
            simp only [decide_eq_true_eq, decide_eq_false_iff_not] at f1 f2 f3 f4
            go_wp2
            go_ret
            first | exact ⟨ret_bool (by rw [E.out, eq_comm, Bool.eq_iff_iff]; simp only [Bool.or_eq_true, Bool.and_eq_true, decide_eq_true_eq, Bool.false_eq_true, true_or, or_true, false_or, or_false, iff_false, iff_true] <;> omega), HB⟩ | exact ⟨ret_bool (by rw [E.out, eq_comm, Bool.eq_iff_iff]; simp only [Bool.or_eq_true, Bool.and_eq_true, decide_eq_true_eq, Bool.false_eq_true, true_or, or_true, false_or, or_false, iff_false, iff_true, Bool.not_eq_true', beq_iff_eq, beq_eq_false_iff_ne, decide_eq_decide, ne_eq] <;> omega), HB⟩
end Go.Proofs.Ytnpadblfpaiofaa
