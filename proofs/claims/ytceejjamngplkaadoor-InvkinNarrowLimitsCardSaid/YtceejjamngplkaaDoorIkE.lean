/- Contracts of package invkin: Distance; of the reference: Far, Same, Has; of the laws: small, rises. -/
import Derived.Test.YtceejjamngplkaaDoorIkE0
namespace Go.Proofs.YtceejjamngplkaaDoor
open Go.ChangeShapes Go.WideShapes Go.ChangeAt Go.RowKit
set_option linter.unusedVariables false
set_option linter.unusedSimpArgs false
set_option maxRecDepth 100000
def abI (a b : Int) : Int := mxI (a - b) (b - a)
def dst3 (p q : J3) : Int := abI p.1 q.1 + abI p.2.1 q.2.1 + abI p.2.2 q.2.2
def B1000 (q : J3) : Prop := (-1000 ≤ q.1 ∧ q.1 ≤ 1000) ∧ (-1000 ≤ q.2.1 ∧ q.2.1 ≤ 1000) ∧ -1000 ≤ q.2.2 ∧ q.2.2 ≤ 1000
theorem ab_bd {a b : Int} (ha : -1000 ≤ a ∧ a ≤ 1000) (hb : -1000 ≤ b ∧ b ≤ 1000) : 0 ≤ abI a b ∧ abI a b ≤ 2000 := by
  unfold abI mxI
  split <;> omega
set_option maxHeartbeats 4000000 in
theorem dist_any (a b c d e f : Int) (w : World) (h1 : B1000 (a, b, c)) (h2 : B1000 (d, e, f)) :
    Calls Tryd.prog 28 #[.agg #[.int .i64 a, .int .i64 b, .int .i64 c], .agg #[.int .i64 d, .int .i64 e, .int .i64 f]] w fun r w' => r = .returned (.int .i64 (dst3 (a, b, c) (d, e, f))) ∧ Below w.heap.size w w' := by
  unfold B1000 at h1 h2
  simp only at h1 h2
  obtain ⟨ha, hb, hc⟩ := h1
  obtain ⟨hd, he, hf⟩ := h2
  obtain ⟨m0, e0⟩ : ∃ m, abI a d = m := ⟨_, rfl⟩
  obtain ⟨m1, e1⟩ : ∃ m, abI b e = m := ⟨_, rfl⟩
  obtain ⟨m2, e2⟩ : ∃ m, abI c f = m := ⟨_, rfl⟩
  have r0 := ab_bd ha hd
  have r1 := ab_bd hb he
  have r2 := ab_bd hc hf
  have E : Hid (dst3 (a, b, c) (d, e, f) = m0 + m1 + m2) := Lib.hid (by unfold dst3; simp only; rw [e0, e1, e2])
  have M0 : ∀ w : World, (Builtin.max_ #[3, 3] 3 #[.int .i64 (a - d), .int .i64 (d - a)]).run Tryd.prog w = .ok (.int .i64 m0) w := fun w => by rw [run_max2, ← e0]; rfl
  have M1 : ∀ w : World, (Builtin.max_ #[3, 3] 3 #[.int .i64 (b - e), .int .i64 (e - b)]).run Tryd.prog w = .ok (.int .i64 m1) w := fun w => by rw [run_max2, ← e1]; rfl
  have M2 : ∀ w : World, (Builtin.max_ #[3, 3] 3 #[.int .i64 (c - f), .int .i64 (f - c)]).run Tryd.prog w = .ok (.int .i64 m2) w := fun w => by rw [run_max2, ← e2]; rfl
  rw [e0] at r0
  rw [e1] at r1
  rw [e2] at r2
  clear e0 e1 e2
  go_enter Tryd.func28, Tryd.ntmps28
  go_wp2_with fail
  refine wp_loop_rounds 4 ?_
  rw [rounds_succ]
  go_wp2_with fail
  go_region
  go_wp2_with fail
  rw [rounds_succ]
  go_wp2_with fail
  go_region
  go_wp2_with fail
  rw [rounds_succ]
  go_wp2_with fail
  go_region
  go_wp2_with fail
  rw [rounds_succ]
  go_wp2_with fail
  go_ret
  exact ⟨ret_int E.out.symm, by go_grown⟩
theorem dist_is (a b c d e f m : Int) (w : World) (h1 : B1000 (a, b, c)) (h2 : B1000 (d, e, f)) (hm : Hid (dst3 (a, b, c) (d, e, f) = m)) :
    Calls Tryd.prog 28 #[.agg #[.int .i64 a, .int .i64 b, .int .i64 c], .agg #[.int .i64 d, .int .i64 e, .int .i64 f]] w fun r w' => r = .returned (.int .i64 m) ∧ Below w.heap.size w w' := by
  rw [← hm.out]; exact dist_any a b c d e f w h1 h2
/-- All values between -1000 and 1000. -/
def smB (q : J3) : Bool := decide ((-1000 ≤ q.1 ∧ q.1 ≤ 1000) ∧ (-1000 ≤ q.2.1 ∧ q.2.1 ≤ 1000) ∧ -1000 ≤ q.2.2 ∧ q.2.2 ≤ 1000)
set_option maxHeartbeats 4000000 in
theorem small_is (a b c : Int) (t : Bool) (w : World) (ht : Hid (smB (a, b, c) = t)) :
    Calls Tryd.prog 18 #[.agg #[.int .i64 a, .int .i64 b, .int .i64 c]] w fun r w' => r = .returned (.bool t) ∧ Below w.heap.size w w' := by
  have HF : Hid (¬ ((-1000 ≤ a ∧ a ≤ 1000) ∧ (-1000 ≤ b ∧ b ≤ 1000) ∧ -1000 ≤ c ∧ c ≤ 1000) → t = false) := Lib.hid (fun h => by rw [← ht.out]; exact decide_eq_false h)
  have HT : Hid (((-1000 ≤ a ∧ a ≤ 1000) ∧ (-1000 ≤ b ∧ b ≤ 1000) ∧ -1000 ≤ c ∧ c ≤ 1000) → t = true) := Lib.hid (fun h => by rw [← ht.out]; exact decide_eq_true h)
  by_cases a1 : a < -1000
  · go_enter Tryd.func18, Tryd.ntmps18
    go_wp2_with fail
    refine wp_loop_rounds 4 ?_
    rw [rounds_succ]
    go_wp2_with fail
    go_ret
    exact ⟨ret_bool (HF.out (by omega)).symm, by go_grown⟩
  by_cases a2 : 1000 < a
  · go_enter Tryd.func18, Tryd.ntmps18
    go_wp2_with fail
    refine wp_loop_rounds 4 ?_
    rw [rounds_succ]
    go_wp2_with fail
    go_ret
    exact ⟨ret_bool (HF.out (by omega)).symm, by go_grown⟩
  by_cases b1 : b < -1000
  · go_enter Tryd.func18, Tryd.ntmps18
    go_wp2_with fail
    refine wp_loop_rounds 4 ?_
    iterate 2 (rw [rounds_succ]; go_wp2_with fail)
    go_ret
    exact ⟨ret_bool (HF.out (by omega)).symm, by go_grown⟩
  by_cases b2 : 1000 < b
  · go_enter Tryd.func18, Tryd.ntmps18
    go_wp2_with fail
    refine wp_loop_rounds 4 ?_
    iterate 2 (rw [rounds_succ]; go_wp2_with fail)
    go_ret
    exact ⟨ret_bool (HF.out (by omega)).symm, by go_grown⟩
  by_cases c1 : c < -1000
  · go_enter Tryd.func18, Tryd.ntmps18
    go_wp2_with fail
    refine wp_loop_rounds 4 ?_
    iterate 3 (rw [rounds_succ]; go_wp2_with fail)
    go_ret
    exact ⟨ret_bool (HF.out (by omega)).symm, by go_grown⟩
  by_cases c2 : 1000 < c
  · go_enter Tryd.func18, Tryd.ntmps18
    go_wp2_with fail
    refine wp_loop_rounds 4 ?_
    iterate 3 (rw [rounds_succ]; go_wp2_with fail)
    go_ret
    exact ⟨ret_bool (HF.out (by omega)).symm, by go_grown⟩
  go_enter Tryd.func18, Tryd.ntmps18
  go_wp2_with fail
  refine wp_loop_rounds 4 ?_
  iterate 4 (rw [rounds_succ]; go_wp2_with fail)
  go_ret
  exact ⟨ret_bool (HT.out (by omega)).symm, by go_grown⟩
instance (p q : J3) : Decidable (lt3 p q) := by unfold lt3; infer_instance
def ltB (p q : J3) : Bool := decide (lt3 p q)
set_option maxHeartbeats 4000000 in
theorem rises_is (a b c d e f : Int) (t : Bool) (w : World) (ht : Hid (ltB (a, b, c) (d, e, f) = t)) :
    Calls Tryd.prog 25 #[.agg #[.int .i64 a, .int .i64 b, .int .i64 c], .agg #[.int .i64 d, .int .i64 e, .int .i64 f]] w fun r w' => r = .returned (.bool t) ∧ Below w.heap.size w w' := by
  have HD : Hid (t = decide (a < d ∨ a = d ∧ (b < e ∨ b = e ∧ c < f))) := Lib.hid (by rw [← ht.out]; rfl)
  clear ht
  by_cases k0 : a = d
  rotate_left
  · go_enter Tryd.func25, Tryd.ntmps25
    go_wp2_with fail
    refine wp_loop_rounds 4 ?_
    rw [rounds_succ]
    go_wp2_with fail
    go_region
    go_wp2_with fail
    go_region
    go_wp2_with fail
    go_ret
    exact ⟨ret_bool (by rw [HD.out]; simp [k0]), by go_grown⟩
  subst k0
  by_cases k1 : b = e
  rotate_left
  · go_enter Tryd.func25, Tryd.ntmps25
    go_wp2_with fail
    refine wp_loop_rounds 4 ?_
    iterate 2 (rw [rounds_succ]; go_wp2_with fail; go_region; go_wp2_with fail)
    go_region
    go_wp2_with fail
    go_ret
    exact ⟨ret_bool (by rw [HD.out]; simp [k1]), by go_grown⟩
  subst k1
  by_cases k2 : c = f
  rotate_left
  · go_enter Tryd.func25, Tryd.ntmps25
    go_wp2_with fail
    refine wp_loop_rounds 4 ?_
    iterate 3 (rw [rounds_succ]; go_wp2_with fail; go_region; go_wp2_with fail)
    go_region
    go_wp2_with fail
    go_ret
    exact ⟨ret_bool (by rw [HD.out]; simp), by go_grown⟩
  subst k2
  go_enter Tryd.func25, Tryd.ntmps25
  go_wp2_with fail
  refine wp_loop_rounds 4 ?_
  iterate 3 (rw [rounds_succ]; go_wp2_with fail; go_region; go_wp2_with fail)
  rw [rounds_succ]
  go_wp2_with fail
  go_ret
  exact ⟨ret_bool (by rw [HD.out]; simp), by go_grown⟩
end Go.Proofs.YtceejjamngplkaaDoor
