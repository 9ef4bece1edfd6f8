/- Helpers: what the law reaches. -/
import Derived.Test.YtalhkcmlacppjaaGreatDoorZlHj
namespace Go.Proofs.YtalhkcmlacppjaaGreatDoor
open Go.ChangeShapes Go.WideShapes Go.ChangeAt Go.RowKit
set_option linter.unusedVariables false
set_option linter.unusedSimpArgs false

theorem nx_last {n i : Nat} (h : i + 1 = n) : nx n i = 0 := by unfold nx; rw [h, Nat.mod_self]
theorem one_simp {us : List (Int × Int)} (hs : Simp us) {k : Nat} (h1 : 2 ≤ k) (h2 : k + 1 < us.length) (hd : Diag us 0 k) : Simp (oneL us k) := by
  have hl := oneL_len (us := us) (k := k) (by omega)
  refine part_simp hs (by omega) (fun i => i) (d := k) (by omega) (fun i hi => by show i < _; omega) (fun i j _ _ h => h) (fun i hi => oneL_at (by omega)) (fun i hi hne => ?_) ?_
  · show nx us.length i = nx (oneL us k).length i
    rw [nx_small (by omega), nx_small (by omega)]
  · show Diag us k (nx (oneL us k).length k)
    rw [nx_last (by omega)]
    exact hd.symm
theorem two_simp {us : List (Int × Int)} (hs : Simp us) {k : Nat} (h1 : 2 ≤ k) (h2 : k + 1 < us.length) (hd : Diag us 0 k) : Simp (twoL us k) := by
  have hl := twoL_len us k
  refine part_simp hs (by omega) (fun i => if i = 0 then 0 else k + i - 1) (d := 0) (by omega) (fun i hi => ?_) (fun i j _ _ h => ?_) (fun i hi => ?_) (fun i hi hne => ?_) ?_
  · show (if i = 0 then 0 else k + i - 1) < _
    split <;> omega
  · have h : (if i = 0 then 0 else k + i - 1) = (if j = 0 then 0 else k + j - 1) := h
    split at h <;> split at h <;> omega
  · show cx _ i = cx us (if i = 0 then 0 else k + i - 1) ∧ cy _ i = cy us (if i = 0 then 0 else k + i - 1)
    cases i with
    | zero => exact twoL_zero us k
    | succ i =>
      rw [if_neg (by omega), show k + (i + 1) - 1 = k + i by omega]
      exact twoL_at us k i
  · show nx us.length (if i = 0 then 0 else k + i - 1) = (if nx (twoL us k).length i = 0 then 0 else k + nx (twoL us k).length i - 1)
    rw [if_neg hne]
    by_cases g : i + 1 < (twoL us k).length
    · rw [nx_small g, nx_small (by omega), if_neg (by omega)]; omega
    · rw [nx_last (by omega), nx_last (by omega), if_pos rfl]
  · show Diag us 0 (if nx (twoL us k).length 0 = 0 then 0 else k + nx (twoL us k).length 0 - 1)
    rw [nx_small (by omega), if_neg (by omega)]
    exact hd
/-- If a topmost corner turns left, the polygon winds nought or one time. -/
theorem top_good {ps : List (Int × Int)} (hs : Simp ps) {e : Nat} (he : e < ps.length) (hm : ∀ i, i < ps.length → cy ps i < cy ps (nx ps.length e) ∨ (cy ps i = cy ps (nx ps.length e) ∧ cx ps i ≤ cx ps (nx ps.length e)))
    (hpos : 0 < det (cx ps e) (cy ps e) (cx ps (nx ps.length e)) (cy ps (nx ps.length e)) (cx ps (nx ps.length (nx ps.length e))) (cy ps (nx ps.length (nx ps.length e)))) : Good ps := by
  obtain ⟨R, hR⟩ := edges_val hs
  refine ⟨hs, ?_⟩
  suffices hz : R = 0 by
    subst hz
    exact fun e he => by rw [hR e he]; omega
  rcases edges_R hs hR with hz | hz
  · exact hz
  exfalso
  subst hz
  have hf := nx_lt' he
  have de : det (cx ps e) (cy ps e) (cx ps (nx ps.length e)) (cy ps (nx ps.length e)) (cx ps (nx ps.length (nx ps.length e))) (cy ps (nx ps.length (nx ps.length e))) = (cy ps e - cy ps (nx ps.length e)) * (cx ps (nx ps.length (nx ps.length e)) - cx ps (nx ps.length e)) - (cx ps e - cx ps (nx ps.length e)) * (cy ps (nx ps.length (nx ps.length e)) - cy ps (nx ps.length e)) := by unfold det; grind
  rw [de] at hpos
  have nd := edge_nd hs he
  have me := hm e he
  have hef : e ≠ nx ps.length e := fun h => nx_ne (by have := hs.1; omega) he h.symm
  by_cases ha : cy ps e = cy ps (nx ps.length e)
  · rw [ha, Int.sub_self, Int.zero_mul] at hpos
    have mc := hm _ (nx_lt' hf)
    have := Int.mul_nonneg_of_nonpos_of_nonpos (show cx ps e - cx ps (nx ps.length e) ≤ 0 by omega) (show cy ps (nx ps.length (nx ps.length e)) - cy ps (nx ps.length e) ≤ 0 by omega)
    omega
  · have hA : cy ps e - cy ps (nx ps.length e) < 0 := by omega
    obtain ⟨N, hN, hNa⟩ : ∃ N : Int, 2 ≤ N ∧ (-N < cy ps e - cy ps (nx ps.length e) ∧ cy ps e - cy ps (nx ps.length e) < N) := ⟨(cy ps e - cy ps (nx ps.length e)).natAbs + 2, by omega⟩
    have yin := near_in hs he hN
    have ly := at_edge hs he (by omega) yin
    have he' : e < (scL N ps).length := by rw [scL_len]; exact he
    have hf' : nx ps.length e < (scL N ps).length := by rw [scL_len]; exact hf
    have cen1 : cx (scL N ps) (nx (scL N ps).length e) = N * cx ps (nx ps.length e) := by rw [scL_len]; exact (scL_at N ps _).1
    have cen2 : cy (scL N ps) (nx (scL N ps).length e) = N * cy ps (nx ps.length e) := by rw [scL_len]; exact (scL_at N ps _).2
    have zon : onE (scL N ps) (N * cx ps (nx ps.length e)) (N * cy ps (nx ps.length e)) e = true := by
      unfold onE
      rw [cen1, cen2]
      exact on_last
    have zon' : onE (scL N ps) (N * cx ps (nx ps.length e)) (N * cy ps (nx ps.length e)) (nx ps.length e) = true := by
      unfold onE
      rw [(scL_at N ps (nx ps.length e)).1, (scL_at N ps (nx ps.length e)).2]
      exact on_first
    have zne : ¬ (N * cx ps (nx ps.length e) = cx (scL N ps) e ∧ N * cy ps (nx ps.length e) = cy (scL N ps) e) := by
      rw [(scL_at N ps e).1, (scL_at N ps e).2]
      exact mul_ne2 (by omega) (fun h => nd ⟨h.1.symm, h.2.symm⟩)
    have seg : ∀ i, i < (scL N ps).length → i ≠ e → i ≠ nx ps.length e → segB (cx (scL N ps) i) (cy (scL N ps) i) (cx (scL N ps) (nx (scL N ps).length i)) (cy (scL N ps) (nx (scL N ps).length i)) (cx ps e - cx ps (nx ps.length e) + N * cx ps (nx ps.length e)) (cy ps e - cy ps (nx ps.length e) + N * cy ps (nx ps.length e)) (N * cx ps (nx ps.length e)) (N * cy ps (nx ps.length e)) = false := fun i hi h1 h2 =>
      edge_free2 (hs.sc (by omega)) he' yin.1 zon yin.2.1 zne hi h1 (by rw [scL_len]; exact h2)
    have k := wnd_two (scL N ps) e (nx ps.length e) hef he' hf' (show cy ps e - cy ps (nx ps.length e) + N * cy ps (nx ps.length e) < N * cy ps (nx ps.length e) by omega) seg
    have nds : ¬ (cx (scL N ps) e = cx (scL N ps) (nx (scL N ps).length e) ∧ cy (scL N ps) e = cy (scL N ps) (nx (scL N ps).length e)) := edge_nd (hs.sc (N := N) (by omega)) he'
    have dl := det_line nds yin.1 zon
    rw [wEi_on yin.1, wEi_on zon, wEi_on zon', inQ_zero dl.1, cen1, cen2, (scL_at N ps (nx ps.length e)).1, (scL_at N ps (nx ps.length e)).2] at k
    have kc1 : N * cx ps (nx ps.length (nx ps.length e)) = N * (cx ps (nx ps.length (nx ps.length e)) - cx ps (nx ps.length e)) + N * cx ps (nx ps.length e) := by grind
    have kc2 : N * cy ps (nx ps.length (nx ps.length e)) = N * (cy ps (nx ps.length (nx ps.length e)) - cy ps (nx ps.length e)) + N * cy ps (nx ps.length e) := by grind
    have cfn1 : cx (scL N ps) (nx (scL N ps).length (nx ps.length e)) = N * cx ps (nx ps.length (nx ps.length e)) := by rw [scL_len]; exact (scL_at N ps _).1
    have cfn2 : cy (scL N ps) (nx (scL N ps).length (nx ps.length e)) = N * cy ps (nx ps.length (nx ps.length e)) := by rw [scL_len]; exact (scL_at N ps _).2
    have mc := hm _ (nx_lt' hf)
    have q := topQ (A1 := cx ps e - cx ps (nx ps.length e)) (C1 := cx ps (nx ps.length (nx ps.length e)) - cx ps (nx ps.length e)) (C2 := cy ps (nx ps.length (nx ps.length e)) - cy ps (nx ps.length e)) hN hNa.1 hA (by omega)
    rw [← inQ_mov _ _ _ _ _ _ (N * cx ps (nx ps.length e)) (N * cy ps (nx ps.length e)), ← kc1, ← kc2, Int.zero_add, Int.zero_add] at q
    rw [cfn1, cfn2, q] at k
    have U := valU (C1 := cx ps (nx ps.length (nx ps.length e)) - cx ps (nx ps.length e)) (C2 := cy ps (nx ps.length (nx ps.length e)) - cy ps (nx ps.length e)) (A1 := cx ps e - cx ps (nx ps.length e)) hN hNa
    have hU : wEi (scL N ps) (cx ps e - cx ps (nx ps.length e) + N * cx ps (nx ps.length e)) (cy ps e - cy ps (nx ps.length e) + N * cy ps (nx ps.length e)) (nx ps.length e) = wE 0 0 (N * (cx ps (nx ps.length (nx ps.length e)) - cx ps (nx ps.length e))) (N * (cy ps (nx ps.length (nx ps.length e)) - cy ps (nx ps.length e))) (cx ps e - cx ps (nx ps.length e)) (cy ps e - cy ps (nx ps.length e)) := by
      unfold wEi
      rw [cfn1, cfn2, (scL_at N ps _).1, (scL_at N ps _).2, kc1, kc2, ← wE_mov 0 0 _ _ _ _ (N * cx ps (nx ps.length e)) (N * cy ps (nx ps.length e)), Int.zero_add, Int.zero_add]
    rw [hU, U] at k
    have z : wnd (scL N ps) (N * cx ps (nx ps.length e)) (N * cy ps (nx ps.length e)) = 0 := wnd_top _ _ _ fun i hi => by
      rw [scL_len] at hi
      rw [(scL_at N ps i).2]
      exact Int.mul_le_mul_of_nonneg_left (by have := hm i hi; omega) (by omega)
    rw [z, ly, hR e he] at k
    have d : dnEi ps e = 0 := by
      unfold dnEi dnE
      rw [if_neg (by omega)]
    rw [d] at k
    rw [show bi false = 0 from rfl] at k
    by_cases hC : cy ps (nx ps.length (nx ps.length e)) - cy ps (nx ps.length e) < 0
    · rw [if_pos hC, decide_eq_true hA, decide_eq_false (show ¬ 0 < (cx ps e - cx ps (nx ps.length e)) * (cy ps (nx ps.length (nx ps.length e)) - cy ps (nx ps.length e)) - (cy ps e - cy ps (nx ps.length e)) * (cx ps (nx ps.length (nx ps.length e)) - cx ps (nx ps.length e)) by omega)] at k
      rw [show bi (true && false) = 0 from rfl] at k
      omega
    · rw [if_neg hC, if_neg (by omega)] at k
      omega
end Go.Proofs.YtalhkcmlacppjaaGreatDoor


namespace Go.Proofs.YtalhkcmlacppjaaGreatDoor
open Go.ChangeShapes Go.WideShapes Go.ChangeAt Go.RowKit
set_option linter.unusedVariables false
set_option linter.unusedSimpArgs false

theorem two_next (us : List (Int × Int)) {k i : Nat} (h1 : 1 ≤ i) (hk : k < us.length) (hi : i < (twoL us k).length) :
    (cx (twoL us k) i = cx us (k + i - 1) ∧ cy (twoL us k) i = cy us (k + i - 1)) ∧ cx (twoL us k) (nx (twoL us k).length i) = cx us (nx us.length (k + i - 1)) ∧ cy (twoL us k) (nx (twoL us k).length i) = cy us (nx us.length (k + i - 1)) := by
  have hl := twoL_len us k
  obtain ⟨i, rfl⟩ : ∃ j, i = j + 1 := ⟨i - 1, by omega⟩
  rw [show k + (i + 1) - 1 = k + i by omega]
  refine ⟨twoL_at us k i, ?_⟩
  by_cases g : i + 1 + 1 < (twoL us k).length
  · rw [nx_small g, nx_small (show k + i + 1 < us.length by omega)]
    exact twoL_at us k (i + 1)
  · rw [nx_last (by omega), nx_last (by omega)]
    exact twoL_zero us k
theorem out_wnd {ps : List (Int × Int)} (h : Good ps) {p q : Int} (hl : locE ps p q = -1) : wnd ps p q = 0 := by
  rcases h.wnd p q with w | w
  · exact w
  · exfalso
    have : locE ps p q = 1 := (loc_oneG h).2 ⟨fun i hi => by
      cases g : onE ps p q i with
      | false => rfl
      | true => have := loc_zero.2 ⟨i, hi, g⟩; omega, w⟩
    omega
theorem big_neg {K x y : Int} (h : x < 0) (hK : (y - x).natAbs < K) : K * (K * x + (y - x)) < 0 := by
  have h1 : K * x ≤ K * -1 := Int.mul_le_mul_of_nonneg_left (by omega) (by omega)
  exact pn (by omega) (by omega)
theorem tri_scL (N u1 u2 v1 v2 w1 w2 : Int) : scL N (triL u1 u2 v1 v2 w1 w2) = triL (N * u1) (N * u2) (N * v1) (N * v2) (N * w1) (N * w2) := rfl
/-- An ear clipped: the triangle and the rest wind nought or one time. -/
theorem clip_good {u1 u2 v1 v2 w1 w2 : Int} {x : Int × Int} {r : List (Int × Int)} (hU : Good ((u1, u2) :: (v1, v2) :: (w1, w2) :: x :: r)) (hD : 0 < det u1 u2 v1 v2 w1 w2)
    (hemp : ∀ y, y ∈ x :: r → ¬ (0 ≤ det u1 u2 v1 v2 y.1 y.2 ∧ 0 ≤ det v1 v2 w1 w2 y.1 y.2 ∧ 0 ≤ det w1 w2 u1 u2 y.1 y.2)) :
    Good (triL u1 u2 v1 v2 w1 w2) ∧ Good ((u1, u2) :: (w1, w2) :: x :: r) ∧ Diag ((u1, u2) :: (v1, v2) :: (w1, w2) :: x :: r) 0 2 := by
  generalize hus : (u1, u2) :: (v1, v2) :: (w1, w2) :: x :: r = us at *
  have hs := hU.1
  have hn : 4 ≤ us.length := by rw [← hus]; simp
  have c0 : cx us 0 = u1 ∧ cy us 0 = u2 := by rw [← hus]; exact ⟨rfl, rfl⟩
  have c1 : cx us 1 = v1 ∧ cy us 1 = v2 := by rw [← hus]; exact ⟨rfl, rfl⟩
  have c2 : cx us 2 = w1 ∧ cy us 2 = w2 := by rw [← hus]; exact ⟨rfl, rfl⟩
  have n0 : nx us.length 0 = 1 := nx_small (by omega)
  have n1 : nx us.length 1 = 2 := nx_small (by omega)
  have e1 : oneL us 2 = triL u1 u2 v1 v2 w1 w2 := by rw [← hus]; rfl
  have e2 : twoL us 2 = (u1, u2) :: (w1, w2) :: x :: r := by rw [← hus]; rfl
  have emp : ∀ k, k < us.length → k ≠ 0 → k ≠ 1 → k ≠ 2 → ¬ (0 ≤ det u1 u2 v1 v2 (cx us k) (cy us k) ∧ 0 ≤ det v1 v2 w1 w2 (cx us k) (cy us k) ∧ 0 ≤ det w1 w2 u1 u2 (cx us k) (cy us k)) := fun k hk h0 h1 h2 => by
    obtain ⟨j, rfl⟩ : ∃ j, k = j + 3 := ⟨k - 3, by omega⟩
    have hj : j < (x :: r).length := by rw [← hus] at hk; simpa using hk
    have := hemp _ (List.getElem_mem hj)
    have e : us.getD (j + 3) (0, 0) = (x :: r)[j] := by
      rw [← hus, List.getD_cons_succ, List.getD_cons_succ, List.getD_cons_succ, List.getD_eq_getElem?_getD, List.getElem?_eq_getElem hj]
      rfl
    unfold cx cy
    rw [e]
    exact this
  have hdg : Diag us 0 2 := by
    have := see_uw hs (e := 0) (by omega) c0 (by rw [n0]; exact c1) (by rw [n0, n1]; exact c2) hD (by rw [n0, n1]; exact emp)
    rw [n0, n1] at this
    exact this
  have g1 : Good (triL u1 u2 v1 v2 w1 w2) := (tri_ccw hD).good
  have s2 := two_simp hs (k := 2) (by omega) (by omega) hdg
  have l2 := twoL_len us 2
  refine ⟨g1, ?_, hdg⟩
  rw [← e2]
  obtain ⟨R, hR⟩ := edges_val s2
  suffices hz : R = 0 by
    subst hz
    exact ⟨s2, fun e he => by rw [hR e he]; omega⟩
  have tn := two_next us (k := 2) (i := 2) (by omega) (by omega) (by omega)
  rw [show 2 + 2 - 1 = 3 from rfl] at tn
  obtain ⟨⟨t1, t2⟩, t3, t4⟩ := tn
  have em := emp 3 (by omega) (by omega) (by omega) (by omega)
  -- a point of an edge near a corner outside of the triangle
  obtain ⟨N, hN, b1, b2, b3⟩ : ∃ N : Int, 2 ≤ N ∧ (det u1 u2 v1 v2 (cx us (nx us.length 3)) (cy us (nx us.length 3)) - det u1 u2 v1 v2 (cx us 3) (cy us 3)).natAbs < N ∧ (det v1 v2 w1 w2 (cx us (nx us.length 3)) (cy us (nx us.length 3)) - det v1 v2 w1 w2 (cx us 3) (cy us 3)).natAbs < N ∧ (det w1 w2 u1 u2 (cx us (nx us.length 3)) (cy us (nx us.length 3)) - det w1 w2 u1 u2 (cx us 3) (cy us 3)).natAbs < N :=
    ⟨(det u1 u2 v1 v2 (cx us (nx us.length 3)) (cy us (nx us.length 3)) - det u1 u2 v1 v2 (cx us 3) (cy us 3)).natAbs + (det v1 v2 w1 w2 (cx us (nx us.length 3)) (cy us (nx us.length 3)) - det v1 v2 w1 w2 (cx us 3) (cy us 3)).natAbs + (det w1 w2 u1 u2 (cx us (nx us.length 3)) (cy us (nx us.length 3)) - det w1 w2 u1 u2 (cx us 3) (cy us 3)).natAbs + 2, by omega, by omega, by omega, by omega⟩
  have hN0 : 0 < N := by omega
  have w := cut_HW (us := us) (k := 2) (by omega) N ((cx us (nx us.length 3) - cx us 3) + N * cx us 3) ((cy us (nx us.length 3) - cy us 3) + N * cy us 3)
  have i1 := near_in' hs (f := 3) (by omega) hN
  have i2 := near_in' s2 (f := 2) (by omega) hN
  rw [t1, t2, t3, t4] at i2
  have w1' := (hU.sc hN0).edge (e := 3) (by rw [scL_len]; omega) i1
  have w2' := at_edge s2 (by omega) hN0 i2
  rw [dnEi_sc hN0] at w1'
  have dd : dnEi (twoL us 2) 2 = dnEi us 3 := by
    unfold dnEi
    rw [t1, t2, t3, t4]
  have out : locE (scL N (triL u1 u2 v1 v2 w1 w2)) ((cx us (nx us.length 3) - cx us 3) + N * cx us 3) ((cy us (nx us.length 3) - cy us 3) + N * cy us 3) = -1 := by
    rw [tri_scL]
    refine tri_out ((det_sc hN0 _ _ _ _ _ _).2.2 hD) ?_
    rw [det_near, det_near, det_near]
    rcases Int.lt_or_le (det u1 u2 v1 v2 (cx us 3) (cy us 3)) 0 with k | k
    · exact .inl (big_neg k b1)
    · rcases Int.lt_or_le (det v1 v2 w1 w2 (cx us 3) (cy us 3)) 0 with k' | k'
      · exact .inr (.inl (big_neg k' b2))
      · rcases Int.lt_or_le (det w1 w2 u1 u2 (cx us 3) (cy us 3)) 0 with k'' | k''
        · exact .inr (.inr (big_neg k'' b3))
        · exact (em ⟨k, k', k''⟩).elim
  have z := out_wnd (g1.sc hN0) out
  rw [e1, z, w1', w2', hR 2 (by omega), dd] at w
  omega
end Go.Proofs.YtalhkcmlacppjaaGreatDoor


namespace Go.Proofs.YtalhkcmlacppjaaGreatDoor
open Go.ChangeShapes Go.WideShapes Go.ChangeAt Go.RowKit
set_option linter.unusedVariables false
set_option linter.unusedSimpArgs false

theorem turn_injm {n : Nat} (m : Nat) {i j : Nat} (hi : i < n) (hj : j < n) (h : (i + m) % n = (j + m) % n) : i = j := by
  induction m with
  | zero => rw [Nat.add_zero, Nat.add_zero, Nat.mod_eq_of_lt hi, Nat.mod_eq_of_lt hj] at h; exact h
  | succ m ih =>
    apply ih
    have e : ∀ i, (i + (m + 1)) % n = nx n ((i + m) % n) := fun i => by
      unfold nx
      rw [Nat.mod_add_mod]
      rfl
    rw [e, e] at h
    exact nx_inj (Nat.mod_lt _ (by omega)) (Nat.mod_lt _ (by omega)) h
theorem shL_nx2 (ps : List (Int × Int)) (m : Nat) {i : Nat} (hi : i < ps.length) : cx (shL ps m) (nx (shL ps m).length (nx (shL ps m).length i)) = cx ps (nx ps.length (nx ps.length ((i + m) % ps.length))) ∧ cy (shL ps m) (nx (shL ps m).length (nx (shL ps m).length i)) = cy ps (nx ps.length (nx ps.length ((i + m) % ps.length))) := by
  rw [nx_turn, ← shL_len ps m]
  have := shL_nx ps m (nx_lt' hi)
  rw [shL_len] at this ⊢
  exact this
theorem shL_simp {ps : List (Int × Int)} (hs : Simp ps) (m : Nat) : Simp (shL ps m) := by
  have h0 : 0 < ps.length := by have := hs.1; omega
  have lt : ∀ i, (i + m) % ps.length < ps.length := fun i => Nat.mod_lt _ h0
  refine ⟨by rw [shL_len]; exact hs.1, fun i hi => ?_, fun i j hi hj hap => ?_⟩
  · rw [shL_len] at hi
    rw [(shL_at ps m hi).1, (shL_at ps m hi).2, (shL_nx ps m hi).1, (shL_nx ps m hi).2, (shL_nx2 ps m hi).1, (shL_nx2 ps m hi).2]
    exact hs.2.1 _ (lt i)
  · rw [shL_len] at hi hj hap
    obtain ⟨a, b, c⟩ := hap
    have := hs.2.2 _ _ (lt i) (lt j) ⟨fun h => a (turn_injm m hi hj h), fun h => b (by rw [nx_turn] at h; exact turn_injm m (nx_lt' hi) hj h), fun h => c (by rw [nx_turn] at h; exact turn_injm m (nx_lt' hj) hi h)⟩
    unfold segE at this ⊢
    rw [(shL_at ps m hi).1, (shL_at ps m hi).2, (shL_nx ps m hi).1, (shL_nx ps m hi).2, (shL_at ps m hj).1, (shL_at ps m hj).2, (shL_nx ps m hj).1, (shL_nx ps m hj).2]
    exact this
theorem shL_wnd (ps : List (Int × Int)) (N : Int) (m : Nat) (p q : Int) (h0 : 0 < ps.length) : wnd (scL N (shL ps m)) p q = wnd (scL N ps) p q := by
  unfold wnd
  rw [scL_len, scL_len, shL_len, ← sumE_turn (wEi (scL N ps) p q) ps.length m h0]
  refine sumE_congr fun i hi => ?_
  have hi := List.mem_range.1 hi
  unfold wEi
  rw [scL_len, scL_len, (scL_at N _ _).1, (scL_at N _ _).2, (scL_at N _ _).1, (scL_at N _ _).2, (scL_at N _ _).1, (scL_at N _ _).2, (scL_at N _ _).1, (scL_at N _ _).2, (shL_at ps m hi).1, (shL_at ps m hi).2, (shL_nx ps m hi).1, (shL_nx ps m hi).2]
theorem shL_good {ps : List (Int × Int)} (h : Good ps) (m : Nat) : Good (shL ps m) := by
  have h0 : 0 < ps.length := by have := h.1.1; omega
  have lt : ∀ i, (i + m) % ps.length < ps.length := fun i => Nat.mod_lt _ h0
  refine ⟨shL_simp h.1 m, fun i hi => ?_⟩
  rw [shL_len] at hi
  have e : vE (shL ps m) i = vE ps ((i + m) % ps.length) := by
    unfold vE
    rw [shL_wnd ps 2 m _ _ h0, (shL_at ps m hi).1, (shL_at ps m hi).2, (shL_nx ps m hi).1, (shL_nx ps m hi).2]
  rw [e, h.2 _ (lt i)]
  unfold dnEi
  rw [(shL_at ps m hi).1, (shL_at ps m hi).2, (shL_nx ps m hi).1, (shL_nx ps m hi).2]
end Go.Proofs.YtalhkcmlacppjaaGreatDoor


namespace Go.Proofs.YtalhkcmlacppjaaGreatDoor
open Go.ChangeShapes Go.WideShapes Go.ChangeAt Go.RowKit
set_option linter.unusedVariables false
set_option linter.unusedSimpArgs false

theorem max_ex (P : Nat → Prop) (g : Nat → Int) : ∀ n, (∃ k, k < n ∧ P k) → ∃ z, z < n ∧ P z ∧ ∀ k, k < n → P k → g k ≤ g z
  | 0, ⟨k, hk, _⟩ => by omega
  | n + 1, ⟨k, hk, hp⟩ => by
    by_cases hn : ∃ k, k < n ∧ P k
    · obtain ⟨z, hz, pz, mz⟩ := max_ex P g n hn
      by_cases q : P n ∧ g z < g n
      · exact ⟨n, by omega, q.1, fun j hj pj => by
          by_cases e : j = n
          · subst e; omega
          · have := mz j (by omega) pj; omega⟩
      · exact ⟨z, by omega, pz, fun j hj pj => by
          by_cases e : j = n
          · subst e
            have : ¬ g z < g j := fun h => q ⟨pj, h⟩
            omega
          · exact mz j (by omega) pj⟩
    · have e : k = n := by
        by_cases q : k = n
        · exact q
        · exact absurd ⟨k, by omega, hp⟩ hn
      subst e
      exact ⟨k, by omega, hp, fun j hj pj => by
        by_cases e : j = k
        · subst e; omega
        · exact absurd ⟨j, by omega, pj⟩ hn⟩
/-- An ear clipped, said of corners. -/
theorem clip_cut {us : List (Int × Int)} (hU : Good us) (h4 : 4 ≤ us.length) (hD : 0 < det (cx us 0) (cy us 0) (cx us 1) (cy us 1) (cx us 2) (cy us 2))
    (hemp : ∀ k, 3 ≤ k → k < us.length → ¬ (0 ≤ det (cx us 0) (cy us 0) (cx us 1) (cy us 1) (cx us k) (cy us k) ∧ 0 ≤ det (cx us 1) (cy us 1) (cx us 2) (cy us 2) (cx us k) (cy us k) ∧ 0 ≤ det (cx us 2) (cy us 2) (cx us 0) (cy us 0) (cx us k) (cy us k))) :
    Good (oneL us 2) ∧ Good (twoL us 2) ∧ Diag us 0 2 := by
  match us, h4 with
  | (u1, u2) :: (v1, v2) :: (w1, w2) :: x :: r, _ =>
    exact clip_good hU hD fun y hy => by
      obtain ⟨j, hj, rfl⟩ := List.getElem_of_mem hy
      have e : ((u1, u2) :: (v1, v2) :: (w1, w2) :: x :: r).getD (j + 3) (0, 0) = (x :: r)[j] := by
        rw [List.getD_cons_succ, List.getD_cons_succ, List.getD_cons_succ, List.getD_eq_getElem?_getD, List.getElem?_eq_getElem hj]
        rfl
      have := hemp (j + 3) (by omega) (by simpa using hj)
      unfold cx cy at this
      rw [e] at this
      exact this
/-- The corner v first: a cut from v to the furthest corner in its triangle. -/
theorem cut_vz {us : List (Int × Int)} (hs : Simp us) (h4 : 4 ≤ us.length) {l : Nat} (hl : l + 1 = us.length)
    (htop : ∀ i, i < us.length → cy us i < cy us 0 ∨ (cy us i = cy us 0 ∧ cx us i ≤ cx us 0))
    (hD : 0 < det (cx us l) (cy us l) (cx us 0) (cy us 0) (cx us 1) (cy us 1))
    {z0 : Nat} (hz0 : z0 < us.length) (n0 : z0 ≠ l) (n1 : z0 ≠ 0) (n2 : z0 ≠ 1)
    (a1 : 0 ≤ det (cx us l) (cy us l) (cx us 0) (cy us 0) (cx us z0) (cy us z0)) (a2 : 0 ≤ det (cx us 0) (cy us 0) (cx us 1) (cy us 1) (cx us z0) (cy us z0)) (a3 : 0 ≤ det (cx us 1) (cy us 1) (cx us l) (cy us l) (cx us z0) (cy us z0)) :
    ∃ k, 2 ≤ k ∧ k + 1 < us.length ∧ Diag us 0 k ∧ Good (oneL us k) ∧ Good (twoL us k) := by
  have e0 : nx us.length l = 0 := nx_last hl
  have e1 : nx us.length 0 = 1 := nx_small (by omega)
  have st := in_strict hs (e := l) (z := z0) (by omega) hz0 ⟨rfl, rfl⟩ (by rw [e0]; exact ⟨rfl, rfl⟩) (by rw [e0, e1]; exact ⟨rfl, rfl⟩) hD n0 (by rw [e0]; exact n1) (by rw [e0, e1]; exact n2) a1 a2 a3
  obtain ⟨z, hz, ⟨p1, p2⟩, mz⟩ := max_ex (fun k => 0 < det (cx us l) (cy us l) (cx us 0) (cy us 0) (cx us k) (cy us k) ∧ 0 < det (cx us 0) (cy us 0) (cx us 1) (cy us 1) (cx us k) (cy us k)) (fun k => det (cx us 1) (cy us 1) (cx us l) (cy us l) (cx us k) (cy us k)) us.length ⟨z0, hz0, st⟩
  have p3 := mz z0 hz0 st
  have mz : ∀ k, k < us.length → 0 < det (cx us l) (cy us l) (cx us 0) (cy us 0) (cx us k) (cy us k) ∧ 0 < det (cx us 0) (cy us 0) (cx us 1) (cy us 1) (cx us k) (cy us k) → det (cx us 1) (cy us 1) (cx us l) (cy us l) (cx us k) (cy us k) ≤ det (cx us 1) (cy us 1) (cx us l) (cy us l) (cx us z) (cy us z) := mz
  have p3 : det (cx us 1) (cy us 1) (cx us l) (cy us l) (cx us z0) (cy us z0) ≤ det (cx us 1) (cy us 1) (cx us l) (cy us l) (cx us z) (cy us z) := p3
  have zl : z ≠ l := fun h => by
    subst h
    have : det (cx us z) (cy us z) (cx us 0) (cy us 0) (cx us z) (cy us z) = 0 := by unfold det; grind
    omega
  have z0' : z ≠ 0 := fun h => by
    subst h
    have : det (cx us l) (cy us l) (cx us 0) (cy us 0) (cx us 0) (cy us 0) = 0 := by unfold det; grind
    omega
  have z1' : z ≠ 1 := fun h => by
    subst h
    have : det (cx us 0) (cy us 0) (cx us 1) (cy us 1) (cx us 1) (cy us 1) = 0 := by unfold det; grind
    omega
  have dg := see_vz hs (e := l) (z := z) (by omega) hz ⟨rfl, rfl⟩ (by rw [e0]; exact ⟨rfl, rfl⟩) (by rw [e0, e1]; exact ⟨rfl, rfl⟩) hD p1 p2 (by omega) (fun k hk k1 k2 => mz k hk ⟨k1, k2⟩)
  rw [e0] at dg
  have h1 : 2 ≤ z := by omega
  have h2 : z + 1 < us.length := by omega
  have s1 := one_simp hs h1 h2 dg
  have s2 := two_simp hs h1 h2 dg
  have l1 := oneL_len (us := us) (k := z) (by omega)
  have l2 := twoL_len us z
  refine ⟨z, h1, h2, dg, ?_, ?_⟩
  · have f0 : nx (oneL us z).length z = 0 := nx_last (by omega)
    have f1 : nx (oneL us z).length 0 = 1 := nx_small (by omega)
    refine top_good s1 (e := z) (by omega) (fun i hi => ?_) ?_
    · rw [f0, (oneL_at (us := us) (show i ≤ z by omega)).1, (oneL_at (us := us) (show i ≤ z by omega)).2, (oneL_at (us := us) (Nat.zero_le z)).1, (oneL_at (us := us) (Nat.zero_le z)).2]
      exact htop i (by omega)
    · rw [f0, f1, (oneL_at (us := us) (Nat.le_refl z)).1, (oneL_at (us := us) (Nat.le_refl z)).2, (oneL_at (us := us) (Nat.zero_le z)).1, (oneL_at (us := us) (Nat.zero_le z)).2, (oneL_at (us := us) (show 1 ≤ z by omega)).1, (oneL_at (us := us) (show 1 ≤ z by omega)).2]
      rw [det_cyc, det_cyc]
      exact p2
  · have f0 : nx (twoL us z).length (us.length - z) = 0 := nx_last (by omega)
    have f1 : nx (twoL us z).length 0 = 1 := nx_small (by omega)
    have at2 : ∀ i, i < (twoL us z).length → i ≠ 0 → cx (twoL us z) i = cx us (z + i - 1) ∧ cy (twoL us z) i = cy us (z + i - 1) := fun i hi h0 => (two_next us (by omega) (by omega) hi).1
    refine top_good s2 (e := us.length - z) (by omega) (fun i hi => ?_) ?_
    · rw [f0, (twoL_zero us z).1, (twoL_zero us z).2]
      by_cases i0 : i = 0
      · subst i0
        rw [(twoL_zero us z).1, (twoL_zero us z).2]; omega
      · rw [(at2 i hi i0).1, (at2 i hi i0).2]
        exact htop _ (by omega)
    · rw [f0, f1, (twoL_zero us z).1, (twoL_zero us z).2, (at2 _ (by omega) (by omega)).1, (at2 _ (by omega) (by omega)).2, (at2 1 (by omega) (by omega)).1, (at2 1 (by omega) (by omega)).2]
      rw [show z + (us.length - z) - 1 = l by omega, show z + 1 - 1 = z by omega]
      exact p1
theorem turn_zero {n m : Nat} (hm : m < n) : (0 + m) % n = m := by rw [Nat.zero_add, Nat.mod_eq_of_lt hm]
/-- Every polygon of four corners and more can be cut in two. -/
theorem cut_ex {ps : List (Int × Int)} (hG : Good ps) (h4 : 4 ≤ ps.length) : ∃ m k, m < ps.length ∧ 2 ≤ k ∧ k + 1 < ps.length ∧ Diag (shL ps m) 0 k ∧ Good (oneL (shL ps m) k) ∧ Good (twoL (shL ps m) k) := by
  obtain ⟨e, he, hD, htop⟩ := top_left hG
  have hv := nx_lt' he
  have hw := nx_lt' hv
  by_cases hemp : ∀ k, k < ps.length → k ≠ e → k ≠ nx ps.length e → k ≠ nx ps.length (nx ps.length e) → ¬ (0 ≤ det (cx ps e) (cy ps e) (cx ps (nx ps.length e)) (cy ps (nx ps.length e)) (cx ps k) (cy ps k) ∧ 0 ≤ det (cx ps (nx ps.length e)) (cy ps (nx ps.length e)) (cx ps (nx ps.length (nx ps.length e))) (cy ps (nx ps.length (nx ps.length e))) (cx ps k) (cy ps k) ∧ 0 ≤ det (cx ps (nx ps.length (nx ps.length e))) (cy ps (nx ps.length (nx ps.length e))) (cx ps e) (cy ps e) (cx ps k) (cy ps k))
  · have hl := shL_len ps e
    have t0 : (0 + e) % ps.length = e := turn_zero he
    have t1 : (1 + e) % ps.length = nx ps.length e := by unfold nx; rw [Nat.add_comm]
    have t2 : (2 + e) % ps.length = nx ps.length (nx ps.length e) := by unfold nx; rw [Nat.mod_add_mod, show e + 1 + 1 = 2 + e by omega]
    have a0 := shL_at ps e (i := 0) (by omega)
    have a1 := shL_at ps e (i := 1) (by omega)
    have a2 := shL_at ps e (i := 2) (by omega)
    rw [t0] at a0
    rw [t1] at a1
    rw [t2] at a2
    have := clip_cut (us := shL ps e) (shL_good hG e) (by omega) (by rw [a0.1, a0.2, a1.1, a1.2, a2.1, a2.2]; exact hD) (fun k h3 hk => by
      rw [hl] at hk
      have ak := shL_at ps e hk
      rw [a0.1, a0.2, a1.1, a1.2, a2.1, a2.2, ak.1, ak.2]
      refine hemp _ (Nat.mod_lt _ (by omega)) (fun h => ?_) (fun h => ?_) (fun h => ?_)
      · have := turn_injm e hk (show 0 < ps.length by omega) (by rw [t0]; exact h); omega
      · have := turn_injm e hk (show 1 < ps.length by omega) (by rw [t1]; exact h); omega
      · have := turn_injm e hk (show 2 < ps.length by omega) (by rw [t2]; exact h); omega)
    exact ⟨e, 2, he, by omega, by omega, this.2.2, this.1, this.2.1⟩
  · have hx : ∃ k, k < ps.length ∧ k ≠ e ∧ k ≠ nx ps.length e ∧ k ≠ nx ps.length (nx ps.length e) ∧ (0 ≤ det (cx ps e) (cy ps e) (cx ps (nx ps.length e)) (cy ps (nx ps.length e)) (cx ps k) (cy ps k) ∧ 0 ≤ det (cx ps (nx ps.length e)) (cy ps (nx ps.length e)) (cx ps (nx ps.length (nx ps.length e))) (cy ps (nx ps.length (nx ps.length e))) (cx ps k) (cy ps k) ∧ 0 ≤ det (cx ps (nx ps.length (nx ps.length e))) (cy ps (nx ps.length (nx ps.length e))) (cx ps e) (cy ps e) (cx ps k) (cy ps k)) := by
      apply Classical.byContradiction
      intro h
      exact hemp fun k hk k1 k2 k3 k4 => h ⟨k, hk, k1, k2, k3, k4⟩
    obtain ⟨k, hk, k1, k2, k3, b1, b2, b3⟩ := hx
    have turn_surj : ∀ (m f : Nat), f < ps.length → ∃ i, i < ps.length ∧ (i + m) % ps.length = f := fun m f hf => by
      refine ⟨(f + (ps.length - m % ps.length)) % ps.length, Nat.mod_lt _ (by omega), ?_⟩
      have hm := Nat.mod_lt m (show 0 < ps.length by omega)
      rw [Nat.mod_add_mod, Nat.add_mod, ← Nat.add_mod, ← Nat.add_mod_mod, show f + (ps.length - m % ps.length) + m % ps.length = f + ps.length by omega, Nat.add_mod_right, Nat.mod_eq_of_lt hf]
    have hl := shL_len ps (nx ps.length e)
    have t0 : (0 + nx ps.length e) % ps.length = nx ps.length e := turn_zero hv
    have t1 : (1 + nx ps.length e) % ps.length = nx ps.length (nx ps.length e) := by rw [Nat.add_comm]; rfl
    have tl : (ps.length - 1 + nx ps.length e) % ps.length = e := by
      unfold nx
      rw [Nat.add_mod_mod, show ps.length - 1 + (e + 1) = e + ps.length by omega, Nat.add_mod_right, Nat.mod_eq_of_lt he]
    obtain ⟨z, hz, tz⟩ := turn_surj (nx ps.length e) k hk
    have a0 := shL_at ps (nx ps.length e) (i := 0) (by omega)
    have a1 := shL_at ps (nx ps.length e) (i := 1) (by omega)
    have al := shL_at ps (nx ps.length e) (i := ps.length - 1) (by omega)
    have az := shL_at ps (nx ps.length e) hz
    rw [t0] at a0
    rw [t1] at a1
    rw [tl] at al
    rw [tz] at az
    obtain ⟨K, r1, r2, r3, r4, r5⟩ := cut_vz (us := shL ps (nx ps.length e)) (shL_simp hG.1 _) (by omega) (l := ps.length - 1) (by omega)
      (fun i hi => by
        rw [hl] at hi
        rw [a0.1, a0.2, (shL_at ps (nx ps.length e) hi).1, (shL_at ps (nx ps.length e) hi).2]
        exact htop _ (Nat.mod_lt _ (by omega)))
      (by rw [al.1, al.2, a0.1, a0.2, a1.1, a1.2]; exact hD) (z0 := z) (by omega)
      (fun h => k1 (by rw [← tz, h, tl])) (fun h => k2 (by rw [← tz, h, t0])) (fun h => k3 (by rw [← tz, h, t1]))
      (by rw [al.1, al.2, a0.1, a0.2, az.1, az.2]; exact b1) (by rw [a1.1, a1.2, a0.1, a0.2, az.1, az.2]; exact b2) (by rw [al.1, al.2, a1.1, a1.2, az.1, az.2]; exact b3)
    exact ⟨_, K, hv, r1, by omega, r3, r4, r5⟩
end Go.Proofs.YtalhkcmlacppjaaGreatDoor


namespace Go.Proofs.YtalhkcmlacppjaaGreatDoor
open Go.ChangeShapes Go.WideShapes Go.ChangeAt Go.RowKit
set_option linter.unusedVariables false
set_option linter.unusedSimpArgs false

/-- Is the point in the closed triangle of the corner after e? -/
def Near3 (ps : List (Int × Int)) (e : Nat) (p q : Int) : Prop :=
  0 ≤ det (cx ps e) (cy ps e) (cx ps (nx ps.length e)) (cy ps (nx ps.length e)) p q ∧ 0 ≤ det (cx ps (nx ps.length e)) (cy ps (nx ps.length e)) (cx ps (nx ps.length (nx ps.length e))) (cy ps (nx ps.length (nx ps.length e))) p q ∧ 0 ≤ det (cx ps (nx ps.length (nx ps.length e))) (cy ps (nx ps.length (nx ps.length e))) (cx ps e) (cy ps e) p q
/-- The corner after e is an ear. -/
def Ear (ps : List (Int × Int)) (e : Nat) : Prop :=
  0 < det (cx ps e) (cy ps e) (cx ps (nx ps.length e)) (cy ps (nx ps.length e)) (cx ps (nx ps.length (nx ps.length e))) (cy ps (nx ps.length (nx ps.length e))) ∧
  ∀ x, x < ps.length → x ≠ e → x ≠ nx ps.length e → x ≠ nx ps.length (nx ps.length e) → ¬ Near3 ps e (cx ps x) (cy ps x)
theorem one_tri {us : List (Int × Int)} (h : 3 ≤ us.length) : oneL us 2 = triL (cx us 0) (cy us 0) (cx us 1) (cy us 1) (cx us 2) (cy us 2) := by
  match us, h with
  | (u1, u2) :: (v1, v2) :: (w1, w2) :: r, _ => rfl
theorem shL_three {ps : List (Int × Int)} {e : Nat} (he : e < ps.length) (h3 : 3 ≤ ps.length) : (cx (shL ps e) 0 = cx ps e ∧ cy (shL ps e) 0 = cy ps e) ∧ (cx (shL ps e) 1 = cx ps (nx ps.length e) ∧ cy (shL ps e) 1 = cy ps (nx ps.length e)) ∧ cx (shL ps e) 2 = cx ps (nx ps.length (nx ps.length e)) ∧ cy (shL ps e) 2 = cy ps (nx ps.length (nx ps.length e)) := by
  have t0 : (0 + e) % ps.length = e := turn_zero he
  have t1 : (1 + e) % ps.length = nx ps.length e := by unfold nx; rw [Nat.add_comm]
  have t2 : (2 + e) % ps.length = nx ps.length (nx ps.length e) := by unfold nx; rw [Nat.mod_add_mod, show e + 1 + 1 = 2 + e by omega]
  have a0 := shL_at ps e (i := 0) (by omega)
  have a1 := shL_at ps e (i := 1) (by omega)
  have a2 := shL_at ps e (i := 2) (by omega)
  rw [t0] at a0
  rw [t1] at a1
  rw [t2] at a2
  exact ⟨a0, a1, a2⟩
theorem ear_cut {ps : List (Int × Int)} (hG : Good ps) (h4 : 4 ≤ ps.length) {e : Nat} (he : e < ps.length) (hE : Ear ps e) : Good (oneL (shL ps e) 2) ∧ Good (twoL (shL ps e) 2) ∧ Diag (shL ps e) 0 2 := by
  have hl := shL_len ps e
  have t0 : (0 + e) % ps.length = e := turn_zero he
  have t1 : (1 + e) % ps.length = nx ps.length e := by unfold nx; rw [Nat.add_comm]
  have t2 : (2 + e) % ps.length = nx ps.length (nx ps.length e) := by unfold nx; rw [Nat.mod_add_mod, show e + 1 + 1 = 2 + e by omega]
  obtain ⟨a0, a1, a2⟩ := shL_three he (by omega)
  exact clip_cut (us := shL ps e) (shL_good hG e) (by omega) (by rw [a0.1, a0.2, a1.1, a1.2, a2.1, a2.2]; exact hE.1) (fun k h3 hk => by
    rw [hl] at hk
    have ak := shL_at ps e hk
    rw [a0.1, a0.2, a1.1, a1.2, a2.1, a2.2, ak.1, ak.2]
    refine hE.2 _ (Nat.mod_lt _ (by omega)) (fun h => ?_) (fun h => ?_) (fun h => ?_)
    · have := turn_injm e hk (show 0 < ps.length by omega) (by rw [t0]; exact h); omega
    · have := turn_injm e hk (show 1 < ps.length by omega) (by rw [t1]; exact h); omega
    · have := turn_injm e hk (show 2 < ps.length by omega) (by rw [t2]; exact h); omega)
/-- The closed triangle of an ear lies in the closed polygon. -/
theorem ear_sub {ps : List (Int × Int)} (hG : Good ps) {e : Nat} (he : e < ps.length) (hE : Ear ps e) {p q : Int} (hn : Near3 ps e p q) : 0 ≤ locE ps p q := by
  have h3 := hG.1.1
  have hl := shL_len ps e
  obtain ⟨a0, a1, a2⟩ := shL_three he (by omega)
  rw [← shL_loc ps e p q (by omega)]
  have t : 0 ≤ locE (oneL (shL ps e) 2) p q := by
    rw [one_tri (by omega), a0.1, a0.2, a1.1, a1.2, a2.1, a2.2]
    have := (tri_closed hE.1).2 hn
    have := loc_three (triL (cx ps e) (cy ps e) (cx ps (nx ps.length e)) (cy ps (nx ps.length e)) (cx ps (nx ps.length (nx ps.length e))) (cy ps (nx ps.length (nx ps.length e)))) p q
    omega
  by_cases h4 : 4 ≤ ps.length
  · obtain ⟨g1, g2, _⟩ := ear_cut hG h4 he hE
    exact (cut_locG (us := shL ps e) (k := 2) (by omega) (by omega) (shL_good hG e) g1 g2 p q).2.2.2 (.inl t)
  · have : oneL (shL ps e) 2 = shL ps e := by
      unfold oneL
      exact List.take_of_length_le (by omega)
    rw [this] at t
    exact t
/-- An ear of the first part that is not at the cut is an ear of the whole. -/
theorem ear_one {us : List (Int × Int)} {k : Nat} (h2 : 2 ≤ k) (hk : k + 1 < us.length) (hU : Good us) (hd : Diag us 0 k) (g1 : Good (oneL us k)) (g2 : Good (twoL us k)) {e : Nat} (he : e + 2 ≤ k) (hE : Ear (oneL us k) e) : Ear us e := by
  have hl := oneL_len (us := us) (k := k) (by omega)
  have m1 : nx (oneL us k).length e = e + 1 := nx_small (by omega)
  have m2 : nx (oneL us k).length (e + 1) = e + 2 := nx_small (by omega)
  have w1 : nx us.length e = e + 1 := nx_small (by omega)
  have w2 : nx us.length (e + 1) = e + 2 := nx_small (by omega)
  have a0 := oneL_at (us := us) (show e ≤ k by omega)
  have a1 := oneL_at (us := us) (show e + 1 ≤ k by omega)
  have a2 := oneL_at (us := us) (show e + 2 ≤ k by omega)
  have near : ∀ p q, Near3 us e p q → Near3 (oneL us k) e p q := fun p q h => by
    unfold Near3 at h ⊢
    rw [w1, w2] at h
    rw [m1, m2, a0.1, a0.2, a1.1, a1.2, a2.1, a2.2]
    exact h
  refine ⟨?_, fun x hx n1 n2 n3 hn => ?_⟩
  · have := hE.1
    rw [m1, m2, a0.1, a0.2, a1.1, a1.2, a2.1, a2.2] at this
    rw [w1, w2]
    exact this
  · rw [w1] at n2
    rw [w1, w2] at n3
    by_cases hxk : x ≤ k
    · have ax := oneL_at (us := us) hxk
      exact hE.2 x (by omega) n1 (by rw [m1]; exact n2) (by rw [m1, m2]; exact n3) (by rw [ax.1, ax.2]; exact near _ _ hn)
    · have s := ear_sub g1 (by omega) hE (near _ _ hn)
      have c := cut_locG (by omega) hk hU g1 g2 (cx us x) (cy us x)
      have bx : locE (twoL us k) (cx us x) (cy us x) = 0 := by
        obtain ⟨j, rfl⟩ : ∃ j, x = k + j := ⟨x - k, by omega⟩
        have t := twoL_at us k j
        rw [← t.1, ← t.2]
        exact loc_corner _ (by rw [twoL_len]; omega)
      have z : locE (oneL us k) (cx us x) (cy us x) = 0 := by omega
      obtain ⟨i, hi, o⟩ := loc_zero.1 z
      by_cases hik : i = k
      · subst hik
        have f0 : nx (oneL us i).length i = 0 := nx_last (by omega)
        have b0 := oneL_at (us := us) (Nat.zero_le i)
        have bk := oneL_at (us := us) (Nat.le_refl i)
        unfold onE at o
        rw [f0, b0.1, b0.2, bk.1, bk.2, onB_rev, hd.2 x hx (by omega) (by omega)] at o
        cases o
      · rcases one_on hk hi o with h | h
        · exact hik h
        · rcases corner_on hU.1 (show i < us.length by omega) hx h with h | h
          · omega
          · rw [nx_small (by omega)] at h; omega
/-- An ear of the second part that is not at the cut is an ear of the whole. -/
theorem ear_two {us : List (Int × Int)} {k : Nat} (h2 : 2 ≤ k) (hk : k + 1 < us.length) (hU : Good us) (hd : Diag us 0 k) (g1 : Good (oneL us k)) (g2 : Good (twoL us k)) {e : Nat} (he1 : 1 ≤ e) (he : e + 1 < (twoL us k).length) (hE : Ear (twoL us k) e) : Ear us (k + e - 1) := by
  have hl := twoL_len us k
  have m1 : nx (twoL us k).length e = e + 1 := nx_small (by omega)
  have w1 : nx us.length (k + e - 1) = k + e := by rw [nx_small (by omega)]; omega
  obtain ⟨a0, _⟩ := two_next us (k := k) he1 (by omega) (by omega)
  obtain ⟨a1, a2⟩ := two_next us (k := k) (i := e + 1) (by omega) (by omega) he
  rw [show k + (e + 1) - 1 = k + e by omega] at a1 a2
  have near : ∀ p q, Near3 us (k + e - 1) p q → Near3 (twoL us k) e p q := fun p q h => by
    unfold Near3 at h ⊢
    rw [w1] at h
    rw [m1, a0.1, a0.2, a1.1, a1.2, a2.1, a2.2]
    exact h
  refine ⟨?_, fun x hx n1 n2 n3 hn => ?_⟩
  · have := hE.1
    rw [m1, a0.1, a0.2, a1.1, a1.2, a2.1, a2.2] at this
    rw [w1]
    exact this
  · rw [w1] at n2
    rw [w1] at n3
    have corner : ∀ y, y < (twoL us k).length → cx (twoL us k) y = cx us x → cy (twoL us k) y = cy us x → y ≠ e → y ≠ e + 1 → y ≠ nx (twoL us k).length (e + 1) → False := fun y hy c1 c2 q1 q2 q3 =>
      hE.2 y hy q1 (by rw [m1]; exact q2) (by rw [m1]; exact q3) (by rw [c1, c2]; exact near _ _ hn)
    by_cases hxk : k ≤ x
    · obtain ⟨j, rfl⟩ : ∃ j, x = k + j := ⟨x - k, by omega⟩
      have t := twoL_at us k j
      refine corner (j + 1) (by omega) t.1 t.2 (by omega) (by omega) (fun h => ?_)
      by_cases g : e + 1 + 1 < (twoL us k).length
      · rw [nx_small g] at h
        rw [nx_small (by omega)] at n3
        omega
      · rw [nx_last (by omega)] at h
        omega
    · by_cases hx0 : x = 0
      · subst hx0
        refine corner 0 (by omega) (twoL_zero us k).1 (twoL_zero us k).2 (by omega) (by omega) (fun h => ?_)
        by_cases g : e + 1 + 1 < (twoL us k).length
        · rw [nx_small g] at h; omega
        · rw [nx_last (show k + e + 1 = us.length by omega)] at n3
          exact n3 rfl
      · have s := ear_sub g2 (by omega) hE (near _ _ hn)
        have c := cut_locG (by omega) hk hU g1 g2 (cx us x) (cy us x)
        have bx : locE (oneL us k) (cx us x) (cy us x) = 0 := by
          have t := oneL_at (us := us) (show x ≤ k by omega)
          rw [← t.1, ← t.2]
          exact loc_corner _ (by rw [oneL_len (by omega)]; omega)
        have z : locE (twoL us k) (cx us x) (cy us x) = 0 := by omega
        obtain ⟨i, hi, o⟩ := loc_zero.1 z
        by_cases hi0 : i = 0
        · subst hi0
          have f0 : nx (twoL us k).length 0 = 0 + 1 := nx_small (by omega)
          have b1 := twoL_at us k 0
          unfold onE at o
          rw [f0, (twoL_zero us k).1, (twoL_zero us k).2, b1.1, b1.2, Nat.add_zero, hd.2 x hx (by omega) (by omega)] at o
          cases o
        · rcases two_on hk hi o with h | h
          · exact hi0 h
          · rcases corner_on hU.1 (show k + i - 1 < us.length by omega) hx h with h | h
            · omega
            · by_cases g : k + i - 1 + 1 < us.length
              · rw [nx_small g] at h; omega
              · rw [nx_last (by omega)] at h; omega
end Go.Proofs.YtalhkcmlacppjaaGreatDoor


namespace Go.Proofs.YtalhkcmlacppjaaGreatDoor
open Go.ChangeShapes Go.WideShapes Go.ChangeAt Go.RowKit
set_option linter.unusedVariables false
set_option linter.unusedSimpArgs false

theorem turn_surj {n : Nat} (m : Nat) {f : Nat} (hf : f < n) : ∃ i, i < n ∧ (i + m) % n = f := by
  refine ⟨(f + (n - m % n)) % n, Nat.mod_lt _ (by omega), ?_⟩
  have hm := Nat.mod_lt m (show 0 < n by omega)
  rw [Nat.mod_add_mod, ← Nat.add_mod_mod, show f + (n - m % n) + m % n = f + n by omega, Nat.add_mod_right, Nat.mod_eq_of_lt hf]
theorem shL_ear {ps : List (Int × Int)} (m : Nat) {j : Nat} (hj : j < ps.length) (h : Ear (shL ps m) j) : Ear ps ((j + m) % ps.length) := by
  have h0 : 0 < ps.length := by omega
  have b0 := shL_at ps m hj
  have b1 := shL_nx ps m hj
  have b2 := shL_nx2 ps m hj
  obtain ⟨h1, h2⟩ := h
  rw [b0.1, b0.2, b1.1, b1.2, b2.1, b2.2] at h1
  refine ⟨h1, fun x hx n1 n2 n3 hn => ?_⟩
  obtain ⟨i, hi, rfl⟩ := turn_surj m hx
  rw [nx_turn] at n2
  rw [nx_turn, nx_turn] at n3
  refine h2 i (by rw [shL_len]; exact hi) (fun g => n1 (by rw [g])) (fun g => n2 (by rw [g, shL_len])) (fun g => n3 (by rw [g, shL_len])) ?_
  unfold Near3 at hn ⊢
  rw [b0.1, b0.2, b1.1, b1.2, b2.1, b2.2, (shL_at ps m hi).1, (shL_at ps m hi).2]
  exact hn
/-- A triangle: every corner is an ear. -/
theorem ear_three {ps : List (Int × Int)} (hG : Good ps) (h3 : ps.length = 3) {e : Nat} (he : e < 3) : Ear ps e := by
  have D : 0 < det (cx ps 0) (cy ps 0) (cx ps 1) (cy ps 1) (cx ps 2) (cy ps 2) := by
    obtain ⟨f, hf, h, _⟩ := top_left hG
    rw [h3] at hf h
    have k1 := det_cyc (cx ps 0) (cy ps 0) (cx ps 1) (cy ps 1) (cx ps 2) (cy ps 2)
    have k2 := det_cyc (cx ps 1) (cy ps 1) (cx ps 2) (cy ps 2) (cx ps 0) (cy ps 0)
    obtain rfl | rfl | rfl : f = 0 ∨ f = 1 ∨ f = 2 := by omega
    · rw [nx3.1, nx3.2.1] at h; exact h
    · rw [nx3.2.1, nx3.2.2] at h; omega
    · rw [nx3.2.2, nx3.1] at h; omega
  have k1 := det_cyc (cx ps 0) (cy ps 0) (cx ps 1) (cy ps 1) (cx ps 2) (cy ps 2)
  have k2 := det_cyc (cx ps 1) (cy ps 1) (cx ps 2) (cy ps 2) (cx ps 0) (cy ps 0)
  unfold Ear
  rw [h3]
  obtain rfl | rfl | rfl : e = 0 ∨ e = 1 ∨ e = 2 := by omega
  · rw [nx3.1, nx3.2.1]; exact ⟨D, fun x hx n1 n2 n3 => by omega⟩
  · rw [nx3.2.1, nx3.2.2]; exact ⟨by omega, fun x hx n1 n2 n3 => by omega⟩
  · rw [nx3.2.2, nx3.1]; exact ⟨by omega, fun x hx n1 n2 n3 => by omega⟩
/-- Every polygon has an ear that is no end of a given edge. -/
theorem ear_away : ∀ (n : Nat) (ps : List (Int × Int)), Good ps → ps.length = n → ∀ d, d < n → ∃ e, e < n ∧ Ear ps e ∧ nx n e ≠ d ∧ nx n e ≠ nx n d := by
  intro n
  induction n using Nat.strongRecOn with
  | ind n ih =>
    intro ps hG hl d hd
    have h3 := hG.1.1
    by_cases hn : n = 3
    · subst hn
      obtain rfl | rfl | rfl : d = 0 ∨ d = 1 ∨ d = 2 := by omega
      · exact ⟨1, by omega, ear_three hG hl (by omega), by decide, by decide⟩
      · exact ⟨2, by omega, ear_three hG hl (by omega), by decide, by decide⟩
      · exact ⟨0, by omega, ear_three hG hl (by omega), by decide, by decide⟩
    · obtain ⟨m, k, hm, hk2, hk, hdg, g1, g2⟩ := cut_ex hG (by omega)
      have hU := shL_good hG m
      have lu := shL_len ps m
      obtain ⟨d', hd', rfl⟩ := turn_surj m hd
      have l1 := oneL_len (us := shL ps m) (k := k) (by omega)
      have l2 := twoL_len (shL ps m) k
      -- an ear of the turned polygon will do
      suffices hx : ∃ j, j < n ∧ Ear (shL ps m) j ∧ nx n j ≠ d' ∧ nx n j ≠ nx n d' by
        obtain ⟨j, hj, hE, q1, q2⟩ := hx
        have := shL_ear m (by omega) hE
        rw [hl] at this
        refine ⟨(j + m) % n, Nat.mod_lt _ (by omega), this, fun h => ?_, fun h => ?_⟩
        · rw [nx_turn] at h
          exact q1 (turn_injm m (nx_lt' hj) hd' h)
        · rw [nx_turn, nx_turn] at h
          exact q2 (turn_injm m (nx_lt' hj) (nx_lt' hd') h)
      by_cases hside : d' < k
      · obtain ⟨e, he, hE, q1, q2⟩ := ih (twoL (shL ps m) k).length (by omega) _ g2 rfl 0 (by omega)
        rw [nx_small (i := 0) (by omega)] at q2
        have e1 : e + 1 < (twoL (shL ps m) k).length := by
          apply Classical.byContradiction
          intro h
          exact q1 (nx_last (by omega))
        rw [nx_small e1] at q1 q2
        have w1 : nx n (k + e - 1) = k + e := by rw [nx_small (by omega)]; omega
        refine ⟨k + e - 1, by omega, ear_two hk2 (by omega) hU hdg g1 g2 (by omega) e1 hE, ?_, ?_⟩
        · rw [w1]; omega
        · rw [w1, nx_small (by omega)]; omega
      · obtain ⟨e, he, hE, q1, q2⟩ := ih (oneL (shL ps m) k).length (by omega) _ g1 rfl k (by omega)
        rw [nx_last (i := k) (by omega)] at q2
        have e1 : e + 1 < (oneL (shL ps m) k).length := by
          apply Classical.byContradiction
          intro h
          exact q2 (nx_last (by omega))
        rw [nx_small e1] at q1 q2
        have w1 : nx n e = e + 1 := nx_small (by omega)
        refine ⟨e, by omega, ear_one hk2 (by omega) hU hdg g1 g2 (by omega) hE, ?_, ?_⟩
        · rw [w1]; omega
        · rw [w1]
          by_cases g : d' + 1 < n
          · rw [nx_small g]; omega
          · rw [nx_last (by omega)]; omega
/-- Every polygon has an ear. -/
theorem ear_ex {ps : List (Int × Int)} (hG : Good ps) : ∃ e, e < ps.length ∧ Ear ps e := by
  have h3 := hG.1.1
  obtain ⟨e, he, hE, _⟩ := ear_away ps.length ps hG rfl 0 (by omega)
  exact ⟨e, he, hE⟩
end Go.Proofs.YtalhkcmlacppjaaGreatDoor


namespace Go.Proofs.YtalhkcmlacppjaaGreatDoor
open Go.ChangeShapes Go.WideShapes Go.ChangeAt Go.RowKit
set_option linter.unusedVariables false
set_option linter.unusedSimpArgs false

theorem corners_ext {a b : List (Int × Int)} (hl : a.length = b.length) (h : ∀ i, i < a.length → cx a i = cx b i ∧ cy a i = cy b i) : a = b := by
  refine List.ext_getElem hl fun i h1 h2 => ?_
  have := h i h1
  unfold cx cy at this
  rw [List.getD_eq_getElem?_getD, List.getD_eq_getElem?_getD, List.getElem?_eq_getElem h1, List.getElem?_eq_getElem h2] at this
  exact Prod.ext this.1 this.2
theorem erase_at (ps : List (Int × Int)) (j i : Nat) : cx (ps.eraseIdx j) i = cx ps (if i < j then i else i + 1) ∧ cy (ps.eraseIdx j) i = cy ps (if i < j then i else i + 1) := by
  unfold cx cy
  rw [List.getD_eq_getElem?_getD, List.getD_eq_getElem?_getD, List.getElem?_eraseIdx]
  split <;> exact ⟨rfl, rfl⟩
theorem erase_turn {ps : List (Int × Int)} {e : Nat} (he : e < ps.length) (h3 : 3 ≤ ps.length) : ∃ m, ps.eraseIdx (nx ps.length e) = shL (twoL (shL ps e) 2) m := by
  have hl := shL_len ps e
  have h0 : 0 < ps.length := by omega
  have l2 : (twoL (shL ps e) 2).length = ps.length - 1 := by rw [twoL_len, hl]; omega
  have le : (ps.eraseIdx (nx ps.length e)).length = ps.length - 1 := List.length_eraseIdx_of_lt (nx_lt' he)
  have T0 : cx (twoL (shL ps e) 2) 0 = cx ps e ∧ cy (twoL (shL ps e) 2) 0 = cy ps e := by
    have a := shL_at ps e h0
    rw [turn_zero he] at a
    rw [(twoL_zero _ 2).1, (twoL_zero _ 2).2]
    exact a
  have T : ∀ i, 1 ≤ i → i < ps.length - 1 → cx (twoL (shL ps e) 2) i = cx ps ((i + 1 + e) % ps.length) ∧ cy (twoL (shL ps e) 2) i = cy ps ((i + 1 + e) % ps.length) := fun i h1 hi => by
    obtain ⟨j, rfl⟩ : ∃ j, i = j + 1 := ⟨i - 1, by omega⟩
    have a := shL_at ps e (i := 2 + j) (by omega)
    rw [(twoL_at _ 2 j).1, (twoL_at _ 2 j).2, show j + 1 + 1 = 2 + j by omega]
    exact a
  by_cases g : e + 1 < ps.length
  · refine ⟨ps.length - 1 - e, corners_ext (by rw [le, shL_len, l2]) fun i hi => ?_⟩
    rw [le] at hi
    have a := shL_at (twoL (shL ps e) 2) (ps.length - 1 - e) (i := i) (by omega)
    rw [a.1, a.2, (erase_at ps _ i).1, (erase_at ps _ i).2, l2, nx_small g]
    rcases Nat.lt_trichotomy i e with c | c | c
    · rw [if_pos (by omega), Nat.mod_eq_of_lt (show i + (ps.length - 1 - e) < ps.length - 1 by omega), (T _ (by omega) (by omega)).1, (T _ (by omega) (by omega)).2]
      rw [show i + (ps.length - 1 - e) + 1 + e = i + ps.length by omega, Nat.add_mod_right, Nat.mod_eq_of_lt (by omega)]
      exact ⟨rfl, rfl⟩
    · subst c
      rw [if_pos (by omega), show i + (ps.length - 1 - i) = ps.length - 1 by omega, Nat.mod_self, T0.1, T0.2]
      exact ⟨rfl, rfl⟩
    · rw [if_neg (by omega), show i + (ps.length - 1 - e) = (i - e) + (ps.length - 1) by omega, Nat.add_mod_right, Nat.mod_eq_of_lt (show i - e < ps.length - 1 by omega), (T _ (by omega) (by omega)).1, (T _ (by omega) (by omega)).2]
      rw [show i - e + 1 + e = i + 1 by omega, Nat.mod_eq_of_lt (by omega)]
      exact ⟨rfl, rfl⟩
  · refine ⟨1, corners_ext (by rw [le, shL_len, l2]) fun i hi => ?_⟩
    rw [le] at hi
    have a := shL_at (twoL (shL ps e) 2) 1 (i := i) (by omega)
    rw [a.1, a.2, (erase_at ps _ i).1, (erase_at ps _ i).2, l2, nx_last (by omega), if_neg (by omega)]
    by_cases c : i + 1 < ps.length - 1
    · rw [Nat.mod_eq_of_lt c, (T _ (by omega) c).1, (T _ (by omega) c).2]
      rw [show i + 1 + 1 + e = i + 1 + ps.length by omega, Nat.add_mod_right, Nat.mod_eq_of_lt (by omega)]
      exact ⟨rfl, rfl⟩
    · rw [show i + 1 = ps.length - 1 by omega, Nat.mod_self, T0.1, T0.2, show ps.length - 1 = e by omega]
      exact ⟨rfl, rfl⟩
/-- The triangle of the corner after e. -/
def triE (ps : List (Int × Int)) (e : Nat) : List (Int × Int) := triL (cx ps e) (cy ps e) (cx ps (nx ps.length e)) (cy ps (nx ps.length e)) (cx ps (nx ps.length (nx ps.length e))) (cy ps (nx ps.length (nx ps.length e)))
/-- Inside a part: inside the whole. -/
theorem cut_in {us : List (Int × Int)} {k : Nat} (hk0 : 0 < k) (hk : k + 1 < us.length) (hU : Good us) (h1 : Good (oneL us k)) (h2 : Good (twoL us k)) {p q : Int} (h : locE (oneL us k) p q = 1 ∨ locE (twoL us k) p q = 1) : locE us p q = 1 := by
  obtain ⟨c1, c2, c3⟩ := cut_locG hk0 hk hU h1 h2 p q
  have ge : 0 ≤ locE us p q := c3.2 (by omega)
  rcases loc_three us p q with z | z | z
  · exfalso
    obtain ⟨i, hi, o⟩ := loc_zero.1 z
    rcases us_on hk hi o with ⟨e, he, oe⟩ | ⟨e, he, oe⟩
    · have := loc_zero.2 ⟨e, he, oe⟩
      omega
    · have := loc_zero.2 ⟨e, he, oe⟩
      omega
  · exact z
  · omega
theorem clip_in {ps : List (Int × Int)} (hG : Good ps) (h4 : 4 ≤ ps.length) {e : Nat} (he : e < ps.length) (hE : Ear ps e) {p q : Int}
    (h : locE (triE ps e) p q = 1 ∨ locE (ps.eraseIdx (nx ps.length e)) p q = 1) : locE ps p q = 1 := by
  have hl := shL_len ps e
  obtain ⟨m, hm⟩ := erase_turn he (by omega)
  obtain ⟨g1, g2, _⟩ := ear_cut hG h4 he hE
  obtain ⟨a0, a1, a2⟩ := shL_three he (by omega)
  have l2 : (twoL (shL ps e) 2).length = ps.length - 1 := by rw [twoL_len, hl]; omega
  have t : oneL (shL ps e) 2 = triE ps e := by
    rw [one_tri (by omega), a0.1, a0.2, a1.1, a1.2, a2.1, a2.2]
    rfl
  rw [hm, shL_loc _ m p q (by omega), ← t] at h
  rw [← shL_loc ps e p q (by omega)]
  exact cut_in (by omega) (by omega) (shL_good hG e) g1 g2 h
/-- An ear clipped: what is left is a polygon, and the ear and it make up the whole. -/
theorem clip {ps : List (Int × Int)} (hG : Good ps) (h4 : 4 ≤ ps.length) {e : Nat} (he : e < ps.length) (hE : Ear ps e) :
    Good (ps.eraseIdx (nx ps.length e)) ∧ area2 ps = area2 (triE ps e) + area2 (ps.eraseIdx (nx ps.length e)) ∧
    ∀ p q, (locE (triE ps e) p q < 1 ∨ locE (ps.eraseIdx (nx ps.length e)) p q < 0) ∧ (locE (ps.eraseIdx (nx ps.length e)) p q < 1 ∨ locE (triE ps e) p q < 0) ∧ (0 ≤ locE ps p q ↔ 0 ≤ locE (triE ps e) p q ∨ 0 ≤ locE (ps.eraseIdx (nx ps.length e)) p q) := by
  have hl := shL_len ps e
  obtain ⟨m, hm⟩ := erase_turn he (by omega)
  obtain ⟨g1, g2, _⟩ := ear_cut hG h4 he hE
  obtain ⟨a0, a1, a2⟩ := shL_three he (by omega)
  have l2 : (twoL (shL ps e) 2).length = ps.length - 1 := by rw [twoL_len, hl]; omega
  have t : oneL (shL ps e) 2 = triE ps e := by
    rw [one_tri (by omega), a0.1, a0.2, a1.1, a1.2, a2.1, a2.2]
    rfl
  rw [hm]
  refine ⟨shL_good g2 m, ?_, fun p q => ?_⟩
  · rw [shL_area _ m (by omega), ← t, ← shL_area ps e (by omega)]
    exact cut_area (by omega)
  · rw [shL_loc _ m p q (by omega), ← t, ← shL_loc ps e p q (by omega)]
    exact cut_locG (by omega) (by omega) (shL_good hG e) g1 g2 p q
end Go.Proofs.YtalhkcmlacppjaaGreatDoor


namespace Go.Proofs.YtalhkcmlacppjaaGreatDoor
open Go.ChangeShapes Go.WideShapes Go.ChangeAt Go.RowKit
set_option linter.unusedVariables false
set_option linter.unusedSimpArgs false

/-- The parts of a polygon that is clipped ear by ear, whichever ears are taken. -/
inductive Clips : List (Int × Int) → List (List (Int × Int)) → Prop
  | done {ps : List (Int × Int)} : ps.length = 3 → Clips ps [ps]
  | step {ps : List (Int × Int)} {e : Nat} {parts : List (List (Int × Int))} : 4 ≤ ps.length → e < ps.length → Ear ps e → Clips (ps.eraseIdx (nx ps.length e)) parts → Clips ps (triE ps e :: parts)
def sumA (l : List (List (Int × Int))) : Int := l.foldr (fun t s => area2 t + s) 0
theorem sumA_cons (t : List (Int × Int)) (l : List (List (Int × Int))) : sumA (t :: l) = area2 t + sumA l := rfl
theorem mem_corner {ps : List (Int × Int)} {i : Nat} (hi : i < ps.length) : (cx ps i, cy ps i) ∈ ps := by
  unfold cx cy
  rw [List.getD_eq_getElem?_getD, List.getElem?_eq_getElem hi]
  exact List.getElem_mem hi
theorem triE_mem {ps : List (Int × Int)} {e : Nat} (he : e < ps.length) {y : Int × Int} (hy : y ∈ triE ps e) : y ∈ ps := by
  have hv := nx_lt' he
  have hw := nx_lt' hv
  unfold triE triL at hy
  rcases List.mem_cons.1 hy with rfl | hy
  · exact mem_corner he
  · rcases List.mem_cons.1 hy with rfl | hy
    · exact mem_corner hv
    · rcases List.mem_cons.1 hy with rfl | hy
      · exact mem_corner hw
      · cases hy
theorem Clips.area {ps : List (Int × Int)} {parts : List (List (Int × Int))} (h : Clips ps parts) (hG : Good ps) : sumA parts = area2 ps := by
  induction h with
  | done h => show area2 _ + 0 = _; omega
  | step h4 he hE _ ih =>
    obtain ⟨g, a, _⟩ := clip hG h4 he hE
    rw [sumA_cons, ih g, a]
theorem Clips.loc {ps : List (Int × Int)} {parts : List (List (Int × Int))} (h : Clips ps parts) (hG : Good ps) (p q : Int) : 0 ≤ locE ps p q ↔ ∃ t, t ∈ parts ∧ 0 ≤ locE t p q := by
  induction h with
  | done h => exact ⟨fun k => ⟨_, List.mem_singleton.2 rfl, k⟩, fun ⟨t, ht, k⟩ => by rw [List.mem_singleton.1 ht] at k; exact k⟩
  | step h4 he hE _ ih =>
    obtain ⟨g, _, l⟩ := clip hG h4 he hE
    rw [(l p q).2.2, ih g]
    constructor
    · rintro (k | ⟨t, ht, k⟩)
      · exact ⟨_, List.mem_cons_self, k⟩
      · exact ⟨t, List.mem_cons_of_mem _ ht, k⟩
    · rintro ⟨t, ht, k⟩
      rcases List.mem_cons.1 ht with rfl | ht
      · exact .inl k
      · exact .inr ⟨t, ht, k⟩
/-- Inside a part: inside the polygon. -/
theorem Clips.inner {ps : List (Int × Int)} {parts : List (List (Int × Int))} (h : Clips ps parts) (hG : Good ps) {t : List (Int × Int)} (ht : t ∈ parts) {p q : Int} (hi : locE t p q = 1) : locE ps p q = 1 := by
  induction h with
  | done h => rw [List.mem_singleton.1 ht] at hi; exact hi
  | step h4 he hE _ ih =>
    obtain ⟨g, _, _⟩ := clip hG h4 he hE
    rcases List.mem_cons.1 ht with rfl | ht
    · exact clip_in hG h4 he hE (.inl hi)
    · exact clip_in hG h4 he hE (.inr (ih g ht))
/-- No point is inside two parts. -/
theorem Clips.apart {ps : List (Int × Int)} {parts : List (List (Int × Int))} (h : Clips ps parts) (hG : Good ps) (p q : Int) : parts.Pairwise fun s t => ¬ (locE s p q = 1 ∧ locE t p q = 1) := by
  induction h with
  | done h => exact List.pairwise_singleton _ _
  | step h4 he hE hc ih =>
    obtain ⟨g, _, l⟩ := clip hG h4 he hE
    refine List.pairwise_cons.2 ⟨fun t ht ⟨k1, k2⟩ => ?_, ih g⟩
    have := hc.inner g ht k2
    have := (l p q).1
    omega
/-- Every part is a triangle that turns left; its corners are corners of the polygon. -/
theorem Clips.part {ps : List (Int × Int)} {parts : List (List (Int × Int))} (h : Clips ps parts) (hG : Good ps) {t : List (Int × Int)} (ht : t ∈ parts) : t.length = 3 ∧ 0 < det (cx t 0) (cy t 0) (cx t 1) (cy t 1) (cx t 2) (cy t 2) ∧ ∀ y, y ∈ t → y ∈ ps := by
  induction h with
  | done h =>
    rw [List.mem_singleton] at ht
    subst ht
    have e := ear_three hG h (e := 0) (by omega)
    have := e.1
    rw [h, nx3.1, nx3.2.1] at this
    exact ⟨h, this, fun y hy => hy⟩
  | step h4 he hE _ ih =>
    obtain ⟨g, _, _⟩ := clip hG h4 he hE
    rcases List.mem_cons.1 ht with rfl | ht
    · exact ⟨rfl, hE.1, fun y hy => triE_mem he hy⟩
    · obtain ⟨a, b, c⟩ := ih g ht
      exact ⟨a, b, fun y hy => List.mem_of_mem_eraseIdx (c y hy)⟩
/-- So long as there are four corners and more, there is an ear. -/
theorem clips_ex : ∀ (n : Nat) (ps : List (Int × Int)), ps.length = n → Good ps → ∃ parts, Clips ps parts := by
  intro n
  induction n with
  | zero => intro ps hl hG; have := hG.1.1; omega
  | succ n ih =>
    intro ps hl hG
    have h3 := hG.1.1
    by_cases h4 : 4 ≤ ps.length
    · obtain ⟨e, he, hE⟩ := ear_ex hG
      obtain ⟨g, _, _⟩ := clip hG h4 he hE
      obtain ⟨parts, hp⟩ := ih _ (by rw [List.length_eraseIdx_of_lt (nx_lt' he)]; omega) g
      exact ⟨_, .step h4 he hE hp⟩
    · exact ⟨_, .done (by omega)⟩
end Go.Proofs.YtalhkcmlacppjaaGreatDoor



