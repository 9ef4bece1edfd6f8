/- Convex polygons have a common point or a separating edge. Mathematics alone. -/
import Derived.Test.YtalhkcmlacppjaaDoorIuA
namespace Go.Proofs.YtalhkcmlacppjaaDoor
open Go.ChangeShapes Go.WideShapes Go.ChangeAt Go.RowKit
set_option linter.unusedVariables false
set_option linter.unusedSimpArgs false

/-! ### A separating edge -/
def rightB (a b : List (Int × Int)) (i : Nat) : Bool := (List.range b.length).all fun j => decide (dt (gp a i) (gp a (nx a.length i)) (gp b j) < 0)
def anyR (a b : List (Int × Int)) : Bool := (List.range a.length).any (rightB a b)
def apartB (a b : List (Int × Int)) : Bool := anyR a b || anyR b a
def weakB (a : List (Int × Int)) : Bool := (List.range a.length).all fun i => (List.range a.length).all fun k => decide (0 ≤ dt (gp a i) (gp a (nx a.length i)) (gp a k))
theorem rightB_iff {a b : List (Int × Int)} {i : Nat} : rightB a b i = true ↔ ∀ y, y ∈ b → dt (gp a i) (gp a (nx a.length i)) y < 0 := by
  unfold rightB
  simp only [List.all_eq_true, List.mem_range, decide_eq_true_eq]
  exact ⟨fun h y hy => by obtain ⟨j, hj, e⟩ := mem_gp hy; rw [← e]; exact h j hj, fun h j hj => h _ (gp_mem hj)⟩
theorem weakB_iff {a : List (Int × Int)} : weakB a = true ↔ ∀ i, i < a.length → ∀ y, y ∈ a → 0 ≤ dt (gp a i) (gp a (nx a.length i)) y := by
  unfold weakB
  simp only [List.all_eq_true, List.mem_range, decide_eq_true_eq]
  exact ⟨fun h i hi y hy => by obtain ⟨j, hj, e⟩ := mem_gp hy; rw [← e]; exact h i hi j hj, fun h i hi j hj => h i hi _ (gp_mem hj)⟩
theorem conv_weak {a : List (Int × Int)} (hC : Conv a) : weakB a = true := weakB_iff.2 fun i hi y hy => by
  obtain ⟨j, hj, rfl⟩ := mem_gp hy
  by_cases g1 : j = i
  · subst g1; rw [dt_self]; omega
  · by_cases g2 : j = nx a.length i
    · rw [← g2, dt_self2]; omega
    · exact Int.le_of_lt (hC.2 i j hi hj g1 g2)
theorem mem_sc {N : Int} {a : List (Int × Int)} {y : Int × Int} : y ∈ scL N a ↔ ∃ p, p ∈ a ∧ (N * p.1, N * p.2) = y := List.mem_map
/-- All of a on the left of a line, all of b strictly on its right: no common point. -/
theorem line_both {a b : List (Int × Int)} (hA : Good a) (hB : Good b) {u v : Int × Int} (h1 : ∀ y, y ∈ a → 0 ≤ dt u v y) (h2 : ∀ y, y ∈ b → dt u v y < 0) : ¬ Both a b := by
  rintro ⟨N, X, Y, hN, k1, k2⟩
  have z1 := good_left (hA.sc hN) (q := (X, Y)) (a := (N * u.1, N * u.2)) (b := (N * v.1, N * v.2)) (c := 0) k1 fun y hy => by
    obtain ⟨p, hp, rfl⟩ := mem_sc.1 hy
    exact (nng_det hN _ _ _ _ _ _).2 (h1 p hp)
  have z2 := good_left (hB.sc hN) (q := (X, Y)) (a := (N * v.1, N * v.2)) (b := (N * u.1, N * u.2)) (c := 1) k2 fun y hy => by
    obtain ⟨p, hp, rfl⟩ := mem_sc.1 hy
    have := (det_sc hN u.1 u.2 v.1 v.2 p.1 p.2).1.2 (h2 p hp)
    have e : dt (N * u.1, N * u.2) (N * v.1, N * v.2) (N * p.1, N * p.2) = det (N * u.1) (N * u.2) (N * v.1) (N * v.2) (N * p.1) (N * p.2) := rfl
    rw [dt_swap]
    omega
  rw [dt_swap] at z2
  omega
theorem right_sound {a b : List (Int × Int)} (hA : Good a) (hB : Good b) {i : Nat} (hi : i < a.length) (hw : ∀ y, y ∈ a → 0 ≤ dt (gp a i) (gp a (nx a.length i)) y) (h : rightB a b i = true) : touchB a b = false :=
  b_no fun k => line_both hA hB hw (rightB_iff.1 h) (both_of k)

/-! ### Directions -/
theorem vx_pl (d z f t : Int × Int) : vx d z * vx f t = vx d t * vx f z + vx d f * vx z t := by unfold vx; grind
theorem nx_ex {n i : Nat} (hi : i < n) : ∃ p, p < n ∧ nx n p = i := by
  by_cases h : i = 0
  · exact ⟨n - 1, by omega, by rw [nx_last (by omega)]; exact h.symm⟩
  · exact ⟨i - 1, by omega, by rw [nx_small (by omega)]; omega⟩
theorem neg_side {d f t z : Int × Int} (h0 : vx d f = 0) (ht : 0 ≤ vx d t) (hf : 0 < vx f t) (hz : vx d z < 0) : vx f z < 0 := by
  have e := vx_pl d z f t
  rw [h0, Int.zero_mul, Int.add_zero] at e
  have l : vx d z * vx f t < 0 := Int.mul_neg_of_neg_of_pos hz hf
  rw [e] at l
  refine Classical.byContradiction fun g => ?_
  have := Int.mul_nonneg ht (show 0 ≤ vx f z by omega)
  omega
theorem edge_dir {a : List (Int × Int)} (hC : Conv a) {d : Int × Int} {i j : Nat} (hi : i < a.length) (hj : j < a.length) (hne : j ≠ i) (hd : d ≠ (0, 0)) (hs : ∀ k, k < a.length → 0 ≤ vx d (sb (gp a k) (gp a i))) (h0 : vx d (sb (gp a j) (gp a i)) = 0) :
    ∃ e, e < a.length ∧ ∀ z, vx d (sb z (gp a i)) < 0 → dt (gp a e) (gp a (nx a.length e)) z < 0 := by
  have h3 := hC.1
  by_cases g1 : j = nx a.length i
  · refine ⟨i, hi, fun z hz => ?_⟩
    have hk := nx_lt' hj
    have t := conv_tri hC hi
    rw [← g1] at t ⊢
    rw [dt_vx] at t ⊢
    exact neg_side h0 (hs _ hk) t hz
  · by_cases g2 : i = nx a.length j
    · refine ⟨j, hj, fun z hz => ?_⟩
      have hk := nx_lt' hi
      have t := conv_tri hC hj
      rw [← g2] at t ⊢
      have e1 : ∀ z, dt (gp a j) (gp a i) z = vx (sb (gp a i) (gp a j)) (sb z (gp a i)) := fun z => by unfold dt det vx sb; grind
      rw [e1] at t ⊢
      have h0' : vx d (sb (gp a i) (gp a j)) = 0 := by
        have : vx d (sb (gp a i) (gp a j)) = -vx d (sb (gp a j) (gp a i)) := by unfold vx sb; grind
        omega
      exact neg_side h0' (hs _ hk) t hz
    · exfalso
      obtain ⟨p, hp, ep⟩ := nx_ex hi
      have hx := nx_lt' hi
      have t1 := hC.2 i j hi hj hne g1
      have t2 := hC.2 p j hp hj (fun e => g2 (by rw [e, ep])) (by rw [ep]; exact hne)
      rw [ep, ← dt_cyc] at t2
      rw [dt_vx] at t1 t2
      have s1 := hs _ hx
      have s2 := hs _ hp
      generalize sb (gp a (nx a.length i)) (gp a i) = x at *
      generalize sb (gp a p) (gp a i) = y at *
      generalize sb (gp a j) (gp a i) = w at *
      have e := vx_pl d x w y
      rw [h0, Int.zero_mul, Int.add_zero] at e
      have n1 : 0 ≤ vx d x * vx w y := Int.mul_nonneg s1 (by omega)
      have n2 : 0 ≤ vx d y * vx x w := Int.mul_nonneg s2 (by omega)
      have e2 : vx d y * vx w x = -(vx d y * vx x w) := by rw [vx_neg w x]; grind
      have z : vx d x * vx w y = 0 := by omega
      have zx : vx d x = 0 := (Int.mul_eq_zero.1 z).elim id (fun h => by omega)
      have k1 := vx_key x d w
      have zx' : vx x d = 0 := by rw [vx_neg]; omega
      rw [h0, zx', Int.mul_zero, Int.mul_zero, Int.add_zero] at k1
      have q1 : d.1 = 0 := (Int.mul_eq_zero.1 k1).elim id (fun h => by omega)
      have k2 : d.2 * vx x w = x.2 * vx d w + w.2 * vx x d := by unfold vx; grind
      rw [h0, zx', Int.mul_zero, Int.mul_zero, Int.add_zero] at k2
      have q2 : d.2 = 0 := (Int.mul_eq_zero.1 k2).elim id (fun h => by omega)
      exact hd (Prod.ext q1 q2)

/-! ### Hulls of any list -/
def leP2 (x y : Int × Int) : Bool := decide (x.1 < y.1 ∨ (x.1 = y.1 ∧ x.2 ≤ y.2))
theorem hull_ex (l : List (Int × Int)) : (∀ x ∈ l, ∀ y ∈ l, ∀ z ∈ l, dt x y z = 0) ∨ ∃ h, IsHull l h := by
  have hm : ∀ q, q ∈ l.mergeSort leP2 ↔ q ∈ l := fun q => (List.mergeSort_perm l leP2).mem_iff
  have hs : (l.mergeSort leP2).Pairwise lle := by
    have := List.pairwise_mergeSort (le := leP2) (by
      intro x y z h1 h2
      unfold leP2 at *
      rw [decide_eq_true_eq] at *
      omega) (by
      intro x y
      unfold leP2
      rw [Bool.or_eq_true, decide_eq_true_eq, decide_eq_true_eq]
      omega) l
    exact this.imp fun h => by unfold leP2 at h; rw [decide_eq_true_eq] at h; exact h
  rcases hull_sorted hs with ⟨_, k⟩ | ⟨_, k⟩
  · exact .inl fun x hx y hy z hz => k x ((hm x).2 hx) y ((hm y).2 hy) z ((hm z).2 hz)
  · exact .inr ⟨_, isHull_mem hm k⟩
theorem Conv.sc {N : Int} (hN : 0 < N) {a : List (Int × Int)} (h : Conv a) : Conv (scL N a) := by
  refine ⟨by rw [scL_len]; exact h.1, fun i j hi hj n1 n2 => ?_⟩
  rw [scL_len] at hi hj n2 ⊢
  rw [gp_sc, gp_sc, gp_sc]
  exact (det_sc hN _ _ _ _ _ _).2.2 (h.2 i j hi hj n1 n2)
/-- A mean of three points of a convex list belongs to it. -/
theorem mean_in {a : List (Int × Int)} (hC : Conv a) {u1 u2 u3 : Int × Int} (m1 : u1 ∈ a) (m2 : u2 ∈ a) (m3 : u3 ∈ a) {k1 k2 k3 N : Int} (p1 : 0 ≤ k1) (p2 : 0 ≤ k2) (p3 : 0 ≤ k3) (hN : 0 < N) (e : k1 + k2 + k3 = N) :
    0 ≤ locE (scL N a) (k1 * u1.1 + k2 * u2.1 + k3 * u3.1) (k1 * u1.2 + k2 * u2.2 + k3 * u3.2) := by
  refine (conv_loc _ (scL N a) rfl (hC.sc hN) (k1 * u1.1 + k2 * u2.1 + k3 * u3.1, k1 * u1.2 + k2 * u2.2 + k3 * u3.2)).2 fun i hi => ?_
  rw [scL_len] at hi ⊢
  rw [gp_sc, gp_sc]
  have hw := weakB_iff.1 (conv_weak hC) i hi
  generalize gp a i = g at *
  generalize gp a (nx a.length i) = f at *
  have q : dt (N * g.1, N * g.2) (N * f.1, N * f.2) (k1 * u1.1 + k2 * u2.1 + k3 * u3.1, k1 * u1.2 + k2 * u2.2 + k3 * u3.2) = N * (k1 * dt g f u1 + k2 * dt g f u2 + k3 * dt g f u3) := by
    subst e
    unfold dt det
    simp only
    grind
  rw [q]
  exact Int.mul_nonneg (Int.le_of_lt hN) (Int.add_nonneg (Int.add_nonneg (Int.mul_nonneg p1 (hw _ m1)) (Int.mul_nonneg p2 (hw _ m2))) (Int.mul_nonneg p3 (hw _ m3)))

/-! ### The differences -/
def diffL (a b : List (Int × Int)) : List (Int × Int) := a.flatMap fun u => b.map fun v => sb u v
theorem mem_diff {a b : List (Int × Int)} {z : Int × Int} : z ∈ diffL a b ↔ ∃ u, u ∈ a ∧ ∃ v, v ∈ b ∧ sb u v = z := by
  unfold diffL
  rw [List.mem_flatMap]
  simp only [List.mem_map]
theorem sat {a b : List (Int × Int)} (hA : Conv a) (hB : Conv b) (h1 : ∀ i, i < a.length → rightB a b i = false) (h2 : ∀ j, j < b.length → rightB b a j = false) : Both a b := by
  have a3 := hA.1
  have b3 := hB.1
  rcases hull_ex (diffL a b) with hf | ⟨h, hH⟩
  · exfalso
    have t := conv_tri hA (i := 0) (by omega)
    have n1 := nx_lt' (show 0 < a.length by omega)
    have n2 := nx_lt' n1
    have m : ∀ i, i < a.length → sb (gp a i) (gp b 0) ∈ diffL a b := fun i hi => mem_diff.2 ⟨_, gp_mem hi, _, gp_mem (by omega), rfl⟩
    have := hf _ (m 0 (by omega)) _ (m _ n1) _ (m _ n2)
    have e : dt (sb (gp a 0) (gp b 0)) (sb (gp a (nx a.length 0)) (gp b 0)) (sb (gp a (nx a.length (nx a.length 0))) (gp b 0)) = dt (gp a 0) (gp a (nx a.length 0)) (gp a (nx a.length (nx a.length 0))) := by unfold dt det sb; simp only; grind
    omega
  · obtain ⟨hC, hm, hl, _⟩ := hH
    have hG := conv_good hC
    by_cases hin : inAll h (0, 0)
    · obtain ⟨parts, hp⟩ := clips_ex h.length h rfl hG
      obtain ⟨t, ht, k0⟩ := (hp.loc hG 0 0).1 ((conv_loc _ h rfl hC (0, 0)).2 hin)
      obtain ⟨t3, tD, tm⟩ := hp.part hG ht
      match t, t3 with
      | [x, y, z], _ =>
        have hD : 0 < dt x y z := tD
        obtain ⟨q1, q2, q3⟩ := (tri_closed tD (p := 0) (q := 0)).1 ((loc_ge _ _ _).1 k0)
        have back : ∀ r, r ∈ ([x, y, z] : List (Int × Int)) → ∃ u, u ∈ a ∧ ∃ v, v ∈ b ∧ sb u v = r := fun r hr => by
          obtain ⟨i, hi, e⟩ := mem_gp (tm r hr)
          exact mem_diff.1 (e ▸ hm i hi)
        obtain ⟨u1, mu1, v1, mv1, e1⟩ := back x (by simp)
        obtain ⟨u2, mu2, v2, mv2, e2⟩ := back y (by simp)
        obtain ⟨u3, mu3, v3, mv3, e3⟩ := back z (by simp)
        have s := dt_sum x y z (0, 0)
        have o1 := mean_in hA mu1 mu2 mu3 q2 q3 q1 hD s
        have o2 := mean_in hB mv1 mv2 mv3 q2 q3 q1 hD s
        refine ⟨_, _, _, hD, o1, ?_⟩
        have c1 : dt y z (0, 0) * x.1 + dt z x (0, 0) * y.1 + dt x y (0, 0) * z.1 = 0 := by unfold dt det; simp only; grind
        have c2 : dt y z (0, 0) * x.2 + dt z x (0, 0) * y.2 + dt x y (0, 0) * z.2 = 0 := by unfold dt det; simp only; grind
        have f1 : x.1 = u1.1 - v1.1 ∧ x.2 = u1.2 - v1.2 := by rw [← e1]; exact ⟨rfl, rfl⟩
        have f2 : y.1 = u2.1 - v2.1 ∧ y.2 = u2.2 - v2.2 := by rw [← e2]; exact ⟨rfl, rfl⟩
        have f3 : z.1 = u3.1 - v3.1 ∧ z.2 = u3.2 - v3.2 := by rw [← e3]; exact ⟨rfl, rfl⟩
        have g1 : dt y z (0, 0) * u1.1 + dt z x (0, 0) * u2.1 + dt x y (0, 0) * u3.1 = dt y z (0, 0) * v1.1 + dt z x (0, 0) * v2.1 + dt x y (0, 0) * v3.1 := by
          rw [f1.1, f2.1, f3.1] at c1
          generalize dt y z (0, 0) = A at *
          generalize dt z x (0, 0) = B at *
          generalize dt x y (0, 0) = C at *
          grind
        have g2 : dt y z (0, 0) * u1.2 + dt z x (0, 0) * u2.2 + dt x y (0, 0) * u3.2 = dt y z (0, 0) * v1.2 + dt z x (0, 0) * v2.2 + dt x y (0, 0) * v3.2 := by
          rw [f1.2, f2.2, f3.2] at c2
          generalize dt y z (0, 0) = A at *
          generalize dt z x (0, 0) = B at *
          generalize dt x y (0, 0) = C at *
          grind
        show 0 ≤ locE (scL _ b) (dt y z (0, 0) * u1.1 + dt z x (0, 0) * u2.1 + dt x y (0, 0) * u3.1) (dt y z (0, 0) * u1.2 + dt z x (0, 0) * u2.2 + dt x y (0, 0) * u3.2)
        rw [g1, g2]
        exact o2
    · exfalso
      obtain ⟨k, hk, hz⟩ : ∃ k, k < h.length ∧ dt (gp h k) (gp h (nx h.length k)) (0, 0) < 0 := Classical.byContradiction fun hn => hin fun i hi => Int.not_lt.1 fun g => hn ⟨i, hi, g⟩
      have hk' := nx_lt' hk
      obtain ⟨u, mu, v, mv, e1⟩ := mem_diff.1 (hm k hk)
      obtain ⟨u', mu', v', mv', e2⟩ := mem_diff.1 (hm _ hk')
      have H := hl k hk
      have tri := conv_tri hC hk
      rw [← e1, ← e2] at H hz tri
      obtain ⟨d, hd⟩ : ∃ d, sb (sb u' v') (sb u v) = d := ⟨_, rfl⟩
      have d0 : d ≠ (0, 0) := fun e => by
        rw [dt_vx, hd, e] at tri
        unfold vx at tri
        simp at tri
      have A1 : ∀ x, x ∈ a → 0 ≤ vx d (sb x u) := fun x hx => by
        have := H _ (mem_diff.2 ⟨x, hx, v, mv, rfl⟩)
        rw [dt_vx, hd] at this
        have e : vx d (sb (sb x v) (sb u v)) = vx d (sb x u) := by unfold vx sb; simp only; grind
        omega
      have B1 : ∀ x, x ∈ b → 0 ≤ vx d (sb v x) := fun x hx => by
        have := H _ (mem_diff.2 ⟨u, mu, x, hx, rfl⟩)
        rw [dt_vx, hd] at this
        have e : vx d (sb (sb u x) (sb u v)) = vx d (sb v x) := by unfold vx sb; simp only; grind
        omega
      have Z : vx d (sb v u) < 0 := by
        rw [dt_vx, hd] at hz
        have e : vx d (sb (0, 0) (sb u v)) = vx d (sb v u) := by unfold vx sb; simp only; grind
        omega
      have E : vx d (sb u' u) + vx d (sb v v') = 0 := by
        have : vx d (sb u' u) + vx d (sb v v') = vx d (sb (sb u' v') (sb u v)) := by unfold vx sb; simp only; grind
        rw [this, hd]
        unfold vx
        grind
      have Eu : vx d (sb u' u) = 0 := by have := A1 _ mu'; have := B1 _ mv'; omega
      have Ev : vx d (sb v v') = 0 := by omega
      obtain ⟨i, hi, ei⟩ := mem_gp mu
      obtain ⟨j, hj, ej⟩ := mem_gp mu'
      obtain ⟨m, hmm, em⟩ := mem_gp mv
      obtain ⟨n, hn, en⟩ := mem_gp mv'
      by_cases g : j = i
      · have huu : u' = u := by rw [← ei, ← ej, g]
        have hnm : n ≠ m := fun e => d0 (by
          have : v' = v := by rw [← em, ← en, e]
          rw [← hd, huu, this]
          unfold sb
          simp)
        have vn : ∀ x, vx (ng d) x = -vx d x := fun x => by unfold vx ng; grind
        have vs : ∀ x y, vx d (sb x y) = -vx d (sb y x) := fun x y => by unfold vx sb; grind
        obtain ⟨e, he, hE⟩ := edge_dir hB (d := ng d) hmm hn hnm (fun q => d0 (by rw [← ng_ng d, q]; rfl)) (fun k hk => by rw [vn, em, vs]; have := B1 _ (gp_mem hk); omega) (by rw [vn, em, en, vs]; omega)
        have := h2 e he
        rw [rightB_iff.2 fun y hy => hE y ?_] at this
        · cases this
        · rw [vn, em]
          have q1 := A1 y hy
          have q2 : vx d (sb y v) = vx d (sb y u) - vx d (sb v u) := by unfold vx sb; grind
          omega
      · obtain ⟨e, he, hE⟩ := edge_dir hA (d := d) hi hj g d0 (fun k hk => by rw [ei]; exact A1 _ (gp_mem hk)) (by rw [ei, ej]; exact Eu)
        have := h1 e he
        rw [rightB_iff.2 fun y hy => hE y ?_] at this
        · cases this
        · rw [ei]
          have q1 := B1 y hy
          have q2 : vx d (sb y u) = vx d (sb v u) - vx d (sb v y) := by unfold vx sb; grind
          omega
theorem anyR_iff {a b : List (Int × Int)} : anyR a b = true ↔ ∃ i, i < a.length ∧ rightB a b i = true := by
  unfold anyR
  simp only [List.any_eq_true, List.mem_range]
/-- Exactly one of the two. -/
theorem apart_touch {a b : List (Int × Int)} (hA : Conv a) (hB : Conv b) : apartB a b = !touchB a b := by
  have gA := conv_good hA
  have gB := conv_good hB
  cases h : apartB a b
  · unfold apartB at h
    rw [Bool.or_eq_false_iff] at h
    have n1 : ∀ i, i < a.length → rightB a b i = false := fun i hi => b_no fun k => by have := anyR_iff.2 ⟨i, hi, k⟩; rw [h.1] at this; cases this
    have n2 : ∀ j, j < b.length → rightB b a j = false := fun i hi => b_no fun k => by have := anyR_iff.2 ⟨i, hi, k⟩; rw [h.2] at this; cases this
    rw [touch_of gA gB (sat hA hB n1 n2)]
    rfl
  · unfold apartB at h
    rw [Bool.or_eq_true, anyR_iff, anyR_iff] at h
    rcases h with ⟨i, hi, k⟩ | ⟨i, hi, k⟩
    · rw [right_sound gA gB hi (weakB_iff.1 (conv_weak hA) i hi) k]; rfl
    · rw [touch_comm, right_sound gB gA hi (weakB_iff.1 (conv_weak hB) i hi) k]; rfl

/-! ### A valid polygon without a corner on the right of an edge is strictly convex -/
theorem weak_conv {a : List (Int × Int)} (hs : Simp a) (hb : ∀ i, i < a.length → dt (gp a i) (gp a (nx a.length i)) (gp a (nx a.length (nx a.length i))) ≠ 0) (hw : weakB a = true) : Conv a := by
  have h3 := hs.1
  rw [weakB_iff] at hw
  refine ⟨h3, fun i j hi hj n1 n2 => ?_⟩
  have w0 := hw i hi _ (gp_mem hj)
  refine Classical.byContradiction fun hn => ?_
  have z0 : dt (gp a i) (gp a (nx a.length i)) (gp a j) = 0 := by omega
  have hv := nx_lt' hi
  have hy := nx_lt' hv
  obtain ⟨p, hp, ep⟩ := nx_ex hi
  have ty : 0 < dt (gp a i) (gp a (nx a.length i)) (gp a (nx a.length (nx a.length i))) := by
    have := hw i hi _ (gp_mem hy); have := hb i hi; omega
  have tz : 0 < dt (gp a p) (gp a i) (gp a (nx a.length i)) := by
    have e1 := hb p hp
    have e2 := hw p hp _ (gp_mem hv)
    rw [ep] at e1 e2
    omega
  have hjp : nx a.length j ≠ i := fun e => by
    have : j = p := nx_inj hj hp (by rw [e, ep])
    subst this
    rw [dt_cyc] at z0
    omega
  have off := hs.2.2 i j hi hj ⟨Ne.symm n1, Ne.symm n2, hjp⟩
  have wx1 := hw _ hv _ (gp_mem hj)
  have wx2 := hw p hp _ (gp_mem hj)
  rw [ep] at wx2
  have noton : onB (cx a i) (cy a i) (cx a (nx a.length i)) (cy a (nx a.length i)) (cx a j) (cy a j) = false := by
    refine b_no fun k => ?_
    have := seg_common k (on_first (a := cx a j) (b := cy a j) (c := cx a (nx a.length j)) (d := cy a (nx a.length j)))
    unfold segE at off
    rw [this] at off
    cases off
  have noton' : onB (gp a i).1 (gp a i).2 (gp a (nx a.length i)).1 (gp a (nx a.length i)).2 (gp a j).1 (gp a j).2 = false := noton
  generalize gp a i = u at *
  generalize gp a (nx a.length (nx a.length i)) = y at *
  generalize gp a (nx a.length i) = v at *
  generalize gp a j = x at *
  generalize gp a p = z at *
  have id1 : dt z u v * dt y u x = dt u v y * dt z u x - dt u v x * vx (sb y u) (sb z u) := by unfold dt det vx sb; grind
  rw [z0, Int.zero_mul, Int.sub_zero] at id1
  have be : 0 ≤ dt y u x := nng_of_mul (a := dt z u v) (by rw [id1]; exact Int.mul_nonneg (Int.le_of_lt ty) wx2) tz
  have s := dt_sum u v y x
  rw [z0, Int.add_zero] at s
  have c1 : dt u v y * x.1 = dt v y x * u.1 + dt y u x * v.1 + dt u v x * y.1 := by unfold dt det; grind
  have c2 : dt u v y * x.2 = dt v y x * u.2 + dt y u x * v.2 + dt u v x * y.2 := by unfold dt det; grind
  rw [z0, Int.zero_mul, Int.add_zero] at c1 c2
  generalize dt v y x = A at *
  generalize dt y u x = B at *
  generalize dt u v y = D at *
  have btw : ∀ p q r : Int, D * r = A * p + B * q → Btw p q r := fun p q r e => by
    subst s
    unfold Btw
    rcases Int.le_total p q with g | g
    · left
      constructor
      · have : 0 ≤ r - p := nng_of_mul (a := A + B) (by rw [show (A + B) * (r - p) = B * (q - p) by grind]; exact Int.mul_nonneg be (by omega)) ty
        omega
      · have : 0 ≤ q - r := nng_of_mul (a := A + B) (by rw [show (A + B) * (q - r) = A * (q - p) by grind]; exact Int.mul_nonneg wx1 (by omega)) ty
        omega
    · right
      constructor
      · have : 0 ≤ r - q := nng_of_mul (a := A + B) (by rw [show (A + B) * (r - q) = A * (p - q) by grind]; exact Int.mul_nonneg wx1 (by omega)) ty
        omega
      · have : 0 ≤ p - r := nng_of_mul (a := A + B) (by rw [show (A + B) * (p - r) = B * (p - q) by grind]; exact Int.mul_nonneg be (by omega)) ty
        omega
  rw [on_iff.2 ⟨btw _ _ _ c1, btw _ _ _ c2, by unfold dt det at z0; omega⟩] at noton'
  cases noton'
theorem valid_weak {a : List (Int × Int)} (h : validP a = true) (hw : weakB a = true) : Conv a :=
  weak_conv (simp_valid h) (fun i hi e => by
    have h' := h
    unfold validP at h'
    rw [Bool.and_eq_true, Bool.and_eq_true] at h'
    have := List.all_eq_true.1 h'.2.1 i (List.mem_range.2 hi)
    have k : (oriE a i == 0) = true := by
      unfold oriE
      rw [ori_zero]
      exact decide_eq_true e
    rw [beq_iff_eq] at k
    rw [k] at this
    simp at this) hw
end Go.Proofs.YtalhkcmlacppjaaDoor
