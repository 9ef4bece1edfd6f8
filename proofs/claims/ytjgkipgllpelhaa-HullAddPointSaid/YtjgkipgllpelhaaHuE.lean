/- Convex hulls, mathematics alone: a point more. -/
import Derived.Test.YtjgkipgllpelhaaHlO
import Derived.Test.YtjgkipgllpelhaaHuD
namespace Go.Proofs.Ytjgkipgllpelhaa
open Go.ChangeShapes Go.WideShapes Go.ChangeAt Go.RowKit
set_option linter.unusedVariables false
set_option linter.unusedSimpArgs false

/-- What all corners are left of, all points of a convex list are left of. -/
theorem conv_left {h : List (Int × Int)} (hC : Conv h) {q a b : Int × Int} (hq : inAll h q) (hl : ∀ y, y ∈ h → 0 ≤ dt a b y) : 0 ≤ dt a b q := by
  have hG := conv_good hC
  obtain ⟨parts, hp⟩ := clips_ex h.length h rfl hG
  obtain ⟨t, ht, h0⟩ := (hp.loc hG q.1 q.2).1 ((conv_loc h.length h rfl hC q).2 hq)
  obtain ⟨h3, hD, hm⟩ := hp.part hG ht
  match t, h3 with
  | [u, v, w], _ =>
    have hD' : 0 < det u.1 u.2 v.1 v.2 w.1 w.2 := hD
    obtain ⟨k1, k2, k3⟩ := (tri_closed hD' (p := q.1) (q := q.2)).1 ((loc_ge _ _ _).1 h0)
    refine nng_of_mul (a := dt u v w) ?_ hD'
    rw [dt_lin]
    exact Int.add_nonneg (Int.add_nonneg (Int.mul_nonneg k2 (hl u (hm u (by simp)))) (Int.mul_nonneg k3 (hl v (hm v (by simp))))) (Int.mul_nonneg k1 (hl w (hm w (by simp))))
theorem isHull_add {l h g : List (Int × Int)} {x : Int × Int} (hH : IsHull l h) (hG : IsHull (h ++ [x]) g) : IsHull (l ++ [x]) g := by
  refine ⟨hG.1, fun i hi => ?_, fun i hi q hq => ?_, hG.2.2.2⟩
  · rcases List.mem_append.1 (hG.2.1 i hi) with k | k
    · obtain ⟨j, hj, e⟩ := mem_gp k
      exact List.mem_append.2 (.inl (e ▸ hH.2.1 j hj))
    · exact List.mem_append.2 (.inr k)
  · rcases List.mem_append.1 hq with k | k
    · exact conv_left hH.1 (fun j hj => hH.2.2.1 j hj q k) fun y hy => hG.2.2.1 i hi y (List.mem_append.2 (.inl hy))
    · exact hG.2.2.1 i hi q (List.mem_append.2 (.inr k))
theorem add_in {l h : List (Int × Int)} {x : Int × Int} (hH : IsHull l h) (hx : inAll h x) : IsHull (l ++ [x]) h := by
  refine ⟨hH.1, fun i hi => List.mem_append.2 (.inl (hH.2.1 i hi)), fun i hi q hq => ?_, hH.2.2.2⟩
  rcases List.mem_append.1 hq with k | k
  · exact hH.2.2.1 i hi q k
  · rw [List.mem_singleton] at k
    subst k
    exact hx i hi
theorem add_out {l h g : List (Int × Int)} {x : Int × Int} (hH : IsHull l h) (hG : IsHull (l ++ [x]) g) (hx : ¬ inAll h x) : x ∈ g ∧ ∀ y, y ∈ g → y ≠ x → y ∈ h := by
  have hs : ∀ y, y ∈ g → y = x ∨ y ∈ l := fun y hy => by
    obtain ⟨j, hj, e⟩ := mem_gp hy
    rcases List.mem_append.1 (hG.2.1 j hj) with k | k
    · exact .inr (e ▸ k)
    · exact .inl (e ▸ List.mem_singleton.1 k)
  refine ⟨?_, fun y hy hne => ?_⟩
  · refine Classical.byContradiction fun hn => hx ?_
    have hGl : IsHull l g := ⟨hG.1, fun i hi => (hs _ (gp_mem hi)).elim (fun e => absurd (e ▸ gp_mem hi) hn) id, fun i hi q hq => hG.2.2.1 i hi q (List.mem_append.2 (.inl hq)), hG.2.2.2⟩
    obtain rfl := hull_unique hH hGl
    exact fun i hi => hG.2.2.1 i hi x (List.mem_append.2 (.inr (List.mem_singleton.2 rfl)))
  · have hg' : IsHull (h ++ [x]) (hullL (h ++ [x])) := by
      rcases hull_cases (h ++ [x]) with ⟨_, k⟩ | ⟨_, k⟩
      · have h3 := hH.1.1
        have t := conv_tri hH.1 (i := 0) (by omega)
        have m : ∀ i, i < h.length → gp h i ∈ h ++ [x] := fun i hi => List.mem_append.2 (.inl (gp_mem hi))
        have := k _ (m 0 (by omega)) _ (m (nx h.length 0) (nx_lt (by omega))) _ (m (nx h.length (nx h.length 0)) (nx_lt (by omega)))
        omega
      · exact k
    have e := hull_unique hG (isHull_add hH hg')
    rw [e] at hy
    obtain ⟨j, hj, e⟩ := mem_gp hy
    rcases List.mem_append.1 (hg'.2.1 j hj) with k | k
    · exact e ▸ k
    · exact absurd (e ▸ List.mem_singleton.1 k) hne
/-- A point that makes a hull of a line is a corner of it. -/
theorem add_flat {l g : List (Int × Int)} {x : Int × Int} (hl : ∀ a ∈ l, ∀ b ∈ l, ∀ c ∈ l, dt a b c = 0) (hG : IsHull (l ++ [x]) g) : x ∈ g := by
  refine Classical.byContradiction fun hn => ?_
  have h3 := hG.1.1
  have m : ∀ i, i < g.length → gp g i ∈ l := fun i hi => by
    rcases List.mem_append.1 (hG.2.1 i hi) with k | k
    · exact k
    · exact absurd (List.mem_singleton.1 k ▸ gp_mem hi) hn
  have t := conv_tri hG.1 (i := 0) (by omega)
  have := hl _ (m 0 (by omega)) _ (m (nx g.length 0) (nx_lt (by omega))) _ (m (nx g.length (nx g.length 0)) (nx_lt (by omega)))
  omega
end Go.Proofs.Ytjgkipgllpelhaa
