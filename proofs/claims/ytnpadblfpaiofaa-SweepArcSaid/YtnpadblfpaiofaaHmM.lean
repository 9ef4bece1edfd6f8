/- Gift wrapping, mathematics: one turn of next finds the next corner. -/
import Derived.Test.YtnpadblfpaiofaaHmB
import Derived.Test.YtnpadblfpaiofaaHlO
namespace Go.Proofs.Ytnpadblfpaiofaa
open Go.ChangeShapes Go.WideShapes Go.ChangeAt Go.RowKit
set_option linter.unusedVariables false
set_option linter.unusedSimpArgs false

theorem nextF_eq {l : List (Int × Int)} {a C : Int × Int} (hC : C ∈ l) (hne : C ≠ a) (h1 : ∀ p ∈ l, p ≠ a → p ≠ C → 0 < dt a C p ∨ (dt a C p = 0 ∧ farI a.1 a.2 p.1 p.2 < farI a.1 a.2 C.1 C.2)) : nextF l a.1 a.2 = C := by
  have ex : ∀ (o : Int × Int) (x y : Int), (o.1 = x ∧ o.2 = y) ↔ o = (x, y) := fun o x y => ⟨fun h => Prod.ext h.1 h.2, fun h => by rw [h]; exact ⟨rfl, rfl⟩⟩
  have key : ∀ (m : List (Int × Int)), (∀ q ∈ m, q ∈ l) → ∀ o : Int × Int, (o = a ∨ o ∈ l) → (o = C ∨ C ∈ m) → m.foldl (fun o r => nstep a.1 a.2 o.1 o.2 r.1 r.2) o = C := by
    intro m
    induction m with
    | nil => intro _ o _ h; rcases h with h | h; exact h; exact absurd h (by simp)
    | cons r m ih =>
      intro hm o ho h
      rw [List.foldl_cons]
      have hr := hm r (by simp)
      have e0 : nstep a.1 a.2 o.1 o.2 r.1 r.2 = if r = a then o else if o = a then r else if dt a o r < 0 ∨ (dt a o r = 0 ∧ farI a.1 a.2 o.1 o.2 < farI a.1 a.2 r.1 r.2) then r else o := by
        unfold nstep
        simp only [ex]
        rfl
      rw [e0]
      refine ih (fun q hq => hm q (by simp [hq])) _ ?_ ?_
      · split
        · exact ho
        · split
          · exact .inr hr
          · split
            · exact .inr hr
            · exact ho
      · by_cases hoC : o = C
        · subst hoC
          left
          split
          · rfl
          · try rw [if_neg hne]
            split
            · rename_i g1 g2
              by_cases hrC : r = o
              · exact hrC
              · have := h1 r hr g1 hrC
                omega
            · rfl
        · by_cases hrC : r = C
          · subst hrC
            left
            rw [if_neg hne]
            split
            · rfl
            · rename_i g1
              split
              · rfl
              · rename_i g2
                have hol : o ∈ l := by rcases ho with h | h; exact absurd h g1; exact h
                have := h1 o hol g1 hoC
                have sw : dt a o r = -dt a r o := by unfold dt det; grind
                omega
          · right
            rcases h with h | h
            · exact absurd h hoC
            · rcases List.mem_cons.1 h with h | h
              · exact absurd h.symm hrC
              · exact h
  exact key l (fun _ h => h) a (.inl rfl) (.inr hC)

theorem far_lt {a b c : Int × Int} (h0 : dt a b c = 0) (h1 : 0 < (b.1 - a.1) * (c.1 - a.1) + (b.2 - a.2) * (c.2 - a.2)) (h2 : (b.1 - a.1) * (c.1 - a.1) + (b.2 - a.2) * (c.2 - a.2) ≤ (b.1 - a.1) * (b.1 - a.1) + (b.2 - a.2) * (b.2 - a.2)) (hne : c ≠ b) : farI a.1 a.2 c.1 c.2 < farI a.1 a.2 b.1 b.2 := by
  have eT : farI a.1 a.2 c.1 c.2 = (c.1 - a.1) * (c.1 - a.1) + (c.2 - a.2) * (c.2 - a.2) := by unfold farI; grind
  have eS : farI a.1 a.2 b.1 b.2 = (b.1 - a.1) * (b.1 - a.1) + (b.2 - a.2) * (b.2 - a.2) := by unfold farI; grind
  rw [eT, eS]
  have hv : (b.1 - a.1) * (c.2 - a.2) - (b.2 - a.2) * (c.1 - a.1) = 0 := h0
  have hd : (b.1 - a.1 - (c.1 - a.1)) * (b.1 - a.1 - (c.1 - a.1)) + (b.2 - a.2 - (c.2 - a.2)) * (b.2 - a.2 - (c.2 - a.2)) ≠ 0 := fun h => by
    have z : ∀ x y : Int, x * x + y * y = 0 → x = 0 ∧ y = 0 := fun x y h => by
      have hx : 0 ≤ x * x := by rcases Int.le_total 0 x with g | g; exact Int.mul_nonneg g g; exact Int.mul_nonneg_of_nonpos_of_nonpos g g
      have hy : 0 ≤ y * y := by rcases Int.le_total 0 y with g | g; exact Int.mul_nonneg g g; exact Int.mul_nonneg_of_nonpos_of_nonpos g g
      have h1 : x * x = 0 := by omega
      have h2 : y * y = 0 := by omega
      rcases Int.mul_eq_zero.1 h1 with h1 | h1 <;> rcases Int.mul_eq_zero.1 h2 with h2 | h2 <;> exact ⟨h1, h2⟩
    have := z _ _ h
    exact hne (Prod.ext (by omega) (by omega))
  generalize b.1 - a.1 = u1 at *
  generalize b.2 - a.2 = u2 at *
  generalize c.1 - a.1 = v1 at *
  generalize c.2 - a.2 = v2 at *
  have lag : (u1 * v1 + u2 * v2) * (u1 * v1 + u2 * v2) = (u1 * u1 + u2 * u2) * (v1 * v1 + v2 * v2) := by
    have : (u1 * v1 + u2 * v2) * (u1 * v1 + u2 * v2) + (u1 * v2 - u2 * v1) * (u1 * v2 - u2 * v1) = (u1 * u1 + u2 * u2) * (v1 * v1 + v2 * v2) := by grind
    rw [hv] at this
    omega
  have e2 : (u1 - v1) * (u1 - v1) + (u2 - v2) * (u2 - v2) = (u1 * u1 + u2 * u2) - 2 * (u1 * v1 + u2 * v2) + (v1 * v1 + v2 * v2) := by grind
  rw [e2] at hd
  generalize u1 * v1 + u2 * v2 = d at *
  generalize u1 * u1 + u2 * u2 = S at *
  generalize v1 * v1 + v2 * v2 = T at *
  have hT : T ≤ d := Int.not_lt.1 fun h => by
    have : d * d < S * T := by
      have a1 : d * d ≤ S * d := Int.mul_le_mul_of_nonneg_right h2 (by omega)
      have a2 : S * d < S * T := Int.mul_lt_mul_of_pos_left h (by omega)
      omega
    omega
  omega

theorem turn_flat {f u v : Int × Int} (h : 0 < vx f u) (h1 : vx u v = 0) (h2 : vx f v = 0) : v = (0, 0) := by
  have k1 : v.1 * vx f u = 0 := by
    have : v.1 * vx f u = u.1 * vx f v - f.1 * vx u v := by unfold vx; grind
    rw [this, h1, h2]; simp
  have k2 : v.2 * vx f u = 0 := by
    have : v.2 * vx f u = u.2 * vx f v - f.2 * vx u v := by unfold vx; grind
    rw [this, h1, h2]; simp
  rcases Int.mul_eq_zero.1 k1 with a | a
  · rcases Int.mul_eq_zero.1 k2 with b | b
    · exact Prod.ext a b
    · omega
  · omega

theorem hull_next {l h : List (Int × Int)} (hH : IsHull l h) {i : Nat} (hi : i < h.length) : nextF l (gp h i).1 (gp h i).2 = gp h (nx h.length i) := by
  have hC := hH.1
  have h3 := hC.1
  have hj := nx_lt' hi
  have hne : gp h (nx h.length i) ≠ gp h i := fun e => by
    have := conv_inj hC hj hi e
    unfold nx at this
    by_cases g : i + 1 < h.length
    · rw [Nat.mod_eq_of_lt g] at this; omega
    · rw [show i + 1 = h.length by omega, Nat.mod_self] at this; omega
  refine nextF_eq (hH.2.1 _ hj) hne fun p hp hpa hpC => ?_
  have k := hH.2.2.1 i hi p hp
  rcases Int.lt_or_eq_of_le k with g | g
  · exact .inl g
  · refine .inr ⟨g.symm, ?_⟩
    obtain ⟨z, hz, ez⟩ : ∃ z, z < h.length ∧ nx h.length z = i := by
      by_cases g : i = 0
      · exact ⟨h.length - 1, by omega, by rw [nx_last (by omega)]; omega⟩
      · exact ⟨i - 1, by omega, by rw [nx_small (by omega)]; omega⟩
    have t1 := conv_tri hC hi
    have t2 := conv_tri hC hz
    rw [ez] at t2
    have w1 := hH.2.2.1 _ hj p hp
    have w2 := hH.2.2.1 z hz p hp
    rw [ez] at w2
    have r1 := ray_le (a := gp h i) (b := gp h (nx h.length i)) (c := p) g.symm t1 w1
    have q1 : 0 < vx (sb (gp h i) (gp h z)) (sb (gp h (nx h.length i)) (gp h i)) := by
      have : vx (sb (gp h i) (gp h z)) (sb (gp h (nx h.length i)) (gp h i)) = dt (gp h z) (gp h i) (gp h (nx h.length i)) := by unfold vx sb dt det; grind
      rw [this]; exact t2
    have q2 : 0 < vx (sb (gp h i) (gp h z)) (sb p (gp h i)) := by
      have e : vx (sb (gp h i) (gp h z)) (sb p (gp h i)) = dt (gp h z) (gp h i) p := by unfold vx sb dt det; grind
      rcases Int.lt_or_eq_of_le w2 with g2 | g2
      · rw [e]; exact g2
      · exfalso
        have := turn_flat q1 (show vx (sb (gp h (nx h.length i)) (gp h i)) (sb p (gp h i)) = 0 by rw [← dt_vx]; exact g.symm) (by rw [e]; exact g2.symm)
        refine hpa (Prod.ext ?_ ?_)
        · have := congrArg Prod.fst this; unfold sb at this; simp only at this; omega
        · have := congrArg Prod.snd this; unfold sb at this; simp only at this; omega
    exact far_lt g.symm (dot_pos g.symm q1 q2) r1 hpC

/-- All on a line: from the smallest to the greatest point, and back. -/
theorem flat_next {l : List (Int × Int)} (hf : ∀ a ∈ l, ∀ b ∈ l, ∀ c ∈ l, dt a b c = 0) {m M : Int × Int} (hm : m ∈ l) (hM : M ∈ l) (h1 : ∀ q ∈ l, lle m q) (h2 : ∀ q ∈ l, lle q M) (hne : m ≠ M) : nextF l m.1 m.2 = M ∧ nextF l M.1 M.2 = m := by
  have hlt : llt m M := lle_llt (h1 M hM) hne
  have A : ∀ p ∈ l, p ≠ m → 0 < (M.1 - m.1) * (p.1 - m.1) + (M.2 - m.2) * (p.2 - m.2) := fun p hp h => dot_lex (hf m hm M hM p hp) hlt (lle_llt (h1 p hp) fun e => h e.symm)
  have B : ∀ p ∈ l, p ≠ M → 0 < (m.1 - M.1) * (p.1 - M.1) + (m.2 - M.2) * (p.2 - M.2) := fun p hp h => by
    have := dot_lex (a := ng M) (b := ng m) (c := ng p) (by rw [dt_ng]; exact hf M hM m hm p hp) (llt_ng.2 hlt) (llt_ng.2 (lle_llt (h2 p hp) h))
    unfold ng at this
    simp only at this
    have e : (-m.1 - -M.1) * (-p.1 - -M.1) + (-m.2 - -M.2) * (-p.2 - -M.2) = (m.1 - M.1) * (p.1 - M.1) + (m.2 - M.2) * (p.2 - M.2) := by grind
    omega
  refine ⟨nextF_eq hM (fun e => hne e.symm) fun p hp hpa hpC => .inr ⟨hf m hm M hM p hp, ?_⟩, nextF_eq hm hne fun p hp hpa hpC => .inr ⟨hf M hM m hm p hp, ?_⟩⟩
  · refine far_lt (hf m hm M hM p hp) (A p hp hpa) ?_ hpC
    have e : (M.1 - m.1) * (M.1 - m.1) + (M.2 - m.2) * (M.2 - m.2) - ((M.1 - m.1) * (p.1 - m.1) + (M.2 - m.2) * (p.2 - m.2)) = (m.1 - M.1) * (p.1 - M.1) + (m.2 - M.2) * (p.2 - M.2) := by grind
    have := B p hp hpC
    omega
  · refine far_lt (hf M hM m hm p hp) (B p hp hpa) ?_ hpC
    have e : (m.1 - M.1) * (m.1 - M.1) + (m.2 - M.2) * (m.2 - M.2) - ((m.1 - M.1) * (p.1 - M.1) + (m.2 - M.2) * (p.2 - M.2)) = (M.1 - m.1) * (p.1 - m.1) + (M.2 - m.2) * (p.2 - m.2) := by grind
    have := A p hp hpC
    omega
theorem same_next {l : List (Int × Int)} {m : Int × Int} (h : ∀ q ∈ l, q = m) : nextF l m.1 m.2 = m := by
  have key : ∀ (k : List (Int × Int)), (∀ q ∈ k, q = m) → k.foldl (fun o r => nstep m.1 m.2 o.1 o.2 r.1 r.2) m = m := by
    intro k
    induction k with
    | nil => intro _; rfl
    | cons r k ih =>
      intro hk
      rw [List.foldl_cons, hk r (by simp)]
      rw [show nstep m.1 m.2 m.1 m.2 m.1 m.2 = m by unfold nstep; rw [if_pos ⟨rfl, rfl⟩]]
      exact ih fun q hq => hk q (by simp [hq])
  exact key l h
end Go.Proofs.Ytnpadblfpaiofaa
