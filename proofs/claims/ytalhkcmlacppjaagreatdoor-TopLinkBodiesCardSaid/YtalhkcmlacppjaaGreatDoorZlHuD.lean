/- Helpers: what the law reaches. -/
import Derived.Test.YtalhkcmlacppjaaGreatDoorZlHuC
namespace Go.Proofs.YtalhkcmlacppjaaGreatDoor
open Go.ChangeShapes Go.WideShapes Go.ChangeAt Go.RowKit
set_option linter.unusedVariables false
set_option linter.unusedSimpArgs false

theorem dt_pl (o a b c d : Int × Int) : dt o a c * dt o b d = dt o a b * dt o c d + dt o a d * dt o b c := by unfold dt det; grind
theorem dt_lin (a b u v w x : Int × Int) : dt u v w * dt a b x = dt v w x * dt a b u + dt w u x * dt a b v + dt u v x * dt a b w := by unfold dt det; grind
theorem pos_of_mul {a b : Int} (h : 0 < a * b) (ha : 0 < a) : 0 < b := by
  rcases Int.lt_trichotomy b 0 with g | g | g
  · have := Int.mul_neg_of_pos_of_neg ha g; omega
  · rw [g] at h; simp at h
  · exact g
theorem nng_of_mul {a b : Int} (h : 0 ≤ a * b) (ha : 0 < a) : 0 ≤ b := by
  by_cases g : b < 0
  · have := Int.mul_neg_of_pos_of_neg ha g; omega
  · omega
theorem conv_gd {h : List (Int × Int)} (hC : Conv h) {i : Nat} (hi : i < h.length) : 0 < det (cx h i) (cy h i) (cx h (nx h.length i)) (cy h (nx h.length i)) (cx h (nx h.length (nx h.length i))) (cy h (nx h.length (nx h.length i))) := conv_tri hC hi
theorem conv_simp {h : List (Int × Int)} (hC : Conv h) : Simp h := by
  refine ⟨hC.1, fun i hi => .inl (by have := conv_gd hC hi; omega), fun i j hi hj hap => ?_⟩
  obtain ⟨a1, a2, a3⟩ := hap
  have hn := nx_lt' hj
  have p1 : 0 < det (cx h i) (cy h i) (cx h (nx h.length i)) (cy h (nx h.length i)) (cx h j) (cy h j) := hC.2 i j hi hj (by omega) (by omega)
  have p2 : 0 < det (cx h i) (cy h i) (cx h (nx h.length i)) (cy h (nx h.length i)) (cx h (nx h.length j)) (cy h (nx h.length j)) := hC.2 i _ hi hn (by omega) (fun e => a1 (by
    obtain ⟨e', _, _⟩ : ∃ m : Nat, m = 0 ∧ True := ⟨0, rfl, trivial⟩
    unfold nx at e
    rcases Nat.lt_or_ge (i + 1) h.length with g | g <;> rcases Nat.lt_or_ge (j + 1) h.length with g' | g'
    · rw [Nat.mod_eq_of_lt g, Nat.mod_eq_of_lt g'] at e; omega
    · rw [Nat.mod_eq_of_lt g, show j + 1 = h.length by omega, Nat.mod_self] at e; omega
    · rw [Nat.mod_eq_of_lt g', show i + 1 = h.length by omega, Nat.mod_self] at e; omega
    · omega))
  unfold segE
  refine seg_none fun N X Y hN o1 o2 => ?_
  have z := det_on o1
  have q := on_det_pos o2 ((det_sc hN _ _ _ _ _ _).2.2 p1) ((det_sc hN _ _ _ _ _ _).2.2 p2)
  omega
theorem conv_good {h : List (Int × Int)} (hC : Conv h) : Good h := by
  obtain ⟨f, hf, hm⟩ := top_corner h h.length (by have := hC.1; omega)
  obtain ⟨e, he, rfl⟩ := nx_pred hf
  exact top_good (conv_simp hC) he hm (conv_gd hC he)
/-- A corner further on lies left of the diagonal. -/
theorem conv_diag {h : List (Int × Int)} (hC : Conv h) : ∀ j, 3 + j < h.length → 0 < dt (gp h 0) (gp h 2) (gp h (3 + j))
  | 0, hj => by
    have := hC.2 2 0 (by omega) (by omega) (by omega) (by rw [nx_small (by omega)]; omega)
    rw [nx_small (by omega)] at this
    rw [← dt_cyc]; exact this
  | j + 1, hj => by
    have ih := conv_diag hC j (by omega)
    have e1 := hC.2 0 (3 + j) (by omega) (by omega) (by omega) (by rw [nx_small (by omega)]; omega)
    have e2 := hC.2 0 (3 + (j + 1)) (by omega) (by omega) (by omega) (by rw [nx_small (by omega)]; omega)
    have e3 := hC.2 0 2 (by omega) (by omega) (by omega) (by rw [nx_small (by omega)]; omega)
    have e4 := hC.2 (3 + j) 0 (by omega) (by omega) (by omega) (by rw [nx_small (by omega)]; omega)
    rw [nx_small (by omega)] at e1 e2 e3 e4
    rw [show 3 + j + 1 = 3 + (j + 1) by omega, dt_cyc] at e4
    have k := dt_pl (gp h 0) (gp h 1) (gp h 2) (gp h (3 + j)) (gp h (3 + (j + 1)))
    refine pos_of_mul (a := dt (gp h 0) (gp h 1) (gp h (3 + j))) ?_ e1
    rw [k]
    exact Int.add_pos (Int.mul_pos e3 e4) (Int.mul_pos e2 ih)
theorem ear_zero {h : List (Int × Int)} (hC : Conv h) (h4 : 4 ≤ h.length) : Ear h 0 := by
  refine ⟨conv_gd hC (by omega), fun x hx n0 n1 n2 hN => ?_⟩
  have x0 : nx h.length 0 = 1 := nx_small (by omega)
  have x1 : nx h.length 1 = 2 := nx_small (by omega)
  rw [x0] at n1 n2
  rw [x1] at n2
  obtain ⟨_, _, k⟩ := hN
  rw [x0, x1] at k
  obtain ⟨j, rfl⟩ : ∃ j, x = 3 + j := ⟨x - 3, by omega⟩
  have a : 0 < dt (gp h 0) (gp h 2) (gp h (3 + j)) := conv_diag hC j hx
  have b : 0 ≤ dt (gp h 2) (gp h 0) (gp h (3 + j)) := k
  rw [dt_swap] at b
  omega
theorem loc_ge (ps : List (Int × Int)) (p q : Int) : 0 ≤ locE ps p q ↔ locE ps p q ≠ -1 := by
  have := loc_three ps p q
  omega
/-- Is the point right of no edge? -/
def inAll (h : List (Int × Int)) (x : Int × Int) : Prop := ∀ i, i < h.length → 0 ≤ dt (gp h i) (gp h (nx h.length i)) x
theorem conv_loc : ∀ n (h : List (Int × Int)), h.length = n → Conv h → ∀ x : Int × Int, (0 ≤ locE h x.1 x.2 ↔ inAll h x)
  | 0, h, hn, hC, x => by have := hC.1; omega
  | n + 1, h, hn, hC, x => by
    have h3 := hC.1
    match h, h3 with
    | [a, b, c], _ =>
      have hD : 0 < det a.1 a.2 b.1 b.2 c.1 c.2 := conv_gd hC (i := 0) (by simp)
      have t := tri_closed hD (p := x.1) (q := x.2)
      rw [loc_ge]
      refine Iff.trans t ⟨fun k i hi => ?_, fun k => ?_⟩
      · match i, hi with
        | 0, _ => exact k.1
        | 1, _ => exact k.2.1
        | 2, _ => rw [nx_last (by rfl)]; exact k.2.2
      · exact ⟨k 0 (by simp), k 1 (by simp), by have := k 2 (by simp); rw [nx_last (by rfl)] at this; exact this⟩
    | a :: b :: c :: d :: r, _ =>
      have hl : (a :: b :: c :: d :: r).length = r.length + 4 := by simp
      have hG := conv_good hC
      obtain ⟨c1, _, c3⟩ := clip hG (by omega) (e := 0) (by omega) (ear_zero hC (by omega))
      obtain ⟨_, _, c3⟩ := c3 x.1 x.2
      rw [nx_small (by omega)] at c3
      have ce : (a :: b :: c :: d :: r).eraseIdx (0 + 1) = a :: c :: d :: r := rfl
      rw [ce] at c3
      have l' : (a :: c :: d :: r).length = r.length + 3 := by simp
      have at' : ∀ i, gp (a :: c :: d :: r) (i + 1) = gp (a :: b :: c :: d :: r) (i + 2) := fun i => rfl
      have at0 : gp (a :: c :: d :: r) 0 = gp (a :: b :: c :: d :: r) 0 := rfl
      have nxe : ∀ i, i < r.length + 2 → gp (a :: c :: d :: r) (nx (a :: c :: d :: r).length (i + 1)) = gp (a :: b :: c :: d :: r) (nx (a :: b :: c :: d :: r).length (i + 2)) := fun i hi => by
        by_cases g : i + 1 < r.length + 2
        · rw [nx_small (by omega), nx_small (by omega)]; rfl
        · rw [nx_last (by omega), nx_last (by omega)]; rfl
      have hC' : Conv (a :: c :: d :: r) := by
        refine ⟨by omega, fun i j hi hj n1 n2 => ?_⟩
        match i with
        | 0 =>
          rw [nx_small (by omega)] at n2 ⊢
          obtain ⟨k, rfl⟩ : ∃ k, j = k + 2 := ⟨j - 2, by omega⟩
          have := conv_diag hC k (by omega)
          rw [show 3 + k = k + 1 + 2 by omega] at this
          exact this
        | i + 1 =>
          rw [at', nxe i (by omega)]
          match j with
          | 0 =>
            refine hC.2 (i + 2) 0 (by omega) (by omega) (by omega) (fun e => n2 ?_)
            by_cases g : i + 1 < r.length + 2
            · rw [nx_small (by omega)] at e; omega
            · rw [nx_last (by omega)]
          | j + 1 =>
            rw [at']
            refine hC.2 (i + 2) (j + 2) (by omega) (by omega) (by omega) (fun e => n2 ?_)
            by_cases g : i + 1 < r.length + 2
            · rw [nx_small (by omega)] at e ⊢; omega
            · rw [nx_last (by omega)] at e; omega
      have ih := conv_loc n (a :: c :: d :: r) (by omega) hC' x
      have hD : 0 < dt a b c := conv_gd hC (i := 0) (by simp)
      have tl : locE (triE (a :: b :: c :: d :: r) 0) x.1 x.2 = locE (triL a.1 a.2 b.1 b.2 c.1 c.2) x.1 x.2 := by
        unfold triE
        rw [nx_small (by omega), nx_small (by omega)]
        rfl
      have tc := tri_closed hD (p := x.1) (q := x.2)
      rw [c3, tl, loc_ge (triL a.1 a.2 b.1 b.2 c.1 c.2), tc, ih]
      show ((0 ≤ dt a b x ∧ 0 ≤ dt b c x ∧ 0 ≤ dt c a x) ∨ inAll (a :: c :: d :: r) x) ↔ inAll (a :: b :: c :: d :: r) x
      constructor
      · rintro (⟨k1, k2, k3⟩ | k)
        · intro i hi
          match i, hi with
          | 0, _ => rw [nx_small (by omega)]; exact k1
          | 1, _ => rw [nx_small (by omega)]; exact k2
          | i + 2, hi =>
            have e := dt_lin (gp (a :: b :: c :: d :: r) (i + 2)) (gp (a :: b :: c :: d :: r) (nx (a :: b :: c :: d :: r).length (i + 2))) a b c x
            have w : ∀ j, j < (a :: b :: c :: d :: r).length → 0 ≤ dt (gp (a :: b :: c :: d :: r) (i + 2)) (gp (a :: b :: c :: d :: r) (nx (a :: b :: c :: d :: r).length (i + 2))) (gp (a :: b :: c :: d :: r) j) := fun j hj => by
              by_cases g1 : j = i + 2
              · subst g1; rw [dt_self]; omega
              · by_cases g2 : j = nx (a :: b :: c :: d :: r).length (i + 2)
                · rw [← g2, dt_self2]; omega
                · exact Int.le_of_lt (hC.2 _ _ hi hj g1 g2)
            refine nng_of_mul (a := dt a b c) ?_ hD
            rw [e]
            exact Int.add_nonneg (Int.add_nonneg (Int.mul_nonneg k2 (w 0 (by omega))) (Int.mul_nonneg k3 (w 1 (by omega)))) (Int.mul_nonneg k1 (w 2 (by omega)))
        · have k0 : 0 ≤ dt a c x := by have := k 0 (by omega); rw [nx_small (by omega)] at this; exact this
          have k1 : 0 ≤ dt c d x := by have := k 1 (by omega); rw [nx_small (by omega)] at this; exact this
          have kk : ∀ i, i < r.length + 2 → 0 ≤ dt (gp (a :: b :: c :: d :: r) (i + 2)) (gp (a :: b :: c :: d :: r) (nx (a :: b :: c :: d :: r).length (i + 2))) x := fun i hi => by
            rw [← at', ← nxe i hi]; exact k (i + 1) (by omega)
          intro i hi
          match i, hi with
          | 0, _ =>
            rw [nx_small (by omega)]
            show 0 ≤ dt a b x
            have kl := kk (r.length + 1) (by omega)
            rw [nx_last (by omega)] at kl
            have kl' : 0 ≤ dt (gp (a :: b :: c :: d :: r) (r.length + 1 + 2)) a x := kl
            generalize hz : gp (a :: b :: c :: d :: r) (r.length + 1 + 2) = z at kl'
            have e1 : 0 < dt a c z := by
              have := conv_diag hC r.length (by omega)
              rw [show 3 + r.length = r.length + 1 + 2 by omega, hz] at this; exact this
            have e2 : 0 < dt a b z := by
              have := hC.2 0 (r.length + 1 + 2) (by omega) (by omega) (by omega) (by rw [nx_small (by omega)]; omega)
              rw [nx_small (by omega), hz] at this; exact this
            have e3 := dt_pl a b c x z
            have e4 : dt a x z = dt z a x := by unfold dt det; grind
            refine nng_of_mul (a := dt a c z) ?_ e1
            rw [Int.mul_comm, e3, e4]
            exact Int.add_nonneg (Int.mul_nonneg (Int.le_of_lt hD) kl') (Int.mul_nonneg (Int.le_of_lt e2) k0)
          | 1, _ =>
            rw [nx_small (by omega)]
            show 0 ≤ dt b c x
            have f1 : 0 < dt c d a := by
              have := hC.2 2 0 (by omega) (by omega) (by omega) (by rw [nx_small (by omega)]; omega)
              rw [nx_small (by omega)] at this; exact this
            have f2 : 0 < dt b c d := by
              have := hC.2 1 3 (by omega) (by omega) (by omega) (by rw [nx_small (by omega)]; omega)
              rw [nx_small (by omega)] at this; exact this
            have e3 : dt c d a * dt b c x = dt c d x * dt a b c + dt b c d * dt a c x := by unfold dt det; grind
            refine nng_of_mul (a := dt c d a) ?_ f1
            rw [e3]
            exact Int.add_nonneg (Int.mul_nonneg k1 (Int.le_of_lt hD)) (Int.mul_nonneg (Int.le_of_lt f2) k0)
          | i + 2, hi => exact kk i (by omega)
      · intro k
        by_cases g : dt a c x < 0
        · left
          refine ⟨?_, ?_, ?_⟩
          · have := k 0 (by omega); rw [nx_small (by omega)] at this; exact this
          · have := k 1 (by omega); rw [nx_small (by omega)] at this; exact this
          · rw [dt_swap]; omega
        · right
          intro i hi
          match i with
          | 0 => rw [nx_small (by omega)]; exact Int.not_lt.1 g
          | i + 1 => rw [at', nxe i (by omega)]; exact k (i + 2) (by omega)
end Go.Proofs.YtalhkcmlacppjaaGreatDoor

