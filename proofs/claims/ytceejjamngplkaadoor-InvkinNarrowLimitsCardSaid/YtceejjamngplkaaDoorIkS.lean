/- Mathematics of layer 8: how many solutions there are; a quarter turn; nearest elements. -/
import Derived.Test.YtceejjamngplkaaDoorIkA
import Derived.Test.YtceejjamngplkaaDoorIkG
namespace Go.Proofs.YtceejjamngplkaaDoor
set_option linter.unusedVariables false
set_option linter.unusedSimpArgs false
set_option maxRecDepth 100000
/-- Rotations from -17 to 18 are different ones. -/
theorem rE_inj {p q : Int} (hp : -17 ≤ p ∧ p ≤ 18) (hq : -17 ≤ q ∧ q ≤ 18) (h : rE p = rE q) : p = q := by
  have key : ∀ i j : Nat, i < 36 → j < 36 → csF i = csF j → i = j := by
    have : ∀ i, i < 36 → ∀ j, j < 36 → csF i = csF j → i = j := by decide +kernel
    exact fun i j hi hj => this i hi j hj
  unfold rE at h
  have := key _ _ (by omega) (by omega) h
  omega
theorem gm_cancel {a b c : Int × Int} (ha : gn a ≠ 0) (h : gm a b = gm a c) : b = c := by
  have h1 := congrArg Prod.fst h
  have h2 := congrArg Prod.snd h
  unfold gm at h1 h2
  unfold gn at ha
  simp only at h1 h2
  have e1 : (a.1 * a.1 + a.2 * a.2) * (b.1 - c.1) = 0 := by grind
  have e2 : (a.1 * a.1 + a.2 * a.2) * (b.2 - c.2) = 0 := by grind
  rcases Int.mul_eq_zero.1 e1 with h | h
  · exact (ha h).elim
  rcases Int.mul_eq_zero.1 e2 with h' | h'
  · exact (ha h').elim
  exact Prod.ext (by omega) (by omega)
theorem gn_rE2 (a b : Int) : gn (gm (rE a) (rE b)) ≠ 0 := by rw [gn_mul, rE_len, rE_len]; decide
/-- A target and a first joint leave one configuration at most. -/
theorem reach_one {X Y n0 n1 n2 px py dx dy : Int} {p q : J3} {l0 l1 l2 h0 h1 h2 : Int} (hn1 : 1 ≤ n1) (b0 : -17 ≤ l0 ∧ h0 ≤ 18) (b1 : -17 ≤ l1 ∧ h1 ≤ 18) (b2 : -17 ≤ l2 ∧ h2 ≤ 18)
    (ip : In3 l0 l1 l2 h0 h1 h2 p) (iq : In3 l0 l1 l2 h0 h1 h2 q) (hp : Reach3 X Y n0 n1 n2 px py dx dy p) (hq : Reach3 X Y n0 n1 n2 px py dx dy q) (h : p.1 = q.1) : p = q := by
  obtain ⟨a, b, c⟩ := p
  obtain ⟨a', b', c'⟩ := q
  simp only at h
  subst h
  unfold In3 at ip iq
  unfold Reach3 pw at hp hq
  simp only at ip iq hp hq
  obtain ⟨hp1, hp2⟩ := hp
  obtain ⟨hq1, hq2⟩ := hq
  have h1 := hp1.trans hq1.symm
  simp only [Prod.mk.injEq] at h1
  have e1 : n1 * (1040 * (gm (rE a) (rE b)).1) = n1 * (1040 * (gm (rE a) (rE b')).1) := by omega
  have e2 : n1 * (1040 * (gm (rE a) (rE b)).2) = n1 * (1040 * (gm (rE a) (rE b')).2) := by omega
  have e3 := Int.eq_of_mul_eq_mul_left (by omega) e1
  have e4 := Int.eq_of_mul_eq_mul_left (by omega) e2
  have eg : gm (rE a) (rE b) = gm (rE a) (rE b') := Prod.ext (by omega) (by omega)
  have eb : b = b' := rE_inj (by omega) (by omega) (gm_cancel (by rw [rE_len]; decide) eg)
  subst eb
  have ed := hp2.trans hq2.symm
  unfold pd at ed
  have ec : c = c' := rE_inj (by omega) (by omega) (gm_cancel (gn_rE2 a b) ed)
  subst ec
  rfl
/-- First joints grow strictly along the solutions. -/
theorem solL_first {X Y n0 n1 n2 l0 l1 l2 h0 h1 h2 px py dx dy : Int} (hn1 : 1 ≤ n1) (b0 : -17 ≤ l0 ∧ h0 ≤ 18) (b1 : -17 ≤ l1 ∧ h1 ≤ 18) (b2 : -17 ≤ l2 ∧ h2 ≤ 18) :
    (solL X Y n0 n1 n2 l0 l1 l2 h0 h1 h2 px py dx dy).Pairwise (fun p q => p.1 < q.1) := by
  have hs := solL_sorted X Y n0 n1 n2 l0 l1 l2 h0 h1 h2 px py dx dy
  refine List.Pairwise.imp_of_mem (fun {p q} hp hq hlt => ?_) hs
  rw [mem_solL] at hp hq
  have hne : p.1 ≠ q.1 := fun e => by
    have := reach_one hn1 b0 b1 b2 hp.1 hq.1 hp.2 hq.2 e
    subst this
    exact lt3_irr _ hlt
  unfold lt3 at hlt
  omega
theorem pair_len {l : List J3} {a b : Int} (h : l.Pairwise (fun p q => p.1 < q.1)) (hb : ∀ q ∈ l, a ≤ q.1 ∧ q.1 ≤ b) : (l.length : Int) ≤ max 0 (b - a + 1) := by
  induction l generalizing a with
  | nil => simp; omega
  | cons x l ih =>
    rw [List.pairwise_cons] at h
    have h1 := hb x (by simp)
    have := ih (a := x.1 + 1) h.2 (fun q hq => ⟨by have := h.1 q hq; omega, (hb q (by simp [hq])).2⟩)
    simp only [List.length_cons]
    push_cast
    omega
/-- At most 36. -/
theorem solL_36 {X Y n0 n1 n2 l0 l1 l2 h0 h1 h2 px py dx dy : Int} (hn1 : 1 ≤ n1) (b0 : -17 ≤ l0 ∧ h0 ≤ 18) (b1 : -17 ≤ l1 ∧ h1 ≤ 18) (b2 : -17 ≤ l2 ∧ h2 ≤ 18) :
    (solL X Y n0 n1 n2 l0 l1 l2 h0 h1 h2 px py dx dy).length ≤ 36 := by
  have := pair_len (a := -17) (b := 18) (solL_first (X := X) (Y := Y) (n0 := n0) (n2 := n2) (px := px) (py := py) (dx := dx) (dy := dy) hn1 b0 b1 b2) (fun q hq => by
    rw [mem_solL] at hq
    unfold In3 at hq
    omega)
  omega
theorem same_vec {wx wy D t : Int} {u v : Int × Int} (hW : 0 < wx * wx + wy * wy) (h1 : wx * u.1 + wy * u.2 = D) (h2 : wx * v.1 + wy * v.2 = D) (h3 : wx * u.2 - wy * u.1 = t) (h4 : wx * v.2 - wy * v.1 = t) : u = v := by
  have e1 : (wx * wx + wy * wy) * (u.1 - v.1) = wx * (wx * u.1 + wy * u.2) - wy * (wx * u.2 - wy * u.1) - (wx * (wx * v.1 + wy * v.2) - wy * (wx * v.2 - wy * v.1)) := by clear h1 h2 h3 h4 hW; grind
  have e2 : (wx * wx + wy * wy) * (u.2 - v.2) = wy * (wx * u.1 + wy * u.2) + wx * (wx * u.2 - wy * u.1) - (wy * (wx * v.1 + wy * v.2) + wx * (wx * v.2 - wy * v.1)) := by clear h1 h2 h3 h4 hW e1; grind
  rw [h1, h2, h3, h4, Int.sub_self] at e1
  rw [h1, h2, h3, h4, Int.sub_self] at e2
  refine Prod.ext ?_ ?_
  · rcases Int.mul_eq_zero.1 e1 with h | h <;> omega
  · rcases Int.mul_eq_zero.1 e2 with h | h <;> omega
theorem sq_two {s t : Int} (h : s * s = t * t) : s = t ∨ s = -t := by
  have : (s - t) * (s + t) = 0 := by grind
  rcases Int.mul_eq_zero.1 this with h | h
  · exact .inl (by omega)
  · exact .inr (by omega)
/-- Two vectors of one length whose product with w (not nought) is the same number: there are two of them at most. -/
theorem three_same {wx wy R D : Int} {a b c : Int × Int} (hw : ¬ (wx = 0 ∧ wy = 0)) (ha : gn a = R) (hb : gn b = R) (hc : gn c = R)
    (ea : wx * a.1 + wy * a.2 = D) (eb : wx * b.1 + wy * b.2 = D) (ec : wx * c.1 + wy * c.2 = D) : a = b ∨ b = c ∨ a = c := by
  unfold gn at ha hb hc
  have hW : 0 < wx * wx + wy * wy := by
    have h1 := sq_nnR wx
    have h2 := sq_nnR wy
    rcases Int.lt_or_eq_of_le h1 with h | h
    · omega
    · rcases Int.lt_or_eq_of_le h2 with h' | h'
      · omega
      · exact (hw ⟨by rcases Int.mul_eq_zero.1 h.symm with h | h <;> exact h, by rcases Int.mul_eq_zero.1 h'.symm with h | h <;> exact h⟩).elim
  -- across w: t(a) = wx a2 - wy a1; t(a)^2 = W R - D^2
  obtain ⟨ta, hta⟩ : ∃ t, wx * a.2 - wy * a.1 = t := ⟨_, rfl⟩
  obtain ⟨tb, htb⟩ : ∃ t, wx * b.2 - wy * b.1 = t := ⟨_, rfl⟩
  obtain ⟨tc, htc⟩ : ∃ t, wx * c.2 - wy * c.1 = t := ⟨_, rfl⟩
  have qa : ta * ta = (wx * wx + wy * wy) * R - D * D := by rw [← hta, ← ha, ← ea]; grind
  have qb : tb * tb = (wx * wx + wy * wy) * R - D * D := by rw [← htb, ← hb, ← eb]; grind
  have qc : tc * tc = (wx * wx + wy * wy) * R - D * D := by rw [← htc, ← hc, ← ec]; grind
  have same : ∀ {u v : Int × Int} {t : Int}, wx * u.1 + wy * u.2 = D → wx * v.1 + wy * v.2 = D → wx * u.2 - wy * u.1 = t → wx * v.2 - wy * v.1 = t → u = v := fun h1 h2 h3 h4 => same_vec hW h1 h2 h3 h4
  have sq2 : ∀ {s t : Int}, s * s = t * t → s = t ∨ s = -t := fun h => sq_two h
  rcases sq2 (qa.trans qb.symm) with h | h
  · subst h; exact .inl (same ea eb hta htb)
  rcases sq2 (qb.trans qc.symm) with h' | h'
  · subst h'; exact .inr (.inl (same eb ec htb htc))
  · exact .inr (.inr (same ea ec hta (by rw [htc]; omega)))
/-- At most two, unless the third link begins at the base. -/
theorem solL_two {X Y n0 n1 n2 l0 l1 l2 h0 h1 h2 px py dx dy : Int} (hn0 : 1 ≤ n0) (hn1 : 1 ≤ n1) (b0 : -17 ≤ l0 ∧ h0 ≤ 18) (b1 : -17 ≤ l1 ∧ h1 ≤ 18) (b2 : -17 ≤ l2 ∧ h2 ≤ 18)
    (hw : ¬ (px - n2 * (16 * dx) = X ∧ py - n2 * (16 * dy) = Y)) : (solL X Y n0 n1 n2 l0 l1 l2 h0 h1 h2 px py dx dy).length ≤ 2 := by
  have hf := solL_first (X := X) (Y := Y) (n0 := n0) (n2 := n2) (px := px) (py := py) (dx := dx) (dy := dy) hn1 b0 b1 b2
  have hm : ∀ q ∈ solL X Y n0 n1 n2 l0 l1 l2 h0 h1 h2 px py dx dy, In3 l0 l1 l2 h0 h1 h2 q ∧ Reach3 X Y n0 n1 n2 px py dx dy q := fun q hq => mem_solL.1 hq
  revert hf hm
  generalize solL X Y n0 n1 n2 l0 l1 l2 h0 h1 h2 px py dx dy = L
  intro hf hm
  match L, hf, hm with
  | [], _, _ => simp
  | [_], _, _ => simp
  | [_, _], _, _ => simp
  | p :: q :: r :: L, hf, hm =>
    exfalso
    have hp := hm p (by simp)
    have hq := hm q (by simp)
    have hr := hm r (by simp)
    simp only [List.pairwise_cons] at hf
    have o1 := hf.1 q (by simp)
    have o2 := hf.1 r (by simp)
    have o3 := hf.2.1 r (by simp)
    obtain ⟨wx, ewx⟩ : ∃ t, px - n2 * (16 * dx) - X = t := ⟨_, rfl⟩
    obtain ⟨wy, ewy⟩ : ∃ t, py - n2 * (16 * dy) - Y = t := ⟨_, rfl⟩
    have hw0 : ¬ (wx = 0 ∧ wy = 0) := fun h => hw ⟨by omega, by omega⟩
    -- for each: |w - n0 u|^2 is known, so w . u is known
    have key : ∀ s : J3, Reach3 X Y n0 n1 n2 px py dx dy s → 2 * n0 * 67600 * (wx * (rE s.1).1 + wy * (rE s.1).2) = wx * wx + wy * wy + (n0 * 67600) * (n0 * 67600) * 4225 - (n1 * 1040) * (n1 * 1040) * (4225 * 4225) := fun s hs => by
      unfold Reach3 pw at hs
      have h1 := hs.1
      simp only [Prod.mk.injEq] at h1
      have g1 := rE_len s.1
      have g2 : gn (gm (rE s.1) (rE s.2.1)) = 4225 * 4225 := by rw [gn_mul, rE_len, rE_len]
      unfold gn at g1 g2
      obtain ⟨u, hu⟩ : ∃ t, (rE s.1).1 = t := ⟨_, rfl⟩
      obtain ⟨v, hv⟩ : ∃ t, (rE s.1).2 = t := ⟨_, rfl⟩
      obtain ⟨u', hu'⟩ : ∃ t, (gm (rE s.1) (rE s.2.1)).1 = t := ⟨_, rfl⟩
      obtain ⟨v', hv'⟩ : ∃ t, (gm (rE s.1) (rE s.2.1)).2 = t := ⟨_, rfl⟩
      rw [hu, hv] at g1 ⊢
      rw [hu', hv'] at g2
      rw [hu, hu', hv, hv'] at h1
      have e1 : n1 * (1040 * u') = wx - n0 * (67600 * u) := by omega
      have e2 : n1 * (1040 * v') = wy - n0 * (67600 * v) := by omega
      have e3 : (n1 * (1040 * u')) * (n1 * (1040 * u')) + (n1 * (1040 * v')) * (n1 * (1040 * v')) = (n1 * 1040) * (n1 * 1040) * (u' * u' + v' * v') := by grind
      rw [e1, e2, g2] at e3
      have e4 : (wx - n0 * (67600 * u)) * (wx - n0 * (67600 * u)) + (wy - n0 * (67600 * v)) * (wy - n0 * (67600 * v)) = wx * wx + wy * wy + (n0 * 67600) * (n0 * 67600) * (u * u + v * v) - 2 * n0 * 67600 * (wx * u + wy * v) := by grind
      rw [e4, g1] at e3
      omega
    have k1 := key p hp.2
    have k2 := key q hq.2
    have k3 := key r hr.2
    have c0 : 2 * n0 * 67600 ≠ 0 := by omega
    have d1 := Int.eq_of_mul_eq_mul_left c0 (k1.trans k2.symm)
    have d2 := Int.eq_of_mul_eq_mul_left c0 (k2.trans k3.symm)
    have ip := hp.1.1
    have iq := hq.1.1
    have ir := hr.1.1
    rcases three_same hw0 (rE_len p.1) (rE_len q.1) (rE_len r.1) rfl d1.symm (d1.trans d2).symm with h | h | h
    · have := rE_inj (by omega) (by omega) h; omega
    · have := rE_inj (by omega) (by omega) h; omega
    · have := rE_inj (by omega) (by omega) h; omega
end Go.Proofs.YtceejjamngplkaaDoor
