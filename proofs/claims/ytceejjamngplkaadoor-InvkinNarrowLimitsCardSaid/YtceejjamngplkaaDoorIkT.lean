/- Mathematics of layer 8: a quarter turn of the target; distances and nearest elements. -/
import Derived.Test.YtceejjamngplkaaDoorIkS
namespace Go.Proofs.YtceejjamngplkaaDoor
set_option linter.unusedVariables false
set_option linter.unusedSimpArgs false
set_option maxRecDepth 100000
def rot9 (q : Int) : Int := if 18 < q + 9 then q + 9 - 36 else q + 9
theorem rot9_rE (q : Int) (hq : -17 ≤ q ∧ q ≤ 18) : rE (rot9 q) = (-(rE q).2, (rE q).1) := by
  have key : ∀ k, k < 36 → csF ((k + 9) % 36) = (-(csF k).2, (csF k).1) := by decide +kernel
  unfold rE
  have := key (q % 36).toNat (by omega)
  rw [← this]
  congr 1
  unfold rot9
  split <;> omega
theorem rot9_bd {q : Int} (hq : -17 ≤ q ∧ q ≤ 18) : -17 ≤ rot9 q ∧ rot9 q ≤ 18 := by unfold rot9; split <;> omega
theorem rot9_inj {p q : Int} (hp : -17 ≤ p ∧ p ≤ 18) (hq : -17 ≤ q ∧ q ≤ 18) (h : rot9 p = rot9 q) : p = q := by unfold rot9 at h; split at h <;> split at h <;> omega
theorem gm_q (a b : Int × Int) : gm (-a.2, a.1) b = (-(gm a b).2, (gm a b).1) := by
  unfold gm
  exact Prod.ext (by simp only; grind) (by simp only; grind)
def turn9 (q : J3) : J3 := (rot9 q.1, q.2.1, q.2.2)
theorem reach_turn {X Y n0 n1 n2 px py dx dy : Int} {q : J3} (hq : -17 ≤ q.1 ∧ q.1 ≤ 18) (h : Reach3 X Y n0 n1 n2 px py dx dy q) : Reach3 X Y n0 n1 n2 (X - (py - Y)) (Y + px - X) (-dy) dx (turn9 q) := by
  unfold Reach3 pw pd turn9 at *
  simp only at *
  rw [rot9_rE _ hq, gm_q, gm_q]
  obtain ⟨h1, h2⟩ := h
  rw [h2]
  simp only [Prod.mk.injEq] at h1 ⊢
  refine ⟨⟨?_, ?_⟩, by first | trivial | exact ⟨rfl, rfl⟩⟩
  · have e1 : n0 * (67600 * -(rE q.1).2) = -(n0 * (67600 * (rE q.1).2)) := by grind
    have e2 : n1 * (1040 * -(gm (rE q.1) (rE q.2.1)).2) = -(n1 * (1040 * (gm (rE q.1) (rE q.2.1)).2)) := by grind
    have e3 : n2 * (16 * -dy) = -(n2 * (16 * dy)) := by grind
    omega
  · omega
theorem len_inj {f : J3 → J3} {l k : List J3} (hn : l.Pairwise (fun p q => f p ≠ f q)) (hm : ∀ q ∈ l, f q ∈ k) : l.length ≤ k.length := by
  induction l generalizing k with
  | nil => simp
  | cons x l ih =>
    rw [List.pairwise_cons] at hn
    have hx := hm x (by simp)
    have := ih (k := k.erase (f x)) hn.2 (fun q hq => (List.mem_erase_of_ne (fun e => hn.1 q hq e.symm)).2 (hm q (by simp [hq])))
    rw [List.length_erase_of_mem hx] at this
    have := List.length_pos_of_mem hx
    simp only [List.length_cons]
    omega
section
variable {X Y n0 n1 n2 l1 l2 h1 h2 px py dx dy : Int}
theorem turn_mem {q : J3} (h : q ∈ solL X Y n0 n1 n2 (-17) l1 l2 18 h1 h2 px py dx dy) : turn9 q ∈ solL X Y n0 n1 n2 (-17) l1 l2 18 h1 h2 (X - (py - Y)) (Y + px - X) (-dy) dx := by
  rw [mem_solL] at h ⊢
  exact ⟨⟨rot9_bd h.1.1, h.1.2⟩, reach_turn h.1.1 h.2⟩
theorem turn_le : (solL X Y n0 n1 n2 (-17) l1 l2 18 h1 h2 px py dx dy).length ≤ (solL X Y n0 n1 n2 (-17) l1 l2 18 h1 h2 (X - (py - Y)) (Y + px - X) (-dy) dx).length := by
  refine len_inj (f := turn9) (List.Pairwise.imp_of_mem (fun {p q} hp hq hlt e => ?_) (solL_sorted X Y n0 n1 n2 (-17) l1 l2 18 h1 h2 px py dx dy)) (fun q hq => turn_mem hq)
  rw [mem_solL] at hp hq
  have e0 := congrArg Prod.fst e
  have e1 := congrArg Prod.snd e
  unfold turn9 at e0 e1
  simp only at e0 e1
  have := rot9_inj hp.1.1 hq.1.1 e0
  have : p = q := Prod.ext this (Prod.ext (congrArg Prod.fst e1) (congrArg Prod.snd e1))
  subst this
  exact lt3_irr _ hlt
theorem turn_len : (solL X Y n0 n1 n2 (-17) l1 l2 18 h1 h2 (X - (py - Y)) (Y + px - X) (-dy) dx).length = (solL X Y n0 n1 n2 (-17) l1 l2 18 h1 h2 px py dx dy).length := by
  have a := turn_le (X := X) (Y := Y) (n0 := n0) (n1 := n1) (n2 := n2) (l1 := l1) (l2 := l2) (h1 := h1) (h2 := h2) (px := px) (py := py) (dx := dx) (dy := dy)
  have b := turn_le (X := X) (Y := Y) (n0 := n0) (n1 := n1) (n2 := n2) (l1 := l1) (l2 := l2) (h1 := h1) (h2 := h2) (px := X - (py - Y)) (py := Y + px - X) (dx := -dy) (dy := dx)
  have c := turn_le (X := X) (Y := Y) (n0 := n0) (n1 := n1) (n2 := n2) (l1 := l1) (l2 := l2) (h1 := h1) (h2 := h2) (px := X - (Y + px - X - Y)) (py := Y + (X - (py - Y)) - X) (dx := -dx) (dy := -dy)
  have d := turn_le (X := X) (Y := Y) (n0 := n0) (n1 := n1) (n2 := n2) (l1 := l1) (l2 := l2) (h1 := h1) (h2 := h2) (px := X - (Y + (X - (py - Y)) - X - Y)) (py := Y + (X - (Y + px - X - Y)) - X) (dx := - -dy) (dy := -dx)
  rw [show X - (Y + (X - (Y + px - X - Y)) - X - Y) = px by omega, show Y + (X - (Y + (X - (py - Y)) - X - Y)) - X = py by omega, show - -dx = dx by omega, show - -dy = dy by omega] at d
  rw [show - -dy = dy by omega] at c
  omega
end
/-! ### Distances -/
theorem ab_nn (a b : Int) : 0 ≤ abI a b := by unfold abI mxI; split <;> omega
theorem ab_zero {a b : Int} : abI a b = 0 ↔ a = b := by unfold abI mxI; split <;> omega
theorem ab_comm (a b : Int) : abI a b = abI b a := by unfold abI mxI; split <;> split <;> omega
theorem ab_tri (a b c : Int) : abI a b ≤ abI a c + abI c b := by unfold abI mxI; split <;> split <;> split <;> omega
theorem dst_nn (p q : J3) : 0 ≤ dst3 p q := by unfold dst3; have := ab_nn p.1 q.1; have := ab_nn p.2.1 q.2.1; have := ab_nn p.2.2 q.2.2; omega
theorem dst_zero (p q : J3) : dst3 p q = 0 ↔ p = q := by
  unfold dst3
  have h1 := ab_nn p.1 q.1
  have h2 := ab_nn p.2.1 q.2.1
  have h3 := ab_nn p.2.2 q.2.2
  constructor
  · intro h
    exact Prod.ext (ab_zero.1 (by omega)) (Prod.ext (ab_zero.1 (by omega)) (ab_zero.1 (by omega)))
  · rintro rfl
    have e1 := ab_zero (a := p.1) (b := p.1)
    have e2 := ab_zero (a := p.2.1) (b := p.2.1)
    have e3 := ab_zero (a := p.2.2) (b := p.2.2)
    rw [e1.2 rfl, e2.2 rfl, e3.2 rfl]; rfl
theorem dst_comm (p q : J3) : dst3 p q = dst3 q p := by unfold dst3; rw [ab_comm p.1, ab_comm p.2.1, ab_comm p.2.2]
theorem dst_tri (p q r : J3) : dst3 p q ≤ dst3 p r + dst3 r q := by
  unfold dst3
  have := ab_tri p.1 q.1 r.1
  have := ab_tri p.2.1 q.2.1 r.2.1
  have := ab_tri p.2.2 q.2.2 r.2.2
  omega
theorem fold_near (q : J3) (l : List J3) (f : J3) : dst3 (l.foldl (nr q) f) q ≤ dst3 f q ∧ (dst3 f q = dst3 (l.foldl (nr q) f) q → l.foldl (nr q) f = f) ∧
    (l.foldl (nr q) f = f ∨ l.foldl (nr q) f ∈ l) ∧ (∀ i, i < l.length → dst3 (l.foldl (nr q) f) q ≤ dst3 (l.getD i j0) q) ∧
    ∀ i, i < l.length → dst3 (l.getD i j0) q = dst3 (l.foldl (nr q) f) q → l.foldl (nr q) f = f ∨ ∃ j, j ≤ i ∧ l.getD j j0 = l.foldl (nr q) f := by
  induction l generalizing f with
  | nil => simp
  | cons y l ih =>
    simp only [List.foldl_cons]
    obtain ⟨h1, h2, h3, h4, h5⟩ := ih (nr q f y)
    revert h1 h2 h3 h4 h5
    generalize l.foldl (nr q) (nr q f y) = R
    intro h1 h2 h3 h4 h5
    by_cases hc : dst3 y q < dst3 f q
    · have e : nr q f y = y := by unfold nr; rw [if_pos hc]
      rw [e] at h1 h2 h3 h5
      refine ⟨by omega, fun h => by omega, ?_, ?_, ?_⟩
      · rcases h3 with h | h
        · right; rw [h]; simp
        · right; simp [h]
      · intro i hi
        cases i with
        | zero => simpa using h1
        | succ i => simpa using h4 i (by simpa using hi)
      · intro i hi he
        cases i with
        | zero =>
          right
          exact ⟨0, Nat.le_refl _, (h2 (by simpa using he)).symm⟩
        | succ i =>
          rcases h5 i (by simpa using hi) (by simpa using he) with h | ⟨j, hj, h⟩
          · right; exact ⟨0, by omega, h.symm⟩
          · right; exact ⟨j + 1, by omega, by simpa using h⟩
    · have e : nr q f y = f := by unfold nr; rw [if_neg hc]
      rw [e] at h1 h2 h3 h5
      refine ⟨h1, h2, ?_, ?_, ?_⟩
      · rcases h3 with h | h
        · left; exact h
        · right; simp [h]
      · intro i hi
        cases i with
        | zero => simp only [List.getD_cons_zero]; omega
        | succ i => simpa using h4 i (by simpa using hi)
      · intro i hi he
        cases i with
        | zero =>
          left
          exact h2 (by simp only [List.getD_cons_zero] at he; omega)
        | succ i =>
          rcases h5 i (by simpa using hi) (by simpa using he) with h | ⟨j, hj, h⟩
          · left; exact h
          · right; exact ⟨j + 1, by omega, by simpa using h⟩
theorem near_all (q : J3) (l : List J3) (h : l ≠ []) : (∀ i, i < l.length → dst3 (nearL q l) q ≤ dst3 (l.getD i j0) q) ∧ (∀ i, i < l.length → dst3 (l.getD i j0) q = dst3 (nearL q l) q → ∃ j, j ≤ i ∧ l.getD j j0 = nearL q l) ∧ ∃ i, i < l.length ∧ l.getD i j0 = nearL q l := by
  cases l with
  | nil => exact absurd rfl h
  | cons x l =>
    unfold nearL
    obtain ⟨h1, h2, h3, h4, h5⟩ := fold_near q l x
    refine ⟨?_, ?_, ?_⟩
    · intro i hi
      cases i with
      | zero => simpa using h1
      | succ i => simpa using h4 i (by simpa using hi)
    · intro i hi he
      cases i with
      | zero => exact ⟨0, Nat.le_refl _, by simpa using (h2 (by simpa using he)).symm⟩
      | succ i =>
        rcases h5 i (by simpa using hi) (by simpa using he) with h | ⟨j, hj, h⟩
        · exact ⟨0, by omega, by simpa using h.symm⟩
        · exact ⟨j + 1, by omega, by simpa using h⟩
    · rcases h3 with h | h
      · exact ⟨0, by simp, by simpa using h.symm⟩
      · obtain ⟨i, hi, e⟩ := List.getElem_of_mem h
        exact ⟨i + 1, by simpa using hi, by simpa [List.getD_eq_getElem?_getD, List.getElem?_eq_getElem hi] using e⟩
end Go.Proofs.YtceejjamngplkaaDoor
