/- Convex hulls, mathematics alone: points in lexicographic order; half planes; the stack from which half a hull is built. -/
import Derived.Test.YtalhkcmlacppjaaDoorHp
namespace Go.Proofs.YtalhkcmlacppjaaDoor
open Go.ChangeShapes Go.WideShapes Go.ChangeAt Go.RowKit
set_option linter.unusedVariables false
set_option linter.unusedSimpArgs false

/-- The determinant at points. -/
def dt (a b p : Int × Int) : Int := det a.1 a.2 b.1 b.2 p.1 p.2
/-- a comes before b, or is b, by X and then by Y. -/
def lle (a b : Int × Int) : Prop := a.1 < b.1 ∨ (a.1 = b.1 ∧ a.2 ≤ b.2)
def llt (a b : Int × Int) : Prop := a.1 < b.1 ∨ (a.1 = b.1 ∧ a.2 < b.2)
theorem lle_refl (a : Int × Int) : lle a a := .inr ⟨rfl, Int.le_refl _⟩
theorem lle_trans {a b c : Int × Int} (h : lle a b) (g : lle b c) : lle a c := by unfold lle at *; omega
theorem llt_lle {a b : Int × Int} (h : llt a b) : lle a b := by unfold llt at h; unfold lle; omega
theorem lle_llt {a b : Int × Int} (h : lle a b) (hne : a ≠ b) : llt a b := by
  unfold lle at h; unfold llt
  rcases h with h | ⟨h, g⟩
  · exact .inl h
  · refine .inr ⟨h, ?_⟩
    rcases Int.lt_or_eq_of_le g with g | g
    · exact g
    · exact absurd (Prod.ext h g) hne
theorem lle_anti {a b : Int × Int} (h : lle a b) (g : lle b a) : a = b := by
  unfold lle at *
  exact Prod.ext (by omega) (by omega)
theorem llt_ne {a b : Int × Int} (h : llt a b) : a ≠ b := by rintro rfl; unfold llt at h; omega
theorem lle_total (a b : Int × Int) : lle a b ∨ lle b a := by unfold lle; omega
theorem llt_trans {a b c : Int × Int} (h : llt a b) (g : lle b c) : llt a c := by unfold lle at *; unfold llt at *; omega
theorem llt_trans' {a b c : Int × Int} (h : lle a b) (g : llt b c) : llt a c := by unfold lle at *; unfold llt at *; omega
theorem not_lle {a b : Int × Int} (h : ¬ lle a b) : llt b a := by unfold lle at h; unfold llt; omega

/-! ### Vectors -/
def vx (u v : Int × Int) : Int := u.1 * v.2 - u.2 * v.1
def sb (a b : Int × Int) : Int × Int := (a.1 - b.1, a.2 - b.2)
def pos (u : Int × Int) : Prop := 0 < u.1 ∨ (u.1 = 0 ∧ 0 < u.2)
def nng (u : Int × Int) : Prop := 0 < u.1 ∨ (u.1 = 0 ∧ 0 ≤ u.2)
theorem dt_vx (a b p : Int × Int) : dt a b p = vx (sb b a) (sb p a) := by unfold dt det vx sb; rfl
theorem pos_sb {a b : Int × Int} : pos (sb b a) ↔ llt a b := by unfold pos sb llt; simp only; omega
theorem nng_sb {a b : Int × Int} : nng (sb b a) ↔ lle a b := by unfold nng sb lle; simp only; omega
theorem pos_nng {u : Int × Int} (h : pos u) : nng u := by unfold pos at h; unfold nng; omega
theorem vx_key (x y z : Int × Int) : y.1 * vx x z = x.1 * vx y z + z.1 * vx x y := by unfold vx; grind
theorem nng_x {u : Int × Int} (h : nng u) : 0 ≤ u.1 := by unfold nng at h; omega
/-- In a half plane the order by direction is transitive. -/
theorem half_trans {x y z : Int × Int} (hx : nng x) (hy : pos y) (hz : nng z) (h1 : 0 ≤ vx x y) (h2 : 0 ≤ vx y z) : 0 ≤ vx x z := by
  have k := vx_key x y z
  have x1 := nng_x hx
  have z1 := nng_x hz
  have a := Int.mul_nonneg x1 h2
  have b := Int.mul_nonneg z1 h1
  rcases hy with hy | ⟨hy, hy2⟩
  · refine Int.not_lt.1 fun hn => ?_
    have := Int.mul_neg_of_pos_of_neg hy hn
    omega
  · unfold vx at h2 ⊢
    rw [hy] at h2
    have z0 : z.1 = 0 := by
      rcases Int.lt_or_eq_of_le z1 with g | g
      · have := Int.mul_pos hy2 g
        omega
      · exact g.symm
    have z2 : 0 ≤ z.2 := by rcases hz with hz | ⟨_, hz⟩ <;> omega
    rw [z0]
    have := Int.mul_nonneg x1 z2
    omega
theorem half_trans_lt {x y z : Int × Int} (hx : nng x) (hy : pos y) (hz : pos z) (h1 : 0 < vx x y) (h2 : 0 ≤ vx y z) : 0 < vx x z := by
  have k := vx_key x y z
  have x1 := nng_x hx
  have z1 := nng_x (pos_nng hz)
  have a := Int.mul_nonneg x1 h2
  rcases hy with hy | ⟨hy, hy2⟩
  · refine Int.not_le.1 fun hn => ?_
    have q : y.1 * vx x z ≤ 0 := by
      have := Int.mul_nonneg (Int.le_of_lt hy) (show 0 ≤ -vx x z by omega)
      rw [Int.mul_neg] at this
      omega
    rcases hz with hz | ⟨hz, hz2⟩
    · have := Int.mul_pos hz h1
      omega
    · unfold vx at h1 h2 a
      rw [hz] at h2 a
      have hyz := Int.mul_pos hy hz2
      rcases Int.lt_or_eq_of_le x1 with g | g
      · have e : 0 < x.1 * (y.1 * z.2 - y.2 * 0) := Int.mul_pos g (by omega)
        have : vx y z = y.1 * z.2 - y.2 * 0 := by unfold vx; rw [hz]
        rw [this, hz] at k
        omega
      · rw [← g] at h1
        have x2 : 0 ≤ x.2 := by rcases hx with hx | ⟨_, hx⟩ <;> omega
        have := Int.mul_nonneg x2 (Int.le_of_lt hy)
        omega
  · unfold vx at h1 h2 ⊢
    rw [hy] at h1 h2
    have z0 : z.1 = 0 := by
      rcases Int.lt_or_eq_of_le z1 with g | g
      · have := Int.mul_pos hy2 g
        omega
      · exact g.symm
    have z2 : 0 < z.2 := by rcases hz with hz | ⟨_, hz⟩ <;> omega
    rw [z0]
    rcases Int.lt_or_eq_of_le x1 with g | g
    · have := Int.mul_pos g z2
      omega
    · rw [← g] at h1
      omega

/-! ### Determinants at points -/
theorem dt_cyc (a b c : Int × Int) : dt b c a = dt a b c := by unfold dt det; grind
theorem dt_swap (a b c : Int × Int) : dt b a c = -dt a b c := by unfold dt det; grind
theorem dt_self (a b : Int × Int) : dt a b a = 0 := by unfold dt det; grind
theorem dt_self2 (a b : Int × Int) : dt a b b = 0 := by unfold dt det; grind
theorem dt_flat (a c : Int × Int) : dt a a c = 0 := by unfold dt det; grind
theorem vx_neg (u v : Int × Int) : vx u v = -vx v u := by unfold vx; grind

/-! ### The stack: the top is the list's head -/
def popS (p : Int × Int) : List (Int × Int) → List (Int × Int)
  | t :: s :: r => if dt s t p ≤ 0 then popS p (s :: r) else t :: s :: r
  | st => st
def pushS (st : List (Int × Int)) (p : Int × Int) : List (Int × Int) := p :: popS p st
def chainS (l : List (Int × Int)) : List (Int × Int) := l.foldl pushS []

/-- A strict chain over the points of pre. -/
def Ch (pre : List (Int × Int)) : List (Int × Int) → Prop
  | [] => False
  | [x] => x ∈ pre ∧ ∀ q ∈ pre, lle x q
  | t :: s :: r => (t ∈ pre ∧ llt s t ∧ ∀ q ∈ pre, 0 ≤ dt s t q) ∧ (∀ u ∈ r.head?, 0 < dt u s t) ∧ Ch pre (s :: r)
theorem Ch.mem {pre : List (Int × Int)} {t : Int × Int} {r : List (Int × Int)} (h : Ch pre (t :: r)) : t ∈ pre := by
  cases r with
  | nil => exact h.1
  | cons s r => exact h.1.1
/-- What is left when the stack is popped for p. -/
theorem pop_spec {pre : List (Int × Int)} {p : Int × Int} (hp : ∀ q ∈ pre, lle q p) : ∀ (r : List (Int × Int)) (t : Int × Int), Ch pre (t :: r) → (∀ q ∈ pre, lle t q → 0 ≤ dt t p q) →
    ∃ t' r', popS p (t :: r) = t' :: r' ∧ Ch pre (t' :: r') ∧ (∀ q ∈ pre, lle t' q → 0 ≤ dt t' p q) ∧ (∀ u ∈ r'.head?, 0 < dt u t' p)
  | [], t, hC, hq => ⟨t, [], rfl, hC, hq, fun u hu => by cases hu⟩
  | s :: r, t, hC, hq => by
    obtain ⟨⟨h1, h2, h3⟩, h4, h5⟩ := hC
    by_cases hd : dt s t p ≤ 0
    · obtain ⟨t', r', e, g⟩ := pop_spec hp r s h5 (fun q hqm hle => by
        have a := half_trans (x := sb p s) (y := sb t s) (z := sb q s) (nng_sb.2 (hp s h5.mem)) (pos_sb.2 h2) (nng_sb.2 hle) (by rw [vx_neg, ← dt_vx]; omega) (by rw [← dt_vx]; exact h3 q hqm)
        rw [dt_vx]; exact a)
      exact ⟨t', r', by rw [popS, if_pos hd]; exact e, g⟩
    · exact ⟨t, s :: r, by rw [popS, if_neg hd], ⟨⟨h1, h2, h3⟩, h4, h5⟩, hq, fun u hu => by
        cases hu; omega⟩
/-- A point that comes last and to the left of the top edge is to the left of all edges. -/
theorem Ch.snoc {pre : List (Int × Int)} {p : Int × Int} (hp : ∀ q ∈ pre, lle q p) : ∀ (r : List (Int × Int)) (t : Int × Int), Ch pre (t :: r) → (∀ u ∈ r.head?, 0 < dt u t p) → Ch (pre ++ [p]) (t :: r)
  | [], t, hC, hq => ⟨by simp [hC.1], fun q hqm => by
      rcases List.mem_append.1 hqm with h | h
      · exact hC.2 q h
      · cases List.mem_singleton.1 h; exact hp t hC.1⟩
  | s :: r, t, hC, hq => by
    obtain ⟨⟨h1, h2, h3⟩, h4, h5⟩ := hC
    have hd := hq s rfl
    refine ⟨⟨by simp [h1], h2, fun q hqm => ?_⟩, h4, Ch.snoc hp r s h5 (fun u hu => ?_)⟩
    · rcases List.mem_append.1 hqm with h | h
      · exact h3 q h
      · cases List.mem_singleton.1 h; omega
    · have a := h4 u hu
      have hlu : llt u s := by
        cases r with
        | nil => cases hu
        | cons u' r' => cases hu; exact h5.1.2.1
      -- u, s, t, p: the turns at s and at t are to the left
      have b := half_trans_lt (x := sb s u) (y := sb t s) (z := sb p s) (nng_sb.2 (llt_lle hlu)) (pos_sb.2 h2) (pos_sb.2 (llt_trans h2 (hp t h1))) (by
        have : dt u s t = vx (sb s u) (sb t s) := by unfold dt det vx sb; simp only; grind
        omega) (by
        have : dt s t p = vx (sb t s) (sb p s) := dt_vx s t p
        omega)
      have : dt u s p = vx (sb s u) (sb p s) := by unfold dt det vx sb; simp only; grind
      omega
/-- The state of the stack: nothing; one point, perhaps twice; a chain whose top comes last. -/
def St (pre st : List (Int × Int)) : Prop :=
  (pre = [] ∧ st = []) ∨ (∃ x, (∀ q ∈ pre, q = x) ∧ x ∈ pre ∧ st = [x, x]) ∨ (∃ t r, st = t :: r ∧ Ch pre (t :: r) ∧ ∀ q ∈ pre, lle q t)
theorem push_ch {pre : List (Int × Int)} {p t : Int × Int} {r : List (Int × Int)} (hp : ∀ q ∈ pre, lle q p) (hC : Ch pre (t :: r)) (ht : ∀ q ∈ pre, lle q t) : St (pre ++ [p]) (p :: popS p (t :: r)) := by
  obtain ⟨t', r', e, g1, g2, g3⟩ := pop_spec hp r t hC (fun q hq hle => by rw [lle_anti (ht q hq) hle, dt_self]; exact Int.le_refl _)
  rw [e]
  have hmem := g1.mem
  by_cases hne : t' = p
  · subst hne
    cases r' with
    | cons u r' =>
      have := g3 u rfl
      rw [dt_self2] at this
      omega
    | nil =>
      refine .inr (.inl ⟨t', fun q hq => ?_, by simp, rfl⟩)
      rcases List.mem_append.1 hq with h | h
      · exact lle_anti (hp q h) (g1.2 q h)
      · exact List.mem_singleton.1 h
  · have hlt := lle_llt (hp t' hmem) hne
    refine .inr (.inr ⟨p, t' :: r', rfl, ⟨⟨by simp, hlt, fun q hq => ?_⟩, g3, Ch.snoc hp r' t' g1 g3⟩, fun q hq => ?_⟩)
    · rcases List.mem_append.1 hq with h | h
      · rcases lle_total t' q with k | k
        · exact g2 q h k
        · cases r' with
          | nil => exact g2 q h (g1.2 q h)
          | cons u r' =>
            -- q before t': to the left of the edge u, t', which p is, too
            obtain ⟨⟨_, m2, m3⟩, _, _⟩ := g1
            have a := half_trans (x := sb t' q) (y := sb t' u) (z := sb p t') (nng_sb.2 k) (pos_sb.2 m2) (nng_sb.2 (llt_lle hlt)) (by
              have : dt u t' q = vx (sb t' q) (sb t' u) := by unfold dt det vx sb; simp only; grind
              have := m3 q h
              omega) (by
              have : dt u t' p = vx (sb t' u) (sb p t') := by unfold dt det vx sb; simp only; grind
              have := g3 u rfl
              omega)
            have : dt t' p q = vx (sb t' q) (sb p t') := by unfold dt det vx sb; simp only; grind
            omega
      · cases List.mem_singleton.1 h; rw [dt_self2]; exact Int.le_refl _
    · rcases List.mem_append.1 hq with h | h
      · exact hp q h
      · cases List.mem_singleton.1 h; exact lle_refl _
theorem push_st {pre st : List (Int × Int)} {p : Int × Int} (hp : ∀ q ∈ pre, lle q p) (h : St pre st) : St (pre ++ [p]) (pushS st p) := by
  unfold pushS
  rcases h with ⟨rfl, rfl⟩ | ⟨x, h1, h2, rfl⟩ | ⟨t, r, rfl, hC, ht⟩
  · exact .inr (.inr ⟨p, [], rfl, ⟨by simp, fun q hq => by simp at hq; subst hq; exact lle_refl _⟩, fun q hq => by simp at hq; subst hq; exact lle_refl _⟩)
  · have e : popS p [x, x] = popS p [x] := by
      show (if dt x x p ≤ 0 then popS p [x] else [x, x]) = popS p [x]
      rw [dt_flat]; rfl
    rw [e]
    exact push_ch hp ⟨h2, fun q hq => by rw [h1 q hq]; exact lle_refl _⟩ (fun q hq => by rw [h1 q hq]; exact lle_refl _)
  · exact push_ch hp hC ht
theorem fold_st : ∀ (l pre st : List (Int × Int)), (pre ++ l).Pairwise lle → St pre st → St (pre ++ l) (l.foldl pushS st)
  | [], pre, st, _, h => by simpa using h
  | p :: l, pre, st, hs, h => by
    have e : pre ++ p :: l = (pre ++ [p]) ++ l := by simp
    rw [List.foldl_cons, e]
    refine fold_st l (pre ++ [p]) _ (by rw [← e]; exact hs) (push_st (fun q hq => ?_) h)
    rw [List.pairwise_append] at hs
    exact hs.2.2 q hq p (by simp)
theorem chain_st {l : List (Int × Int)} (hs : l.Pairwise lle) : St l (chainS l) := by
  have := fold_st l [] [] (by simpa using hs) (.inl ⟨rfl, rfl⟩)
  rw [List.nil_append] at this
  exact this
end Go.Proofs.YtalhkcmlacppjaaDoor
