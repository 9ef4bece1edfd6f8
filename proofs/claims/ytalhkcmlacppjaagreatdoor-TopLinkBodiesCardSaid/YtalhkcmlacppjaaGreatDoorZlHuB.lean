/- Helpers: what the law reaches. -/
import Derived.Test.YtalhkcmlacppjaaGreatDoorZlHp
namespace Go.Proofs.YtalhkcmlacppjaaGreatDoor
open Go.ChangeShapes Go.WideShapes Go.ChangeAt Go.RowKit
set_option linter.unusedVariables false
set_option linter.unusedSimpArgs false

/-- The determinant at points. -/
def dt (a b p : Int × Int) : Int := det a.1 a.2 b.1 b.2 p.1 p.2
/-- a comes before b, or is b, by X and then by Y. -/
def lle (a b : Int × Int) : Prop := a.1 < b.1 ∨ (a.1 = b.1 ∧ a.2 ≤ b.2)
def llt (a b : Int × Int) : Prop := a.1 < b.1 ∨ (a.1 = b.1 ∧ a.2 < b.2)
theorem lle_refl (a : Int × Int) : lle a a := .inr ⟨rfl, Int.le_refl _⟩
theorem lle_trans {a b c : Int × Int} (h : lle a b) (g : lle b c) : lle a c := by unfold lle at *; omega
theorem llt_lle {a b : Int × Int} (h : llt a b) : lle a b := by unfold llt at h; unfold lle; omega
theorem lle_llt {a b : Int × Int} (h : lle a b) (hne : a ≠ b) : llt a b := by
  unfold lle at h; unfold llt
  rcases h with h | ⟨h, g⟩
  · exact .inl h
  · refine .inr ⟨h, ?_⟩
    rcases Int.lt_or_eq_of_le g with g | g
    · exact g
    · exact absurd (Prod.ext h g) hne
theorem lle_anti {a b : Int × Int} (h : lle a b) (g : lle b a) : a = b := by
  unfold lle at *
  exact Prod.ext (by omega) (by omega)
theorem llt_ne {a b : Int × Int} (h : llt a b) : a ≠ b := by rintro rfl; unfold llt at h; omega
theorem lle_total (a b : Int × Int) : lle a b ∨ lle b a := by unfold lle; omega
theorem llt_trans {a b c : Int × Int} (h : llt a b) (g : lle b c) : llt a c := by unfold lle at *; unfold llt at *; omega
def vx (u v : Int × Int) : Int := u.1 * v.2 - u.2 * v.1
def sb (a b : Int × Int) : Int × Int := (a.1 - b.1, a.2 - b.2)
def pos (u : Int × Int) : Prop := 0 < u.1 ∨ (u.1 = 0 ∧ 0 < u.2)
def nng (u : Int × Int) : Prop := 0 < u.1 ∨ (u.1 = 0 ∧ 0 ≤ u.2)
theorem dt_vx (a b p : Int × Int) : dt a b p = vx (sb b a) (sb p a) := by unfold dt det vx sb; rfl
theorem pos_sb {a b : Int × Int} : pos (sb b a) ↔ llt a b := by unfold pos sb llt; simp only; omega
theorem nng_sb {a b : Int × Int} : nng (sb b a) ↔ lle a b := by unfold nng sb lle; simp only; omega
theorem pos_nng {u : Int × Int} (h : pos u) : nng u := by unfold pos at h; unfold nng; omega
theorem vx_key (x y z : Int × Int) : y.1 * vx x z = x.1 * vx y z + z.1 * vx x y := by unfold vx; grind
theorem nng_x {u : Int × Int} (h : nng u) : 0 ≤ u.1 := by unfold nng at h; omega
/-- In a half plane the order by direction is transitive. -/
theorem half_trans {x y z : Int × Int} (hx : nng x) (hy : pos y) (hz : nng z) (h1 : 0 ≤ vx x y) (h2 : 0 ≤ vx y z) : 0 ≤ vx x z := by
  have k := vx_key x y z
  have x1 := nng_x hx
  have z1 := nng_x hz
  have a := Int.mul_nonneg x1 h2
  have b := Int.mul_nonneg z1 h1
  rcases hy with hy | ⟨hy, hy2⟩
  · refine Int.not_lt.1 fun hn => ?_
    have := Int.mul_neg_of_pos_of_neg hy hn
    omega
  · unfold vx at h2 ⊢
    rw [hy] at h2
    have z0 : z.1 = 0 := by
      rcases Int.lt_or_eq_of_le z1 with g | g
      · have := Int.mul_pos hy2 g
        omega
      · exact g.symm
    have z2 : 0 ≤ z.2 := by rcases hz with hz | ⟨_, hz⟩ <;> omega
    rw [z0]
    have := Int.mul_nonneg x1 z2
    omega
theorem half_trans_lt {x y z : Int × Int} (hx : nng x) (hy : pos y) (hz : pos z) (h1 : 0 < vx x y) (h2 : 0 ≤ vx y z) : 0 < vx x z := by
  have k := vx_key x y z
  have x1 := nng_x hx
  have z1 := nng_x (pos_nng hz)
  have a := Int.mul_nonneg x1 h2
  rcases hy with hy | ⟨hy, hy2⟩
  · refine Int.not_le.1 fun hn => ?_
    have q : y.1 * vx x z ≤ 0 := by
      have := Int.mul_nonneg (Int.le_of_lt hy) (show 0 ≤ -vx x z by omega)
      rw [Int.mul_neg] at this
      omega
    rcases hz with hz | ⟨hz, hz2⟩
    · have := Int.mul_pos hz h1
      omega
    · unfold vx at h1 h2 a
      rw [hz] at h2 a
      have hyz := Int.mul_pos hy hz2
      rcases Int.lt_or_eq_of_le x1 with g | g
      · have e : 0 < x.1 * (y.1 * z.2 - y.2 * 0) := Int.mul_pos g (by omega)
        have : vx y z = y.1 * z.2 - y.2 * 0 := by unfold vx; rw [hz]
        rw [this, hz] at k
        omega
      · rw [← g] at h1
        have x2 : 0 ≤ x.2 := by rcases hx with hx | ⟨_, hx⟩ <;> omega
        have := Int.mul_nonneg x2 (Int.le_of_lt hy)
        omega
  · unfold vx at h1 h2 ⊢
    rw [hy] at h1 h2
    have z0 : z.1 = 0 := by
      rcases Int.lt_or_eq_of_le z1 with g | g
      · have := Int.mul_pos hy2 g
        omega
      · exact g.symm
    have z2 : 0 < z.2 := by rcases hz with hz | ⟨_, hz⟩ <;> omega
    rw [z0]
    rcases Int.lt_or_eq_of_le x1 with g | g
    · have := Int.mul_pos g z2
      omega
    · rw [← g] at h1
      omega

theorem dt_cyc (a b c : Int × Int) : dt b c a = dt a b c := by unfold dt det; grind
theorem dt_swap (a b c : Int × Int) : dt b a c = -dt a b c := by unfold dt det; grind
theorem dt_self (a b : Int × Int) : dt a b a = 0 := by unfold dt det; grind
theorem dt_self2 (a b : Int × Int) : dt a b b = 0 := by unfold dt det; grind
theorem dt_flat (a c : Int × Int) : dt a a c = 0 := by unfold dt det; grind
theorem vx_neg (u v : Int × Int) : vx u v = -vx v u := by unfold vx; grind

def popS (p : Int × Int) : List (Int × Int) → List (Int × Int)
  | t :: s :: r => if dt s t p ≤ 0 then popS p (s :: r) else t :: s :: r
  | st => st
def pushS (st : List (Int × Int)) (p : Int × Int) : List (Int × Int) := p :: popS p st
def chainS (l : List (Int × Int)) : List (Int × Int) := l.foldl pushS []

/-- A strict chain over the points of pre. -/
def Ch (pre : List (Int × Int)) : List (Int × Int) → Prop
  | [] => False
  | [x] => x ∈ pre ∧ ∀ q ∈ pre, lle x q
  | t :: s :: r => (t ∈ pre ∧ llt s t ∧ ∀ q ∈ pre, 0 ≤ dt s t q) ∧ (∀ u ∈ r.head?, 0 < dt u s t) ∧ Ch pre (s :: r)
theorem Ch.mem {pre : List (Int × Int)} {t : Int × Int} {r : List (Int × Int)} (h : Ch pre (t :: r)) : t ∈ pre := by
  cases r with
  | nil => exact h.1
  | cons s r => exact h.1.1
/-- What is left when the stack is popped for p. -/
theorem pop_spec {pre : List (Int × Int)} {p : Int × Int} (hp : ∀ q ∈ pre, lle q p) : ∀ (r : List (Int × Int)) (t : Int × Int), Ch pre (t :: r) → (∀ q ∈ pre, lle t q → 0 ≤ dt t p q) →
    ∃ t' r', popS p (t :: r) = t' :: r' ∧ Ch pre (t' :: r') ∧ (∀ q ∈ pre, lle t' q → 0 ≤ dt t' p q) ∧ (∀ u ∈ r'.head?, 0 < dt u t' p)
  | [], t, hC, hq => ⟨t, [], rfl, hC, hq, fun u hu => by cases hu⟩
  | s :: r, t, hC, hq => by
    obtain ⟨⟨h1, h2, h3⟩, h4, h5⟩ := hC
    by_cases hd : dt s t p ≤ 0
    · obtain ⟨t', r', e, g⟩ := pop_spec hp r s h5 (fun q hqm hle => by
        have a := half_trans (x := sb p s) (y := sb t s) (z := sb q s) (nng_sb.2 (hp s h5.mem)) (pos_sb.2 h2) (nng_sb.2 hle) (by rw [vx_neg, ← dt_vx]; omega) (by rw [← dt_vx]; exact h3 q hqm)
        rw [dt_vx]; exact a)
      exact ⟨t', r', by rw [popS, if_pos hd]; exact e, g⟩
    · exact ⟨t, s :: r, by rw [popS, if_neg hd], ⟨⟨h1, h2, h3⟩, h4, h5⟩, hq, fun u hu => by
        cases hu; omega⟩
/-- A point that comes last and to the left of the top edge is to the left of all edges. -/
theorem Ch.snoc {pre : List (Int × Int)} {p : Int × Int} (hp : ∀ q ∈ pre, lle q p) : ∀ (r : List (Int × Int)) (t : Int × Int), Ch pre (t :: r) → (∀ u ∈ r.head?, 0 < dt u t p) → Ch (pre ++ [p]) (t :: r)
  | [], t, hC, hq => ⟨by simp [hC.1], fun q hqm => by
      rcases List.mem_append.1 hqm with h | h
      · exact hC.2 q h
      · cases List.mem_singleton.1 h; exact hp t hC.1⟩
  | s :: r, t, hC, hq => by
    obtain ⟨⟨h1, h2, h3⟩, h4, h5⟩ := hC
    have hd := hq s rfl
    refine ⟨⟨by simp [h1], h2, fun q hqm => ?_⟩, h4, Ch.snoc hp r s h5 (fun u hu => ?_)⟩
    · rcases List.mem_append.1 hqm with h | h
      · exact h3 q h
      · cases List.mem_singleton.1 h; omega
    · have a := h4 u hu
      have hlu : llt u s := by
        cases r with
        | nil => cases hu
        | cons u' r' => cases hu; exact h5.1.2.1
      -- u, s, t, p: the turns at s and at t are to the left
      have b := half_trans_lt (x := sb s u) (y := sb t s) (z := sb p s) (nng_sb.2 (llt_lle hlu)) (pos_sb.2 h2) (pos_sb.2 (llt_trans h2 (hp t h1))) (by
        have : dt u s t = vx (sb s u) (sb t s) := by unfold dt det vx sb; simp only; grind
        omega) (by
        have : dt s t p = vx (sb t s) (sb p s) := dt_vx s t p
        omega)
      have : dt u s p = vx (sb s u) (sb p s) := by unfold dt det vx sb; simp only; grind
      omega
/-- The state of the stack: nothing; one point, perhaps twice; a chain whose top comes last. -/
def St (pre st : List (Int × Int)) : Prop :=
  (pre = [] ∧ st = []) ∨ (∃ x, (∀ q ∈ pre, q = x) ∧ x ∈ pre ∧ st = [x, x]) ∨ (∃ t r, st = t :: r ∧ Ch pre (t :: r) ∧ ∀ q ∈ pre, lle q t)
theorem push_ch {pre : List (Int × Int)} {p t : Int × Int} {r : List (Int × Int)} (hp : ∀ q ∈ pre, lle q p) (hC : Ch pre (t :: r)) (ht : ∀ q ∈ pre, lle q t) : St (pre ++ [p]) (p :: popS p (t :: r)) := by
  obtain ⟨t', r', e, g1, g2, g3⟩ := pop_spec hp r t hC (fun q hq hle => by rw [lle_anti (ht q hq) hle, dt_self]; exact Int.le_refl _)
  rw [e]
  have hmem := g1.mem
  by_cases hne : t' = p
  · subst hne
    cases r' with
    | cons u r' =>
      have := g3 u rfl
      rw [dt_self2] at this
      omega
    | nil =>
      refine .inr (.inl ⟨t', fun q hq => ?_, by simp, rfl⟩)
      rcases List.mem_append.1 hq with h | h
      · exact lle_anti (hp q h) (g1.2 q h)
      · exact List.mem_singleton.1 h
  · have hlt := lle_llt (hp t' hmem) hne
    refine .inr (.inr ⟨p, t' :: r', rfl, ⟨⟨by simp, hlt, fun q hq => ?_⟩, g3, Ch.snoc hp r' t' g1 g3⟩, fun q hq => ?_⟩)
    · rcases List.mem_append.1 hq with h | h
      · rcases lle_total t' q with k | k
        · exact g2 q h k
        · cases r' with
          | nil => exact g2 q h (g1.2 q h)
          | cons u r' =>
            -- q before t': to the left of the edge u, t', which p is, too
            obtain ⟨⟨_, m2, m3⟩, _, _⟩ := g1
            have a := half_trans (x := sb t' q) (y := sb t' u) (z := sb p t') (nng_sb.2 k) (pos_sb.2 m2) (nng_sb.2 (llt_lle hlt)) (by
              have : dt u t' q = vx (sb t' q) (sb t' u) := by unfold dt det vx sb; simp only; grind
              have := m3 q h
              omega) (by
              have : dt u t' p = vx (sb t' u) (sb p t') := by unfold dt det vx sb; simp only; grind
              have := g3 u rfl
              omega)
            have : dt t' p q = vx (sb t' q) (sb p t') := by unfold dt det vx sb; simp only; grind
            omega
      · cases List.mem_singleton.1 h; rw [dt_self2]; exact Int.le_refl _
    · rcases List.mem_append.1 hq with h | h
      · exact hp q h
      · cases List.mem_singleton.1 h; exact lle_refl _
theorem push_st {pre st : List (Int × Int)} {p : Int × Int} (hp : ∀ q ∈ pre, lle q p) (h : St pre st) : St (pre ++ [p]) (pushS st p) := by
  unfold pushS
  rcases h with ⟨rfl, rfl⟩ | ⟨x, h1, h2, rfl⟩ | ⟨t, r, rfl, hC, ht⟩
  · exact .inr (.inr ⟨p, [], rfl, ⟨by simp, fun q hq => by simp at hq; subst hq; exact lle_refl _⟩, fun q hq => by simp at hq; subst hq; exact lle_refl _⟩)
  · have e : popS p [x, x] = popS p [x] := by
      show (if dt x x p ≤ 0 then popS p [x] else [x, x]) = popS p [x]
      rw [dt_flat]; rfl
    rw [e]
    exact push_ch hp ⟨h2, fun q hq => by rw [h1 q hq]; exact lle_refl _⟩ (fun q hq => by rw [h1 q hq]; exact lle_refl _)
  · exact push_ch hp hC ht
theorem fold_st : ∀ (l pre st : List (Int × Int)), (pre ++ l).Pairwise lle → St pre st → St (pre ++ l) (l.foldl pushS st)
  | [], pre, st, _, h => by simpa using h
  | p :: l, pre, st, hs, h => by
    have e : pre ++ p :: l = (pre ++ [p]) ++ l := by simp
    rw [List.foldl_cons, e]
    refine fold_st l (pre ++ [p]) _ (by rw [← e]; exact hs) (push_st (fun q hq => ?_) h)
    rw [List.pairwise_append] at hs
    exact hs.2.2 q hq p (by simp)
theorem chain_st {l : List (Int × Int)} (hs : l.Pairwise lle) : St l (chainS l) := by
  have := fold_st l [] [] (by simpa using hs) (.inl ⟨rfl, rfl⟩)
  rw [List.nil_append] at this
  exact this
end Go.Proofs.YtalhkcmlacppjaaGreatDoor

namespace Go.Proofs.YtalhkcmlacppjaaGreatDoor
open Go.ChangeShapes Go.WideShapes Go.ChangeAt Go.RowKit
set_option linter.unusedVariables false
set_option linter.unusedSimpArgs false

def gp (h : List (Int × Int)) (i : Nat) : Int × Int := h.getD i (0, 0)
theorem gp_lt {h : List (Int × Int)} {i : Nat} (hi : i < h.length) : gp h i = h[i] := by simp [gp, List.getD_eq_getElem?_getD, List.getElem?_eq_getElem hi]
theorem gp_mem {h : List (Int × Int)} {i : Nat} (hi : i < h.length) : gp h i ∈ h := by rw [gp_lt hi]; exact List.getElem_mem hi
theorem mem_gp {h : List (Int × Int)} {x : Int × Int} (hx : x ∈ h) : ∃ i, i < h.length ∧ gp h i = x := by
  obtain ⟨i, hi, e⟩ := List.getElem_of_mem hx
  exact ⟨i, hi, by rw [gp_lt hi]; exact e⟩
/-- A strictly convex polygon; a hull of l. -/
def Conv (h : List (Int × Int)) : Prop := 3 ≤ h.length ∧ ∀ i j, i < h.length → j < h.length → j ≠ i → j ≠ nx h.length i → 0 < dt (gp h i) (gp h (nx h.length i)) (gp h j)
def IsHull (l h : List (Int × Int)) : Prop := Conv h ∧ (∀ i, i < h.length → gp h i ∈ l) ∧ (∀ i, i < h.length → ∀ q ∈ l, 0 ≤ dt (gp h i) (gp h (nx h.length i)) q) ∧ ∀ i, i < h.length → lle (gp h 0) (gp h i)

/-- A lower half, from the smallest point to the largest. -/
structure Lo (l : List (Int × Int)) (s : Nat → Int × Int) (k : Nat) : Prop where
  mem : ∀ i, i ≤ k → s i ∈ l
  up : ∀ i, i < k → llt (s i) (s (i + 1))
  weak : ∀ i, i < k → ∀ q ∈ l, 0 ≤ dt (s i) (s (i + 1)) q
  turn : ∀ i, i + 1 < k → 0 < dt (s i) (s (i + 1)) (s (i + 2))
  low : ∀ q ∈ l, lle (s 0) q
  top : ∀ q ∈ l, lle q (s k)

theorem ch_idx : ∀ (st pre : List (Int × Int)), Ch pre st → (∀ i, i < st.length → gp st i ∈ pre) ∧ (∀ i, i + 1 < st.length → llt (gp st (i + 1)) (gp st i)) ∧ (∀ i, i + 1 < st.length → ∀ q ∈ pre, 0 ≤ dt (gp st (i + 1)) (gp st i) q) ∧
    (∀ i, i + 2 < st.length → 0 < dt (gp st (i + 2)) (gp st (i + 1)) (gp st i)) ∧ ∀ q ∈ pre, lle (gp st (st.length - 1)) q
  | [], pre, h => h.elim
  | [x], pre, h => ⟨fun i hi => by
      obtain rfl : i = 0 := by simpa using hi
      exact h.1, fun i hi => by simp at hi, fun i hi => by simp at hi, fun i hi => by simp at hi, h.2⟩
  | t :: s :: r, pre, h => by
    obtain ⟨⟨h1, h2, h3⟩, h4, h5⟩ := h
    obtain ⟨g1, g2, g3, g4, g5⟩ := ch_idx (s :: r) pre h5
    refine ⟨fun i hi => ?_, fun i hi => ?_, fun i hi => ?_, fun i hi => ?_, ?_⟩
    · match i, hi with
      | 0, _ => exact h1
      | i + 1, hi => exact g1 i (by simpa using hi)
    · match i, hi with
      | 0, _ => exact h2
      | i + 1, hi => exact g2 i (by simpa using hi)
    · match i, hi with
      | 0, _ => exact h3
      | i + 1, hi => exact g3 i (by simpa using hi)
    · match i, hi with
      | 0, hi =>
        cases r with
        | nil => simp at hi
        | cons u r' => exact h4 u rfl
      | i + 1, hi => exact g4 i (by simp at hi ⊢; omega)
    · have : gp (t :: s :: r) ((t :: s :: r).length - 1) = gp (s :: r) ((s :: r).length - 1) := by simp [gp]
      rw [this]; exact g5
theorem lo_of_ch {l st : List (Int × Int)} (h : Ch l st) (ht : ∀ q ∈ l, lle q (gp st 0)) : Lo l (fun i => gp st (st.length - 1 - i)) (st.length - 1) ∧ 0 < st.length := by
  have h0 : 0 < st.length := by
    cases st with
    | nil => exact h.elim
    | cons _ _ => simp
  obtain ⟨g1, g2, g3, g4, g5⟩ := ch_idx st l h
  refine ⟨⟨fun i hi => g1 _ (by omega), fun i hi => ?_, fun i hi q hq => ?_, fun i hi => ?_, fun q hq => ?_, fun q hq => ?_⟩, h0⟩
  · have := g2 (st.length - 1 - (i + 1)) (by omega)
    rwa [show st.length - 1 - (i + 1) + 1 = st.length - 1 - i by omega] at this
  · have := g3 (st.length - 1 - (i + 1)) (by omega) q hq
    rwa [show st.length - 1 - (i + 1) + 1 = st.length - 1 - i by omega] at this
  · have := g4 (st.length - 1 - (i + 2)) (by omega)
    rwa [show st.length - 1 - (i + 2) + 2 = st.length - 1 - i by omega, show st.length - 1 - (i + 2) + 1 = st.length - 1 - (i + 1) by omega] at this
  · simpa using g5 q hq
  · have := ht q hq
    simpa using this

section
variable {l : List (Int × Int)} {s : Nat → Int × Int} {k : Nat}
theorem lo_ang (h : Lo l s k) {i j : Nat} (hij : i < j) (hj : j < k) : 0 < vx (sb (s (i + 1)) (s i)) (sb (s (j + 1)) (s j)) := by
  induction j with
  | zero => omega
  | succ j ih =>
    have tj : 0 < vx (sb (s (j + 1)) (s j)) (sb (s (j + 2)) (s (j + 1))) := by
      have := h.turn j hj
      have e : dt (s j) (s (j + 1)) (s (j + 2)) = vx (sb (s (j + 1)) (s j)) (sb (s (j + 2)) (s (j + 1))) := by unfold dt det vx sb; simp only; grind
      omega
    rcases Nat.lt_or_ge i j with g | g
    · exact half_trans_lt (pos_nng (pos_sb.2 (h.up i (by omega)))) (pos_sb.2 (h.up j (by omega))) (pos_sb.2 (h.up (j + 1) hj)) (ih g (by omega)) (Int.le_of_lt tj)
    · obtain rfl : i = j := by omega
      exact tj
theorem lo_right (h : Lo l s k) {i : Nat} (m : Nat) (hm : i + 2 + m ≤ k) : 0 < dt (s i) (s (i + 1)) (s (i + 2 + m)) := by
  induction m with
  | zero => exact h.turn i (by omega)
  | succ m ih =>
    have a := ih (by omega)
    have b := lo_ang h (i := i) (j := i + 2 + m) (by omega) (by omega)
    have e : dt (s i) (s (i + 1)) (s (i + 2 + m + 1)) = dt (s i) (s (i + 1)) (s (i + 2 + m)) + vx (sb (s (i + 1)) (s i)) (sb (s (i + 2 + m + 1)) (s (i + 2 + m))) := by unfold dt det vx sb; simp only; grind
    rw [show i + 2 + (m + 1) = i + 2 + m + 1 by omega]
    omega
theorem lo_left (h : Lo l s k) {i : Nat} (hi : i < k) (m : Nat) (hm : m + 1 ≤ i) : 0 < dt (s i) (s (i + 1)) (s (i - 1 - m)) := by
  induction m with
  | zero =>
    have a := lo_ang h (i := i - 1) (j := i) (by omega) hi
    rw [show i - 1 + 1 = i by omega] at a
    have e : dt (s i) (s (i + 1)) (s (i - 1)) = vx (sb (s i) (s (i - 1))) (sb (s (i + 1)) (s i)) := by unfold dt det vx sb; simp only; grind
    rw [Nat.sub_zero]; omega
  | succ m ih =>
    have a := ih (by omega)
    have b := lo_ang h (i := i - 1 - (m + 1)) (j := i) (by omega) hi
    rw [show i - 1 - (m + 1) + 1 = i - 1 - m by omega] at b
    have e : dt (s i) (s (i + 1)) (s (i - 1 - (m + 1))) = dt (s i) (s (i + 1)) (s (i - 1 - m)) + vx (sb (s (i - 1 - m)) (s (i - 1 - (m + 1)))) (sb (s (i + 1)) (s i)) := by unfold dt det vx sb; simp only; grind
    omega
theorem lo_strict (h : Lo l s k) {i j : Nat} (hi : i < k) (hj : j ≤ k) (h1 : j ≠ i) (h2 : j ≠ i + 1) : 0 < dt (s i) (s (i + 1)) (s j) := by
  rcases Nat.lt_or_ge i j with g | g
  · have := lo_right h (i := i) (j - (i + 2)) (by omega)
    rwa [show i + 2 + (j - (i + 2)) = j by omega] at this
  · have := lo_left h hi (i - 1 - j) (by omega)
    rwa [show i - 1 - (i - 1 - j) = j by omega] at this
end

def ng (p : Int × Int) : Int × Int := (-p.1, -p.2)
theorem ng_ng (p : Int × Int) : ng (ng p) = p := by unfold ng; simp
theorem dt_ng (a b c : Int × Int) : dt (ng a) (ng b) (ng c) = dt a b c := by unfold dt det ng; grind
theorem lle_ng {a b : Int × Int} : lle (ng a) (ng b) ↔ lle b a := by unfold lle ng; simp only; omega
theorem llt_ng {a b : Int × Int} : llt (ng a) (ng b) ↔ llt b a := by unfold llt ng; simp only; omega
theorem ng_inj {a b : Int × Int} (h : ng a = ng b) : a = b := by rw [← ng_ng a, h, ng_ng]
/-- An upper half, from the largest point to the smallest. -/
def Up (l : List (Int × Int)) (u : Nat → Int × Int) (m : Nat) : Prop := Lo (l.map ng) (fun j => ng (u j)) m
theorem mem_ng {l : List (Int × Int)} {x : Int × Int} : ng x ∈ l.map ng ↔ x ∈ l := by
  rw [List.mem_map]
  exact ⟨fun ⟨y, hy, e⟩ => ng_inj e ▸ hy, fun h => ⟨x, h, rfl⟩⟩
section
variable {l : List (Int × Int)} {s u : Nat → Int × Int} {k m : Nat}
theorem Up.mem (h : Up l u m) {j : Nat} (hj : j ≤ m) : u j ∈ l := mem_ng.1 (Lo.mem h j hj)
theorem Up.down (h : Up l u m) {j : Nat} (hj : j < m) : llt (u (j + 1)) (u j) := llt_ng.1 (Lo.up h j hj)
theorem Up.weak (h : Up l u m) {j : Nat} (hj : j < m) {q : Int × Int} (hq : q ∈ l) : 0 ≤ dt (u j) (u (j + 1)) q := by
  have := Lo.weak h j hj (ng q) (mem_ng.2 hq)
  simpa only [dt_ng] using this
theorem Up.turn (h : Up l u m) {j : Nat} (hj : j + 1 < m) : 0 < dt (u j) (u (j + 1)) (u (j + 2)) := by
  have := Lo.turn h j hj
  simpa only [dt_ng] using this
theorem Up.strict (h : Up l u m) {i j : Nat} (hi : i < m) (hj : j ≤ m) (h1 : j ≠ i) (h2 : j ≠ i + 1) : 0 < dt (u i) (u (i + 1)) (u j) := by
  have := lo_strict h hi hj h1 h2
  simpa only [dt_ng] using this
theorem Up.neg (h : Lo l s k) : Up (l.map ng) (fun i => ng (s i)) k := by
  unfold Up
  have e : (l.map ng).map ng = l := by rw [List.map_map]; conv => rhs; rw [← List.map_id l]
                                       exact List.map_congr_left fun a _ => ng_ng a
  have e2 : (fun j => ng (ng (s j))) = s := funext fun j => ng_ng _
  rw [e]
  show Lo l (fun j => ng (ng (s j))) k
  rw [e2]; exact h
/-- A corner inside one half lies to the left of each edge of the other. -/
theorem touch (hL : Lo l s k) (hU : Up l u m) {i j : Nat} (hi : i < k) (hj0 : 0 < j) (hj : j < m) : 0 < dt (s i) (s (i + 1)) (u j) := by
  have h0 := hL.weak i hi (u j) (hU.mem (by omega))
  rcases Int.lt_or_eq_of_le h0 with g | g
  · exact g
  exfalso
  have a := hL.weak i hi (u (j + 1)) (hU.mem (by omega))
  have b := hL.weak i hi (u (j - 1)) (hU.mem (by omega))
  have c := hU.turn (j := j - 1) (by omega)
  have d1 := hU.down (j := j - 1) (by omega)
  have d2 := hU.down (j := j) (by omega)
  rw [show j - 1 + 1 = j by omega] at c d1
  rw [show j - 1 + 2 = j + 1 by omega] at c
  -- w: from the next corner to this; x: from this to the one before
  have p1 : 0 ≤ vx (sb (u j) (u (j + 1))) (sb (s (i + 1)) (s i)) := by
    have e : dt (s i) (s (i + 1)) (u (j + 1)) = dt (s i) (s (i + 1)) (u j) + vx (sb (u j) (u (j + 1))) (sb (s (i + 1)) (s i)) := by unfold dt det vx sb; simp only; grind
    omega
  have p2 : 0 ≤ vx (sb (s (i + 1)) (s i)) (sb (u (j - 1)) (u j)) := by
    have e : dt (s i) (s (i + 1)) (u (j - 1)) = dt (s i) (s (i + 1)) (u j) + vx (sb (s (i + 1)) (s i)) (sb (u (j - 1)) (u j)) := by unfold dt det vx sb; simp only; grind
    omega
  have p3 := half_trans (pos_nng (pos_sb.2 d2)) (pos_sb.2 (hL.up i hi)) (pos_nng (pos_sb.2 d1)) p1 p2
  have e : dt (u (j - 1)) (u j) (u (j + 1)) = -vx (sb (u j) (u (j + 1))) (sb (u (j - 1)) (u j)) := by unfold dt det vx sb; simp only; grind
  omega
theorem touch' (hL : Lo l s k) (hU : Up l u m) {i j : Nat} (hi0 : 0 < i) (hi : i < k) (hj : j < m) : 0 < dt (u j) (u (j + 1)) (s i) := by
  have := touch (l := l.map ng) (s := fun j => ng (u j)) (u := fun i => ng (s i)) (k := m) (m := k) hU (Up.neg hL) hj hi0 hi
  simpa only [dt_ng] using this

/-- The polygon. -/
def ring (s u : Nat → Int × Int) (k m : Nat) : List (Int × Int) := (List.range k).map s ++ (List.range m).map u
theorem ring_len : (ring s u k m).length = k + m := by simp [ring]
theorem ring_low {i : Nat} (hi : i < k) : gp (ring s u k m) i = s i := by
  unfold gp ring
  rw [List.getD_eq_getElem?_getD, List.getElem?_append_left (by simpa using hi)]
  simp [hi]
theorem ring_up {j : Nat} (hj : j < m) : gp (ring s u k m) (k + j) = u j := by
  unfold gp ring
  rw [List.getD_eq_getElem?_getD, List.getElem?_append_right (by simp)]
  simp [hj]
theorem ring_hull (hL : Lo l s k) (hU : Up l u m) (hk : 0 < k) (hm : 0 < m) (h3 : 3 ≤ k + m) (e1 : u 0 = s k) (e2 : u m = s 0) : IsHull l (ring s u k m) := by
  have hlen : (ring s u k m).length = k + m := ring_len
  -- the ends of the edges
  have E : ∀ i, i < k + m → (i < k ∧ gp (ring s u k m) i = s i ∧ gp (ring s u k m) (nx (k + m) i) = s (i + 1)) ∨ (k ≤ i ∧ gp (ring s u k m) i = u (i - k) ∧ gp (ring s u k m) (nx (k + m) i) = u (i - k + 1)) := fun i hi => by
    rcases Nat.lt_or_ge i k with g | g
    · refine .inl ⟨g, ring_low g, ?_⟩
      have hn : nx (k + m) i = i + 1 := nx_small (by omega)
      rw [hn]
      rcases Nat.lt_or_ge (i + 1) k with g2 | g2
      · exact ring_low g2
      · obtain rfl : i + 1 = k := by omega
        have := ring_up (s := s) (u := u) (k := i + 1) (j := 0) hm
        rw [Nat.add_zero] at this
        rw [this, e1]
    · refine .inr ⟨g, ?_, ?_⟩
      · have := ring_up (s := s) (u := u) (k := k) (m := m) (j := i - k) (by omega)
        rwa [show k + (i - k) = i by omega] at this
      · rcases Nat.lt_or_ge (i + 1) (k + m) with g2 | g2
        · rw [nx_small g2]
          have := ring_up (s := s) (u := u) (k := k) (m := m) (j := i - k + 1) (by omega)
          rwa [show k + (i - k + 1) = i + 1 by omega] at this
        · have : nx (k + m) i = 0 := by unfold nx; rw [show i + 1 = k + m by omega, Nat.mod_self]
          rw [this, ring_low hk, show i - k + 1 = m by omega, e2]
  refine ⟨⟨by rw [hlen]; exact h3, fun i j hi hj h1 h2 => ?_⟩, fun i hi => ?_, fun i hi q hq => ?_, fun i hi => ?_⟩
  · rw [hlen] at hi hj h2 ⊢
    rcases E i hi with ⟨g, a1, a2⟩ | ⟨g, a1, a2⟩
    · rw [a1, a2]
      have hn : nx (k + m) i = i + 1 := nx_small (by omega)
      rw [hn] at h2
      rcases Nat.lt_or_ge j (k + 1) with c | c
      · have ej : gp (ring s u k m) j = s j := by
          rcases Nat.lt_or_ge j k with d | d
          · exact ring_low d
          · obtain rfl : j = k := by omega
            have := ring_up (s := s) (u := u) (k := j) (j := 0) hm
            rw [Nat.add_zero] at this
            rw [this, e1]
        rw [ej]
        exact lo_strict hL g (by omega) h1 h2
      · have ej := ring_up (s := s) (u := u) (k := k) (m := m) (j := j - k) (by omega)
        rw [show k + (j - k) = j by omega] at ej
        rw [ej]
        exact touch hL hU g (by omega) (by omega)
    · rw [a1, a2]
      rcases Nat.lt_or_ge j k with c | c
      · rw [ring_low c]
        by_cases hj0 : j = 0
        · subst hj0
          rw [← e2]
          refine hU.strict (by omega) (Nat.le_refl _) (by omega) fun hm1 => h2 ?_
          unfold nx
          rw [show i + 1 = k + m by omega, Nat.mod_self]
        · exact touch' hL hU (by omega) c (by omega)
      · have ej := ring_up (s := s) (u := u) (k := k) (m := m) (j := j - k) (by omega)
        rw [show k + (j - k) = j by omega] at ej
        rw [ej]
        refine hU.strict (by omega) (by omega) (by omega) fun hm1 => h2 ?_
        rw [nx_small (by omega)]
        omega
  · rw [hlen] at hi
    rcases E i hi with ⟨g, a1, a2⟩ | ⟨g, a1, a2⟩
    · rw [a1]; exact hL.mem i (by omega)
    · rw [a1]; exact hU.mem (by omega)
  · rw [hlen] at hi ⊢
    rcases E i hi with ⟨g, a1, a2⟩ | ⟨g, a1, a2⟩
    · rw [a1, a2]; exact hL.weak i g q hq
    · rw [a1, a2]; exact hU.weak (by omega) hq
  · rw [hlen] at hi
    rw [ring_low hk]
    rcases E i hi with ⟨g, a1, a2⟩ | ⟨g, a1, a2⟩
    · rw [a1]; exact hL.low _ (hL.mem i (by omega))
    · rw [a1]; exact hL.low _ (hU.mem (by omega))
end
end Go.Proofs.YtalhkcmlacppjaaGreatDoor

