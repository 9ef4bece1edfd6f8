/- Convex hulls, mathematics alone: the two halves make a strictly convex polygon. -/
import Derived.Test.YtalhkcmlacppjaaDoorHuA
namespace Go.Proofs.YtalhkcmlacppjaaDoor
open Go.ChangeShapes Go.WideShapes Go.ChangeAt Go.RowKit
set_option linter.unusedVariables false
set_option linter.unusedSimpArgs false

def gp (h : List (Int × Int)) (i : Nat) : Int × Int := h.getD i (0, 0)
theorem gp_lt {h : List (Int × Int)} {i : Nat} (hi : i < h.length) : gp h i = h[i] := by simp [gp, List.getD_eq_getElem?_getD, List.getElem?_eq_getElem hi]
theorem gp_mem {h : List (Int × Int)} {i : Nat} (hi : i < h.length) : gp h i ∈ h := by rw [gp_lt hi]; exact List.getElem_mem hi
theorem mem_gp {h : List (Int × Int)} {x : Int × Int} (hx : x ∈ h) : ∃ i, i < h.length ∧ gp h i = x := by
  obtain ⟨i, hi, e⟩ := List.getElem_of_mem hx
  exact ⟨i, hi, by rw [gp_lt hi]; exact e⟩
theorem gp_ext {a b : List (Int × Int)} (hl : a.length = b.length) (h : ∀ i, i < a.length → gp a i = gp b i) : a = b := List.ext_getElem hl fun i h1 h2 => by
  have := h i h1
  rwa [gp_lt h1, gp_lt h2] at this

/-- A strictly convex polygon; a hull of l. -/
def Conv (h : List (Int × Int)) : Prop := 3 ≤ h.length ∧ ∀ i j, i < h.length → j < h.length → j ≠ i → j ≠ nx h.length i → 0 < dt (gp h i) (gp h (nx h.length i)) (gp h j)
def IsHull (l h : List (Int × Int)) : Prop := Conv h ∧ (∀ i, i < h.length → gp h i ∈ l) ∧ (∀ i, i < h.length → ∀ q ∈ l, 0 ≤ dt (gp h i) (gp h (nx h.length i)) q) ∧ ∀ i, i < h.length → lle (gp h 0) (gp h i)

/-- A lower half, from the smallest point to the largest. -/
structure Lo (l : List (Int × Int)) (s : Nat → Int × Int) (k : Nat) : Prop where
  mem : ∀ i, i ≤ k → s i ∈ l
  up : ∀ i, i < k → llt (s i) (s (i + 1))
  weak : ∀ i, i < k → ∀ q ∈ l, 0 ≤ dt (s i) (s (i + 1)) q
  turn : ∀ i, i + 1 < k → 0 < dt (s i) (s (i + 1)) (s (i + 2))
  low : ∀ q ∈ l, lle (s 0) q
  top : ∀ q ∈ l, lle q (s k)

theorem ch_idx : ∀ (st pre : List (Int × Int)), Ch pre st → (∀ i, i < st.length → gp st i ∈ pre) ∧ (∀ i, i + 1 < st.length → llt (gp st (i + 1)) (gp st i)) ∧ (∀ i, i + 1 < st.length → ∀ q ∈ pre, 0 ≤ dt (gp st (i + 1)) (gp st i) q) ∧
    (∀ i, i + 2 < st.length → 0 < dt (gp st (i + 2)) (gp st (i + 1)) (gp st i)) ∧ ∀ q ∈ pre, lle (gp st (st.length - 1)) q
  | [], pre, h => h.elim
  | [x], pre, h => ⟨fun i hi => by
      obtain rfl : i = 0 := by simpa using hi
      exact h.1, fun i hi => by simp at hi, fun i hi => by simp at hi, fun i hi => by simp at hi, h.2⟩
  | t :: s :: r, pre, h => by
    obtain ⟨⟨h1, h2, h3⟩, h4, h5⟩ := h
    obtain ⟨g1, g2, g3, g4, g5⟩ := ch_idx (s :: r) pre h5
    refine ⟨fun i hi => ?_, fun i hi => ?_, fun i hi => ?_, fun i hi => ?_, ?_⟩
    · match i, hi with
      | 0, _ => exact h1
      | i + 1, hi => exact g1 i (by simpa using hi)
    · match i, hi with
      | 0, _ => exact h2
      | i + 1, hi => exact g2 i (by simpa using hi)
    · match i, hi with
      | 0, _ => exact h3
      | i + 1, hi => exact g3 i (by simpa using hi)
    · match i, hi with
      | 0, hi =>
        cases r with
        | nil => simp at hi
        | cons u r' => exact h4 u rfl
      | i + 1, hi => exact g4 i (by simp at hi ⊢; omega)
    · have : gp (t :: s :: r) ((t :: s :: r).length - 1) = gp (s :: r) ((s :: r).length - 1) := by simp [gp]
      rw [this]; exact g5
theorem lo_of_ch {l st : List (Int × Int)} (h : Ch l st) (ht : ∀ q ∈ l, lle q (gp st 0)) : Lo l (fun i => gp st (st.length - 1 - i)) (st.length - 1) ∧ 0 < st.length := by
  have h0 : 0 < st.length := by
    cases st with
    | nil => exact h.elim
    | cons _ _ => simp
  obtain ⟨g1, g2, g3, g4, g5⟩ := ch_idx st l h
  refine ⟨⟨fun i hi => g1 _ (by omega), fun i hi => ?_, fun i hi q hq => ?_, fun i hi => ?_, fun q hq => ?_, fun q hq => ?_⟩, h0⟩
  · have := g2 (st.length - 1 - (i + 1)) (by omega)
    rwa [show st.length - 1 - (i + 1) + 1 = st.length - 1 - i by omega] at this
  · have := g3 (st.length - 1 - (i + 1)) (by omega) q hq
    rwa [show st.length - 1 - (i + 1) + 1 = st.length - 1 - i by omega] at this
  · have := g4 (st.length - 1 - (i + 2)) (by omega)
    rwa [show st.length - 1 - (i + 2) + 2 = st.length - 1 - i by omega, show st.length - 1 - (i + 2) + 1 = st.length - 1 - (i + 1) by omega] at this
  · simpa using g5 q hq
  · have := ht q hq
    simpa using this

/-! ### Strictness along a half -/
section
variable {l : List (Int × Int)} {s : Nat → Int × Int} {k : Nat}
theorem lo_lle (h : Lo l s k) {i j : Nat} (hij : i ≤ j) (hj : j ≤ k) : lle (s i) (s j) := by
  induction j with
  | zero => rw [show i = 0 by omega]; exact lle_refl _
  | succ j ih =>
    rcases Nat.lt_or_ge j i with g | g
    · rw [show i = j + 1 by omega]; exact lle_refl _
    · exact lle_trans (ih g (by omega)) (llt_lle (h.up j (by omega)))
theorem lo_llt (h : Lo l s k) {i j : Nat} (hij : i < j) (hj : j ≤ k) : llt (s i) (s j) := llt_trans (h.up i (by omega)) (lo_lle h hij hj)
theorem lo_ang (h : Lo l s k) {i j : Nat} (hij : i < j) (hj : j < k) : 0 < vx (sb (s (i + 1)) (s i)) (sb (s (j + 1)) (s j)) := by
  induction j with
  | zero => omega
  | succ j ih =>
    have tj : 0 < vx (sb (s (j + 1)) (s j)) (sb (s (j + 2)) (s (j + 1))) := by
      have := h.turn j hj
      have e : dt (s j) (s (j + 1)) (s (j + 2)) = vx (sb (s (j + 1)) (s j)) (sb (s (j + 2)) (s (j + 1))) := by unfold dt det vx sb; simp only; grind
      omega
    rcases Nat.lt_or_ge i j with g | g
    · exact half_trans_lt (pos_nng (pos_sb.2 (h.up i (by omega)))) (pos_sb.2 (h.up j (by omega))) (pos_sb.2 (h.up (j + 1) hj)) (ih g (by omega)) (Int.le_of_lt tj)
    · obtain rfl : i = j := by omega
      exact tj
theorem lo_right (h : Lo l s k) {i : Nat} (m : Nat) (hm : i + 2 + m ≤ k) : 0 < dt (s i) (s (i + 1)) (s (i + 2 + m)) := by
  induction m with
  | zero => exact h.turn i (by omega)
  | succ m ih =>
    have a := ih (by omega)
    have b := lo_ang h (i := i) (j := i + 2 + m) (by omega) (by omega)
    have e : dt (s i) (s (i + 1)) (s (i + 2 + m + 1)) = dt (s i) (s (i + 1)) (s (i + 2 + m)) + vx (sb (s (i + 1)) (s i)) (sb (s (i + 2 + m + 1)) (s (i + 2 + m))) := by unfold dt det vx sb; simp only; grind
    rw [show i + 2 + (m + 1) = i + 2 + m + 1 by omega]
    omega
theorem lo_left (h : Lo l s k) {i : Nat} (hi : i < k) (m : Nat) (hm : m + 1 ≤ i) : 0 < dt (s i) (s (i + 1)) (s (i - 1 - m)) := by
  induction m with
  | zero =>
    have a := lo_ang h (i := i - 1) (j := i) (by omega) hi
    rw [show i - 1 + 1 = i by omega] at a
    have e : dt (s i) (s (i + 1)) (s (i - 1)) = vx (sb (s i) (s (i - 1))) (sb (s (i + 1)) (s i)) := by unfold dt det vx sb; simp only; grind
    rw [Nat.sub_zero]; omega
  | succ m ih =>
    have a := ih (by omega)
    have b := lo_ang h (i := i - 1 - (m + 1)) (j := i) (by omega) hi
    rw [show i - 1 - (m + 1) + 1 = i - 1 - m by omega] at b
    have e : dt (s i) (s (i + 1)) (s (i - 1 - (m + 1))) = dt (s i) (s (i + 1)) (s (i - 1 - m)) + vx (sb (s (i - 1 - m)) (s (i - 1 - (m + 1)))) (sb (s (i + 1)) (s i)) := by unfold dt det vx sb; simp only; grind
    omega
theorem lo_strict (h : Lo l s k) {i j : Nat} (hi : i < k) (hj : j ≤ k) (h1 : j ≠ i) (h2 : j ≠ i + 1) : 0 < dt (s i) (s (i + 1)) (s j) := by
  rcases Nat.lt_or_ge i j with g | g
  · have := lo_right h (i := i) (j - (i + 2)) (by omega)
    rwa [show i + 2 + (j - (i + 2)) = j by omega] at this
  · have := lo_left h hi (i - 1 - j) (by omega)
    rwa [show i - 1 - (i - 1 - j) = j by omega] at this
end

/-! ### The two halves -/
def ng (p : Int × Int) : Int × Int := (-p.1, -p.2)
theorem ng_ng (p : Int × Int) : ng (ng p) = p := by unfold ng; simp
theorem dt_ng (a b c : Int × Int) : dt (ng a) (ng b) (ng c) = dt a b c := by unfold dt det ng; grind
theorem lle_ng {a b : Int × Int} : lle (ng a) (ng b) ↔ lle b a := by unfold lle ng; simp only; omega
theorem llt_ng {a b : Int × Int} : llt (ng a) (ng b) ↔ llt b a := by unfold llt ng; simp only; omega
theorem ng_inj {a b : Int × Int} (h : ng a = ng b) : a = b := by rw [← ng_ng a, h, ng_ng]
/-- An upper half, from the largest point to the smallest. -/
def Up (l : List (Int × Int)) (u : Nat → Int × Int) (m : Nat) : Prop := Lo (l.map ng) (fun j => ng (u j)) m
theorem mem_ng {l : List (Int × Int)} {x : Int × Int} : ng x ∈ l.map ng ↔ x ∈ l := by
  rw [List.mem_map]
  exact ⟨fun ⟨y, hy, e⟩ => ng_inj e ▸ hy, fun h => ⟨x, h, rfl⟩⟩
section
variable {l : List (Int × Int)} {s u : Nat → Int × Int} {k m : Nat}
theorem Up.mem (h : Up l u m) {j : Nat} (hj : j ≤ m) : u j ∈ l := mem_ng.1 (Lo.mem h j hj)
theorem Up.down (h : Up l u m) {j : Nat} (hj : j < m) : llt (u (j + 1)) (u j) := llt_ng.1 (Lo.up h j hj)
theorem Up.weak (h : Up l u m) {j : Nat} (hj : j < m) {q : Int × Int} (hq : q ∈ l) : 0 ≤ dt (u j) (u (j + 1)) q := by
  have := Lo.weak h j hj (ng q) (mem_ng.2 hq)
  simpa only [dt_ng] using this
theorem Up.turn (h : Up l u m) {j : Nat} (hj : j + 1 < m) : 0 < dt (u j) (u (j + 1)) (u (j + 2)) := by
  have := Lo.turn h j hj
  simpa only [dt_ng] using this
theorem Up.strict (h : Up l u m) {i j : Nat} (hi : i < m) (hj : j ≤ m) (h1 : j ≠ i) (h2 : j ≠ i + 1) : 0 < dt (u i) (u (i + 1)) (u j) := by
  have := lo_strict h hi hj h1 h2
  simpa only [dt_ng] using this
theorem Up.neg (h : Lo l s k) : Up (l.map ng) (fun i => ng (s i)) k := by
  unfold Up
  have e : (l.map ng).map ng = l := by rw [List.map_map]; conv => rhs; rw [← List.map_id l]
                                       exact List.map_congr_left fun a _ => ng_ng a
  have e2 : (fun j => ng (ng (s j))) = s := funext fun j => ng_ng _
  rw [e]
  show Lo l (fun j => ng (ng (s j))) k
  rw [e2]; exact h
/-- A corner inside one half lies to the left of each edge of the other. -/
theorem touch (hL : Lo l s k) (hU : Up l u m) {i j : Nat} (hi : i < k) (hj0 : 0 < j) (hj : j < m) : 0 < dt (s i) (s (i + 1)) (u j) := by
  have h0 := hL.weak i hi (u j) (hU.mem (by omega))
  rcases Int.lt_or_eq_of_le h0 with g | g
  · exact g
  exfalso
  have a := hL.weak i hi (u (j + 1)) (hU.mem (by omega))
  have b := hL.weak i hi (u (j - 1)) (hU.mem (by omega))
  have c := hU.turn (j := j - 1) (by omega)
  have d1 := hU.down (j := j - 1) (by omega)
  have d2 := hU.down (j := j) (by omega)
  rw [show j - 1 + 1 = j by omega] at c d1
  rw [show j - 1 + 2 = j + 1 by omega] at c
  -- w: from the next corner to this; x: from this to the one before
  have p1 : 0 ≤ vx (sb (u j) (u (j + 1))) (sb (s (i + 1)) (s i)) := by
    have e : dt (s i) (s (i + 1)) (u (j + 1)) = dt (s i) (s (i + 1)) (u j) + vx (sb (u j) (u (j + 1))) (sb (s (i + 1)) (s i)) := by unfold dt det vx sb; simp only; grind
    omega
  have p2 : 0 ≤ vx (sb (s (i + 1)) (s i)) (sb (u (j - 1)) (u j)) := by
    have e : dt (s i) (s (i + 1)) (u (j - 1)) = dt (s i) (s (i + 1)) (u j) + vx (sb (s (i + 1)) (s i)) (sb (u (j - 1)) (u j)) := by unfold dt det vx sb; simp only; grind
    omega
  have p3 := half_trans (pos_nng (pos_sb.2 d2)) (pos_sb.2 (hL.up i hi)) (pos_nng (pos_sb.2 d1)) p1 p2
  have e : dt (u (j - 1)) (u j) (u (j + 1)) = -vx (sb (u j) (u (j + 1))) (sb (u (j - 1)) (u j)) := by unfold dt det vx sb; simp only; grind
  omega
theorem touch' (hL : Lo l s k) (hU : Up l u m) {i j : Nat} (hi0 : 0 < i) (hi : i < k) (hj : j < m) : 0 < dt (u j) (u (j + 1)) (s i) := by
  have := touch (l := l.map ng) (s := fun j => ng (u j)) (u := fun i => ng (s i)) (k := m) (m := k) hU (Up.neg hL) hj hi0 hi
  simpa only [dt_ng] using this

/-- The polygon. -/
def ring (s u : Nat → Int × Int) (k m : Nat) : List (Int × Int) := (List.range k).map s ++ (List.range m).map u
theorem ring_len : (ring s u k m).length = k + m := by simp [ring]
theorem ring_low {i : Nat} (hi : i < k) : gp (ring s u k m) i = s i := by
  unfold gp ring
  rw [List.getD_eq_getElem?_getD, List.getElem?_append_left (by simpa using hi)]
  simp [hi]
theorem ring_up {j : Nat} (hj : j < m) : gp (ring s u k m) (k + j) = u j := by
  unfold gp ring
  rw [List.getD_eq_getElem?_getD, List.getElem?_append_right (by simp)]
  simp [hj]
theorem ring_hull (hL : Lo l s k) (hU : Up l u m) (hk : 0 < k) (hm : 0 < m) (h3 : 3 ≤ k + m) (e1 : u 0 = s k) (e2 : u m = s 0) : IsHull l (ring s u k m) := by
  have hlen : (ring s u k m).length = k + m := ring_len
  -- the ends of the edges
  have E : ∀ i, i < k + m → (i < k ∧ gp (ring s u k m) i = s i ∧ gp (ring s u k m) (nx (k + m) i) = s (i + 1)) ∨ (k ≤ i ∧ gp (ring s u k m) i = u (i - k) ∧ gp (ring s u k m) (nx (k + m) i) = u (i - k + 1)) := fun i hi => by
    rcases Nat.lt_or_ge i k with g | g
    · refine .inl ⟨g, ring_low g, ?_⟩
      have hn : nx (k + m) i = i + 1 := nx_small (by omega)
      rw [hn]
      rcases Nat.lt_or_ge (i + 1) k with g2 | g2
      · exact ring_low g2
      · obtain rfl : i + 1 = k := by omega
        have := ring_up (s := s) (u := u) (k := i + 1) (j := 0) hm
        rw [Nat.add_zero] at this
        rw [this, e1]
    · refine .inr ⟨g, ?_, ?_⟩
      · have := ring_up (s := s) (u := u) (k := k) (m := m) (j := i - k) (by omega)
        rwa [show k + (i - k) = i by omega] at this
      · rcases Nat.lt_or_ge (i + 1) (k + m) with g2 | g2
        · rw [nx_small g2]
          have := ring_up (s := s) (u := u) (k := k) (m := m) (j := i - k + 1) (by omega)
          rwa [show k + (i - k + 1) = i + 1 by omega] at this
        · have : nx (k + m) i = 0 := by unfold nx; rw [show i + 1 = k + m by omega, Nat.mod_self]
          rw [this, ring_low hk, show i - k + 1 = m by omega, e2]
  refine ⟨⟨by rw [hlen]; exact h3, fun i j hi hj h1 h2 => ?_⟩, fun i hi => ?_, fun i hi q hq => ?_, fun i hi => ?_⟩
  · rw [hlen] at hi hj h2 ⊢
    rcases E i hi with ⟨g, a1, a2⟩ | ⟨g, a1, a2⟩
    · rw [a1, a2]
      have hn : nx (k + m) i = i + 1 := nx_small (by omega)
      rw [hn] at h2
      rcases Nat.lt_or_ge j (k + 1) with c | c
      · have ej : gp (ring s u k m) j = s j := by
          rcases Nat.lt_or_ge j k with d | d
          · exact ring_low d
          · obtain rfl : j = k := by omega
            have := ring_up (s := s) (u := u) (k := j) (j := 0) hm
            rw [Nat.add_zero] at this
            rw [this, e1]
        rw [ej]
        exact lo_strict hL g (by omega) h1 h2
      · have ej := ring_up (s := s) (u := u) (k := k) (m := m) (j := j - k) (by omega)
        rw [show k + (j - k) = j by omega] at ej
        rw [ej]
        exact touch hL hU g (by omega) (by omega)
    · rw [a1, a2]
      rcases Nat.lt_or_ge j k with c | c
      · rw [ring_low c]
        by_cases hj0 : j = 0
        · subst hj0
          rw [← e2]
          refine hU.strict (by omega) (Nat.le_refl _) (by omega) fun hm1 => h2 ?_
          unfold nx
          rw [show i + 1 = k + m by omega, Nat.mod_self]
        · exact touch' hL hU (by omega) c (by omega)
      · have ej := ring_up (s := s) (u := u) (k := k) (m := m) (j := j - k) (by omega)
        rw [show k + (j - k) = j by omega] at ej
        rw [ej]
        refine hU.strict (by omega) (by omega) (by omega) fun hm1 => h2 ?_
        rw [nx_small (by omega)]
        omega
  · rw [hlen] at hi
    rcases E i hi with ⟨g, a1, a2⟩ | ⟨g, a1, a2⟩
    · rw [a1]; exact hL.mem i (by omega)
    · rw [a1]; exact hU.mem (by omega)
  · rw [hlen] at hi ⊢
    rcases E i hi with ⟨g, a1, a2⟩ | ⟨g, a1, a2⟩
    · rw [a1, a2]; exact hL.weak i g q hq
    · rw [a1, a2]; exact hU.weak (by omega) hq
  · rw [hlen] at hi
    rw [ring_low hk]
    rcases E i hi with ⟨g, a1, a2⟩ | ⟨g, a1, a2⟩
    · rw [a1]; exact hL.low _ (hL.mem i (by omega))
    · rw [a1]; exact hL.low _ (hU.mem (by omega))
end
end Go.Proofs.YtalhkcmlacppjaaDoor
