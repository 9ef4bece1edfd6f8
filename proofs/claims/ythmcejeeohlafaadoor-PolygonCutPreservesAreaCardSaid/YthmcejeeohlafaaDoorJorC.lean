/- Winding numbers of polygons, part C: the value along an edge, and from an edge to the next. -/
import Derived.Test.YthmcejeeohlafaaDoorJorB
namespace Go.Proofs.YthmcejeeohlafaaDoor
open Go.ChangeShapes Go.WideShapes Go.ChangeAt Go.RowKit
set_option linter.unusedVariables false
set_option linter.unusedSimpArgs false

/-- A simple polygon: no angle is nought, and edges that are not neighbours do not meet. -/
def Simp (ps : List (Int × Int)) : Prop := 3 ≤ ps.length ∧ (∀ i, i < ps.length → Gd (cx ps i) (cy ps i) (cx ps (nx ps.length i)) (cy ps (nx ps.length i)) (cx ps (nx ps.length (nx ps.length i))) (cy ps (nx ps.length (nx ps.length i)))) ∧ ∀ i j, i < ps.length → j < ps.length → Apart ps.length i j → segE ps i j = false
theorem Simp.sc {ps : List (Int × Int)} (h : Simp ps) {N : Int} (hN : 0 < N) : Simp (scL N ps) := by
  obtain ⟨h1, h2, h3⟩ := h
  refine ⟨by rw [scL_len]; exact h1, fun i hi => ?_, fun i j hi hj hap => ?_⟩
  · rw [scL_len] at hi ⊢
    rw [(scL_at N ps i).1, (scL_at N ps i).2, (scL_at N ps _).1, (scL_at N ps _).2, (scL_at N ps _).1, (scL_at N ps _).2]
    exact (h2 i hi).sc hN
  · rw [scL_len] at hi hj hap
    unfold segE
    rw [scL_len, (scL_at N ps i).1, (scL_at N ps i).2, (scL_at N ps j).1, (scL_at N ps j).2, (scL_at N ps _).1, (scL_at N ps _).2, (scL_at N ps _).1, (scL_at N ps _).2, segB_sc hN]
    exact h3 i j hi hj hap
theorem simp_valid {ps : List (Int × Int)} (h : validP ps = true) : Simp ps := by
  unfold validP at h
  rw [Bool.and_eq_true, Bool.and_eq_true, Bool.and_eq_true] at h
  obtain ⟨h1, h2, h3, h4⟩ := h
  refine ⟨((validC_iff ps).1 h1).1, fun i hi => ?_, (simple_iff ps).1 h3⟩
  left
  intro e
  have := List.all_eq_true.1 h2 i (List.mem_range.2 hi)
  have k : (oriE ps i == 0) = true := by
    unfold oriE
    rw [ori_zero, e]
    rfl
  rw [beq_iff_eq] at k
  rw [k] at this
  simp at this
theorem Gd.symm {a1 a2 b1 b2 c1 c2 : Int} (h : Gd a1 a2 b1 b2 c1 c2) : Gd c1 c2 b1 b2 a1 a2 := by
  rcases h with h | h
  · left
    have : det c1 c2 b1 b2 a1 a2 = -det a1 a2 b1 b2 c1 c2 := by unfold det; grind
    omega
  · right
    have : (c1 - b1) * (a1 - b1) + (c2 - b2) * (a2 - b2) = (a1 - b1) * (c1 - b1) + (a2 - b2) * (c2 - b2) := by grind
    omega
theorem Gd.ne1 {a1 a2 b1 b2 c1 c2 : Int} (h : Gd a1 a2 b1 b2 c1 c2) : ¬ (a1 = b1 ∧ a2 = b2) := by
  rintro ⟨rfl, rfl⟩
  rcases h with h | h
  · exact h (by unfold det; grind)
  · simp at h
theorem nx_ne {n i : Nat} (hn : 2 ≤ n) (hi : i < n) : nx n i ≠ i := by
  unfold nx
  by_cases h : i + 1 < n
  · rw [Nat.mod_eq_of_lt h]; omega
  · rw [show i + 1 = n by omega, Nat.mod_self]; omega
theorem nx_inj {n i j : Nat} (hi : i < n) (hj : j < n) (h : nx n i = nx n j) : i = j := by
  unfold nx at h
  by_cases h1 : i + 1 < n <;> by_cases h2 : j + 1 < n
  · rw [Nat.mod_eq_of_lt h1, Nat.mod_eq_of_lt h2] at h; omega
  · rw [Nat.mod_eq_of_lt h1, show j + 1 = n by omega, Nat.mod_self] at h; omega
  · rw [show i + 1 = n by omega, Nat.mod_self, Nat.mod_eq_of_lt h2] at h; omega
  · omega
/-- Inside the edge e. -/
def InE (ps : List (Int × Int)) (e : Nat) (p q : Int) : Prop := onE ps p q e = true ∧ ¬ (p = cx ps e ∧ q = cy ps e) ∧ ¬ (p = cx ps (nx ps.length e) ∧ q = cy ps (nx ps.length e))
theorem wE_on {a b c d p q : Int} (h : onB a b c d p q = true) : wE a b c d p q = 0 := by
  have e := det_on h
  have e' : det c d a b p q = 0 := by rw [det_rev]; omega
  unfold wE upB
  rw [ori_pos, ori_pos, e, e']
  split <;> simp [bi]
theorem wEi_on {ps : List (Int × Int)} {p q : Int} {e : Nat} (h : onE ps p q e = true) : wEi ps p q e = 0 := wE_on h
theorem det_line {a b c d x1 x2 y1 y2 : Int} (hne : ¬ (a = c ∧ b = d)) (hx : onB a b c d x1 x2 = true) (hy : onB a b c d y1 y2 = true) : det x1 x2 y1 y2 a b = 0 ∧ det x1 x2 y1 y2 c d = 0 := by
  have e1 := (on_iff.1 hx).2.2
  have e2 := (on_iff.1 hy).2.2
  by_cases k : c - a = 0
  · have k' : d - b ≠ 0 := by omega
    have r1 : (d - b) * det x1 x2 y1 y2 a b = 0 := by
      unfold det
      have m1 : (b - x2) * ((d - b) * (y1 - a)) = (b - x2) * ((c - a) * (y2 - b)) := by rw [e2]
      have m2 : (y2 - b) * ((d - b) * (x1 - a)) = (y2 - b) * ((c - a) * (x2 - b)) := by rw [e1]
      grind
    have r2 : (d - b) * det x1 x2 y1 y2 c d = 0 := by
      unfold det
      have m1 : (d - x2) * ((d - b) * (y1 - a)) = (d - x2) * ((c - a) * (y2 - b)) := by rw [e2]
      have m2 : (y2 - d) * ((d - b) * (x1 - a)) = (y2 - d) * ((c - a) * (x2 - b)) := by rw [e1]
      grind
    have := Int.mul_eq_zero.1 r1
    have := Int.mul_eq_zero.1 r2
    omega
  · have r1 : (c - a) * det x1 x2 y1 y2 a b = 0 := by
      unfold det
      have m1 : (y1 - a) * ((c - a) * (x2 - b)) = (y1 - a) * ((d - b) * (x1 - a)) := by rw [e1]
      have m2 : (x1 - a) * ((c - a) * (y2 - b)) = (x1 - a) * ((d - b) * (y1 - a)) := by rw [e2]
      grind
    have r2 : (c - a) * det x1 x2 y1 y2 c d = 0 := by
      unfold det
      have m1 : (y1 - c) * ((c - a) * (x2 - b)) = (y1 - c) * ((d - b) * (x1 - a)) := by rw [e1]
      have m2 : (x1 - c) * ((c - a) * (y2 - b)) = (x1 - c) * ((d - b) * (y1 - a)) := by rw [e2]
      grind
    have := Int.mul_eq_zero.1 r1
    have := Int.mul_eq_zero.1 r2
    omega
theorem inQ_zero {x1 x2 y1 y2 p q : Int} (h : det x1 x2 y1 y2 p q = 0) : inQ x1 x2 y1 y2 p q = false := by
  unfold inQ
  rw [h]
  simp
/-- A segment inside an edge meets no other edge. -/
theorem edge_free {ps : List (Int × Int)} (hs : Simp ps) {e : Nat} (he : e < ps.length) {y1 y2 z1 z2 : Int} (hy : InE ps e y1 y2) (hz : InE ps e z1 z2) {g : Nat} (hg : g < ps.length) (hne : g ≠ e) :
    segB (cx ps g) (cy ps g) (cx ps (nx ps.length g)) (cy ps (nx ps.length g)) y1 y2 z1 z2 = false := by
  obtain ⟨h1, h2, h3⟩ := hs
  obtain ⟨a1, a2, a3⟩ := hy
  obtain ⟨b1, b2, b3⟩ := hz
  by_cases k1 : nx ps.length e = g
  · subst k1
    exact seg_adj (h2 e he) a1 b1 a3 b3
  · by_cases k2 : nx ps.length g = e
    · have hgd := (h2 g hg).symm
      rw [k2] at hgd ⊢
      rw [← segB_rev1]
      exact seg_adj hgd (by rw [onB_rev]; exact a1) (by rw [onB_rev]; exact b1) a2 b2
    · exact seg_mono a1 b1 (h3 g e hg he ⟨hne, k2, k1⟩)
theorem edge_nd {ps : List (Int × Int)} (hs : Simp ps) {e : Nat} (he : e < ps.length) : ¬ (cx ps e = cx ps (nx ps.length e) ∧ cy ps e = cy ps (nx ps.length e)) := (hs.2.1 e he).ne1
/-- Claim A: inside an edge the winding number is the same everywhere. -/
theorem along {ps : List (Int × Int)} (hs : Simp ps) {e : Nat} (he : e < ps.length) {y1 y2 z1 z2 : Int} (hy : InE ps e y1 y2) (hz : InE ps e z1 z2) : wnd ps y1 y2 = wnd ps z1 z2 := by
  have nd := edge_nd hs he
  have up : ∀ {y1 y2 z1 z2 : Int}, InE ps e y1 y2 → InE ps e z1 z2 → y2 < z2 → wnd ps y1 y2 = wnd ps z1 z2 := fun {y1 y2 z1 z2} hy hz h => by
    have k := wnd_one ps e he h (fun i hi hne => edge_free hs he hy hz hi hne)
    have d := det_line nd hy.1 hz.1
    rw [wEi_on hy.1, wEi_on hz.1, inQ_zero d.1, inQ_zero d.2] at k
    omega
  rcases Int.lt_trichotomy y2 z2 with h | h | h
  · exact up hy hz h
  · subst h
    have k := wnd_flat1 ps e he (fun i hi hne => edge_free hs he hy hz hi hne)
    rw [wEi_on hy.1, wEi_on hz.1] at k
    omega
  · exact (up hz hy h).symm

/-! ### From an edge to the next -/
theorem onE_sc {N : Int} (hN : 0 < N) (ps : List (Int × Int)) (p q : Int) (e : Nat) : onE (scL N ps) (N * p) (N * q) e = onE ps p q e := by
  unfold onE
  rw [scL_len, (scL_at N ps e).1, (scL_at N ps e).2, (scL_at N ps _).1, (scL_at N ps _).2, onB_sc hN]
theorem mul_ne {N x y : Int} (hN : 0 < N) (h : x ≠ y) : N * x ≠ N * y := fun e => h (Int.eq_of_mul_eq_mul_left (by omega) e)
theorem mul_ne2 {N x y p q : Int} (hN : 0 < N) (h : ¬ (p = x ∧ q = y)) : ¬ (N * p = N * x ∧ N * q = N * y) := fun ⟨e, f⟩ => h ⟨Int.eq_of_mul_eq_mul_left (by omega) e, Int.eq_of_mul_eq_mul_left (by omega) f⟩
theorem InE.sc {N : Int} (hN : 0 < N) {ps : List (Int × Int)} {e : Nat} {p q : Int} (h : InE ps e p q) : InE (scL N ps) e (N * p) (N * q) := by
  obtain ⟨a, b, c⟩ := h
  refine ⟨by rw [onE_sc hN]; exact a, ?_, ?_⟩
  · rw [(scL_at N ps e).1, (scL_at N ps e).2]; exact mul_ne2 hN b
  · rw [scL_len, (scL_at N ps _).1, (scL_at N ps _).2]; exact mul_ne2 hN c
/-- The value of an edge: the winding number at its middle. -/
def vE (ps : List (Int × Int)) (e : Nat) : Int := wnd (scL 2 ps) (cx ps e + cx ps (nx ps.length e)) (cy ps e + cy ps (nx ps.length e))
theorem mid_in {ps : List (Int × Int)} (hs : Simp ps) {e : Nat} (he : e < ps.length) : InE (scL 2 ps) e (cx ps e + cx ps (nx ps.length e)) (cy ps e + cy ps (nx ps.length e)) := by
  have nd := edge_nd hs he
  refine ⟨?_, ?_, ?_⟩
  · unfold onE
    rw [scL_len, (scL_at 2 ps e).1, (scL_at 2 ps e).2, (scL_at 2 ps _).1, (scL_at 2 ps _).2]
    exact on_mid (by omega) (by omega)
  · rw [(scL_at 2 ps e).1, (scL_at 2 ps e).2]; omega
  · rw [scL_len, (scL_at 2 ps _).1, (scL_at 2 ps _).2]; omega
/-- At every scale, inside edge e, the winding number is the edge's value. -/
theorem at_edge {ps : List (Int × Int)} (hs : Simp ps) {e : Nat} (he : e < ps.length) {N : Int} (hN : 0 < N) {p q : Int} (h : InE (scL N ps) e p q) : wnd (scL N ps) p q = vE ps e := by
  have k := along ((hs.sc hN).sc (N := 2) (by omega)) (e := e) (by rw [scL_len, scL_len]; exact he) (h.sc (N := 2) (by omega)) (z1 := N * (cx ps e + cx ps (nx ps.length e))) (z2 := N * (cy ps e + cy ps (nx ps.length e))) (by
    have := (mid_in hs he).sc hN
    rw [scL_scL] at this ⊢
    rwa [Int.mul_comm 2 N])
  rw [wnd_sc (by omega)] at k
  rw [k, scL_scL, Int.mul_comm 2 N, ← scL_scL, wnd_sc hN]
  rfl
theorem ex_all {P : Nat → Prop} {R : Nat → Int → Prop} : ∀ n : Nat, (∀ i, i < n → P i → ∃ N0 : Int, ∀ N, N0 ≤ N → 0 < N → R i N) → ∃ N0 : Int, ∀ N, N0 ≤ N → 0 < N → ∀ i, i < n → P i → R i N
  | 0, _ => ⟨0, fun _ _ _ i h => by omega⟩
  | n + 1, h => by
    obtain ⟨M, hM⟩ := ex_all n (fun i hi => h i (by omega))
    by_cases hp : P n
    · obtain ⟨L, hL⟩ := h n (by omega) hp
      refine ⟨mxI M L, fun N hN h0 i hi hpi => ?_⟩
      have b := (mxI_bd M L).1
      by_cases e : i = n
      · subst e; exact hL N (by omega) h0
      · exact hM N (by omega) h0 i (by omega) hpi
    · exact ⟨M, fun N hN h0 i hi hpi => by
        by_cases e : i = n
        · subst e; exact absurd hpi hp
        · exact hM N hN h0 i (by omega) hpi⟩
/-- A corner lies on no edge but its own two. -/
theorem corner_off {ps : List (Int × Int)} (hs : Simp ps) {e : Nat} (he : e < ps.length) {g : Nat} (hg : g < ps.length) (h1 : g ≠ e) (h2 : g ≠ nx ps.length e) : onE ps (cx ps (nx ps.length e)) (cy ps (nx ps.length e)) g = false := by
  cases k : onE ps (cx ps (nx ps.length e)) (cy ps (nx ps.length e)) g with
  | false => rfl
  | true =>
    exfalso
    by_cases k2 : nx ps.length g = e
    · have gd := hs.2.1 g hg
      have k' := k
      unfold onE at k'
      rw [k2] at gd k'
      obtain ⟨e1, e2⟩ := adj_pt gd k' on_last
      exact edge_nd hs he ⟨e1.symm, e2.symm⟩
    · have := hs.2.2 g e hg he ⟨h1, k2, fun q => h2 q.symm⟩
      unfold segE at this
      rw [seg_common k on_last] at this
      cases this
/-- Does the edge go down, or to the right? -/
def dnE (a b c d : Int) : Int := if d < b ∨ (b = d ∧ a < c) then 1 else 0
def dnEi (ps : List (Int × Int)) (i : Nat) : Int := dnE (cx ps i) (cy ps i) (cx ps (nx ps.length i)) (cy ps (nx ps.length i))
end Go.Proofs.YthmcejeeohlafaaDoor
