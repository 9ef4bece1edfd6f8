/- Plain mathematics of layer 3: corners lie on the boundary; what lies beyond all corners lies outside; a segment from inside to elsewhere meets an edge. -/
import Derived.Test.YthmcejeeohlafaaDoorPolP
namespace Go.Proofs.YthmcejeeohlafaaDoor
open Go.ChangeShapes Go.WideShapes Go.ChangeAt Go.RowKit
set_option linter.unusedVariables false
set_option linter.unusedSimpArgs false

theorem mnI_comm (a b : Int) : mnI a b = mnI b a := by unfold mnI; split <;> split <;> omega
theorem mxI_comm (a b : Int) : mxI a b = mxI b a := by unfold mxI; split <;> split <;> omega
theorem det_rev (a b c d p q : Int) : det c d a b p q = -det a b c d p q := by unfold det; grind
theorem ori_rev (a b c d p q : Int) : ori c d a b p q = -ori a b c d p q := by
  have h := det_rev a b c d p q
  unfold det at h
  unfold ori cmpI
  split <;> (try split) <;> (try split) <;> omega
theorem onB_rev (a b c d p q : Int) : onB c d a b p q = onB a b c d p q := by
  unfold onB
  rw [mnI_comm c a, mxI_comm c a, mnI_comm d b, mxI_comm d b, ori_rev]
  congr 1
  rw [Bool.eq_iff_iff, beq_iff_eq, beq_iff_eq]
  omega
theorem oppB_neg (u v : Int) : oppB (-u) (-v) = oppB u v := by unfold oppB; rw [Int.neg_mul_neg]
theorem oppB_comm (u v : Int) : oppB u v = oppB v u := by unfold oppB; rw [Int.mul_comm]
theorem segB_rev1 (a b c d p q r s : Int) : segB c d a b p q r s = segB a b c d p q r s := by
  unfold segB
  rw [onB_rev a b c d p q, onB_rev a b c d r s, ori_rev a b c d p q, ori_rev a b c d r s, oppB_neg, Bool.or_comm (onB p q r s c d), oppB_comm (ori p q r s c d)]
theorem segB_rev2 (a b c d p q r s : Int) : segB a b c d r s p q = segB a b c d p q r s := by
  rw [segB_comm a b c d r s p q, segB_rev1, segB_comm]

theorem flat_half {a b c d x1 y1 z : Int} (hb : b ≤ z) (hd : z < d) (h : segB a b c d x1 z y1 z = false) (h1 : 0 < det a b c d x1 z) (h2 : det a b c d y1 z < 0) : False := by
  obtain ⟨_, _, n3, _, nk⟩ := seg_no h
  have e : det a b c d x1 z - det a b c d y1 z = (y1 - x1) * (d - b) := by unfold det; grind
  have hxy : 0 < y1 - x1 := pos_of (y := d - b) (by omega) (by omega)
  have eA : det x1 z y1 z a b = (y1 - x1) * (b - z) := by unfold det; grind
  have eC : det x1 z y1 z c d = (y1 - x1) * (d - z) := by unfold det; grind
  have hC : 0 < det x1 z y1 z c d := by rw [eC]; exact pp hxy (by omega)
  rcases Int.lt_or_le b z with k | k
  · exact nk ⟨.inr ⟨h1, h2⟩, .inl ⟨by rw [eA]; exact pn hxy (by omega), hC⟩⟩
  · obtain rfl : b = z := by omega
    have g1 : det a b c d x1 b = (a - x1) * (d - b) := by unfold det; grind
    have g2 : det a b c d y1 b = (a - y1) * (d - b) := by unfold det; grind
    have w1 : 0 < a - x1 := pos_of (y := d - b) (by omega) (by rw [← g1]; exact h1)
    have w2 : a - y1 < 0 := neg_of (y := d - b) (by omega) (by rw [← g2]; exact h2)
    rw [on_of (by rw [eA, Int.sub_self, Int.mul_zero]) (by omega) (by omega)] at n3
    cases n3
theorem edge_flat {a b c d x1 y1 z : Int} (hbd : b ≤ d) (h : segB a b c d x1 z y1 z = false) : upB a b c d x1 z = upB a b c d y1 z := by
  unfold upB
  rw [ori_pos, ori_pos]
  by_cases b1 : b ≤ z
  · by_cases d1 : z < d
    · obtain ⟨n1, n2, _⟩ := seg_no h
      have g0 : det a b c d x1 z ≠ 0 := fun e => by rw [on_of e (between_of e (by omega) b1 (by omega)) (by omega)] at n1; cases n1
      have g1 : det a b c d y1 z ≠ 0 := fun e => by rw [on_of e (between_of e (by omega) b1 (by omega)) (by omega)] at n2; cases n2
      have h' : segB a b c d y1 z x1 z = false := by rw [segB_rev2]; exact h
      congr 1
      rw [decide_eq_decide]
      constructor
      · intro k
        rcases Int.lt_trichotomy (det a b c d y1 z) 0 with q | q | q
        · exact (flat_half b1 d1 h k q).elim
        · exact absurd q g1
        · exact q
      · intro k
        rcases Int.lt_trichotomy (det a b c d x1 z) 0 with q | q | q
        · exact (flat_half b1 d1 h' k q).elim
        · exact absurd q g0
        · exact q
    · rw [decide_eq_false d1, Bool.and_false, Bool.false_and, Bool.false_and]
  · rw [decide_eq_false b1, Bool.false_and, Bool.false_and, Bool.false_and]
theorem ray_key {a b c d x1 x2 y1 y2 : Int} (hxy : x2 < y2) (h : segB a b c d x1 x2 y1 y2 = false) :
    Bool.xor (rayB a b c d x1 x2) (rayB a b c d y1 y2) = Bool.xor (inQ x1 x2 y1 y2 a b) (inQ x1 x2 y1 y2 c d) := by
  unfold rayB
  split
  · rw [Bool.xor_comm (inQ x1 x2 y1 y2 a b)]
    exact edge_key (by omega) hxy (by rw [segB_rev1]; exact h)
  · exact edge_key (by omega) hxy h
theorem ray_flat {a b c d x1 y1 z : Int} (h : segB a b c d x1 z y1 z = false) : rayB a b c d x1 z = rayB a b c d y1 z := by
  unfold rayB
  split
  · exact edge_flat (by omega) (by rw [segB_rev1]; exact h)
  · exact edge_flat (by omega) h
theorem parE_xor (f g : Nat → Bool) : ∀ l, parE (fun i => Bool.xor (f i) (g i)) l = Bool.xor (parE f l) (parE g l)
  | [] => rfl
  | i :: l => by
    simp only [parE]
    rw [parE_xor f g l]
    cases f i <;> cases g i <;> cases parE f l <;> cases parE g l <;> rfl
/-- Does the segment from x to y meet no edge? -/
def Free2 (ps : List (Int × Int)) (x1 x2 y1 y2 : Int) : Prop := ∀ i, i < ps.length → segB (cx ps i) (cy ps i) (cx ps (nx ps.length i)) (cy ps (nx ps.length i)) x1 x2 y1 y2 = false
theorem par_up (ps : List (Int × Int)) (h0 : 0 < ps.length) {x1 x2 y1 y2 : Int} (hxy : x2 < y2) (h : Free2 ps x1 x2 y1 y2) : parE (rayE ps x1 x2) (List.range ps.length) = parE (rayE ps y1 y2) (List.range ps.length) := by
  have e : Bool.xor (parE (rayE ps x1 x2) (List.range ps.length)) (parE (rayE ps y1 y2) (List.range ps.length)) = Bool.xor (parE (fun i => inQ x1 x2 y1 y2 (cx ps i) (cy ps i)) (List.range ps.length)) (parE (fun i => (fun i => inQ x1 x2 y1 y2 (cx ps i) (cy ps i)) ((i + 1) % ps.length)) (List.range ps.length)) := by
    rw [← parE_xor, ← parE_xor]
    exact parE_congr fun i hi => ray_key hxy (h i (List.mem_range.1 hi))
  rw [parE_turn (fun i => inQ x1 x2 y1 y2 (cx ps i) (cy ps i)) ps.length 1 h0, Bool.xor_self] at e
  generalize parE (rayE ps x1 x2) (List.range ps.length) = u at *
  generalize parE (rayE ps y1 y2) (List.range ps.length) = v at *
  cases u <;> cases v <;> first | rfl | cases e
theorem par_any (ps : List (Int × Int)) (h0 : 0 < ps.length) {x1 x2 y1 y2 : Int} (h : Free2 ps x1 x2 y1 y2) : parE (rayE ps x1 x2) (List.range ps.length) = parE (rayE ps y1 y2) (List.range ps.length) := by
  rcases Int.lt_trichotomy x2 y2 with g | g | g
  · exact par_up ps h0 g h
  · subst g
    exact parE_congr fun i hi => ray_flat (h i (List.mem_range.1 hi))
  · exact (par_up ps h0 g (fun i hi => by rw [segB_rev2]; exact h i hi)).symm
theorem loc_one (ps : List (Int × Int)) (p q : Int) : locE ps p q = 1 ↔ (∀ i, i < ps.length → onE ps p q i = false) ∧ parE (rayE ps p q) (List.range ps.length) = true := by
  unfold locE
  rw [sideF_par]
  constructor
  · intro h
    split at h
    · omega
    · rename_i hn
      rw [Bool.not_eq_true, List.any_eq_false] at hn
      refine ⟨fun i hi => by simpa using hn i (List.mem_range.2 hi), ?_⟩
      split at h
      · assumption
      · omega
  · rintro ⟨h1, h2⟩
    rw [if_neg, if_pos h2]
    rw [Bool.not_eq_true, List.any_eq_false]
    exact fun i hi => by rw [h1 i (List.mem_range.1 hi)]; simp
/-- A segment from an interior point that meets no edge ends in the interior. -/
theorem loc_stays (ps : List (Int × Int)) (h0 : 0 < ps.length) {x1 x2 y1 y2 : Int} (h : Free2 ps x1 x2 y1 y2) (hx : locE ps x1 x2 = 1) : locE ps y1 y2 = 1 := by
  rw [loc_one] at hx ⊢
  refine ⟨fun i hi => ?_, by rw [← par_any ps h0 h]; exact hx.2⟩
  exact (seg_no (h i hi)).2.1
theorem on_corner (a b c d : Int) : onB a b c d a b = true := on_of (by unfold det; grind) (by omega) (by omega)
theorem loc_corner (ps : List (Int × Int)) {i : Nat} (hi : i < ps.length) : locE ps (cx ps i) (cy ps i) = 0 := by
  unfold locE
  rw [if_pos]
  rw [List.any_eq_true]
  exact ⟨i, List.mem_range.2 hi, on_corner _ _ _ _⟩
theorem up_above {a b c d p q : Int} (h : b < q ∧ d < q) : upB a b c d p q = false := by unfold upB; rw [decide_eq_false (show ¬ q < d by omega), Bool.and_false, Bool.false_and]
theorem up_right {a b c d p q : Int} (h : a < p ∧ c < p) : upB a b c d p q = false := by
  unfold upB
  by_cases k : b ≤ q ∧ q < d
  · rw [ori_pos, decide_eq_false (p := 0 < det a b c d p q), Bool.and_false]
    have e : det a b c d p q = (c - p) * (q - b) + (a - p) * (d - q) := by unfold det; grind
    have m1 : (c - p) * (q - b) ≤ 0 := nz (by omega) (by omega)
    have m2 : (a - p) * (d - q) < 0 := np (by omega) (by omega)
    omega
  · by_cases k1 : b ≤ q
    · rw [decide_eq_false (show ¬ q < d by omega), Bool.and_false, Bool.false_and]
    · rw [decide_eq_false k1, Bool.false_and, Bool.false_and]
theorem on_out {a b c d p q : Int} (h : (b < q ∧ d < q) ∨ (a < p ∧ c < p)) : onB a b c d p q = false := by
  have m2 := mxI_bd a c
  have m4 := mxI_bd b d
  unfold onB
  rcases h with h | h
  · rw [decide_eq_false (show ¬ q ≤ mxI b d by omega), Bool.and_false, Bool.false_and]
  · rw [decide_eq_false (show ¬ p ≤ mxI a c by omega), Bool.and_false, Bool.false_and, Bool.false_and, Bool.false_and]
/-- Above all corners, or to the right of all. -/
theorem loc_out (ps : List (Int × Int)) (p q : Int) (h : (∀ i, i < ps.length → cy ps i < q) ∨ (∀ i, i < ps.length → cx ps i < p)) : locE ps p q = -1 := by
  have hon : ∀ i, i < ps.length → onE ps p q i = false := fun i hi => by
    have hj := nx_lt' hi
    unfold onE
    rcases h with h | h
    · exact on_out (.inl ⟨h i hi, h _ hj⟩)
    · exact on_out (.inr ⟨h i hi, h _ hj⟩)
  have hray : ∀ i, i < ps.length → rayE ps p q i = false := fun i hi => by
    have hj := nx_lt' hi
    unfold rayE rayB
    rcases h with h | h
    · split
      · exact up_above ⟨h _ hj, h i hi⟩
      · exact up_above ⟨h i hi, h _ hj⟩
    · split
      · exact up_right ⟨h _ hj, h i hi⟩
      · exact up_right ⟨h i hi, h _ hj⟩
  have hz : ∀ l : List Nat, parE (fun _ => false) l = false := fun l => by
    induction l with
    | nil => rfl
    | cons i l ih => simp [parE, ih]
  unfold locE
  rw [if_neg, sideF_par, parE_congr (g := fun _ => false) (fun i hi => hray i (List.mem_range.1 hi)), hz]
  · rfl
  · rw [Bool.not_eq_true, List.any_eq_false]
    exact fun i hi => by rw [hon i (List.mem_range.1 hi)]; simp
end Go.Proofs.YthmcejeeohlafaaDoor
