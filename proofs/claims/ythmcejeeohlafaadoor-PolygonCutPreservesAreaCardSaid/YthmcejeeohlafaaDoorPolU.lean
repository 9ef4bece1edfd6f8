/- Plain mathematics of layer 3: turning a polygon by an exact rotation changes neither validity nor area nor location. -/
import Derived.Test.YthmcejeeohlafaaDoorPolT
import Derived.Test.YthmcejeeohlafaaDoorGeoM
namespace Go.Proofs.YthmcejeeohlafaaDoor
open Go.ChangeShapes Go.WideShapes Go.ChangeAt Go.RowKit
set_option linter.unusedVariables false
set_option linter.unusedSimpArgs false

/-- Is the point (a, b), seen from the origin, to the left of the direction (u, v)? -/
def hiB (u v a b : Int) : Bool := decide (0 < u * b - v * a)
/-- Does the segment from (a, b) to (c, d) cross the ray from the origin in direction (u, v)? -/
def rdB (u v a b c d : Int) : Bool := (hiB u v a b != hiB u v c d) && (if hiB u v c d then decide (0 < a * d - b * c) else decide (a * d - b * c < 0))
def coB (u v x y a b : Int) : Bool := hiB u v a b && !hiB x y a b
theorem sgn_facts (x y : Int) : (0 < x ∧ 0 < y ∧ 0 < x * y) ∨ (0 < x ∧ y ≤ 0 ∧ x * y ≤ 0) ∨ (x ≤ 0 ∧ 0 < y ∧ x * y ≤ 0) ∨ (x ≤ 0 ∧ y ≤ 0 ∧ 0 ≤ x * y) := by
  rcases Int.lt_or_le 0 x with h | h
  · rcases Int.lt_or_le 0 y with k | k
    · exact .inl ⟨h, k, pp h k⟩
    · exact .inr (.inl ⟨h, k, Int.mul_nonpos_of_nonneg_of_nonpos (by omega) k⟩)
  · rcases Int.lt_or_le 0 y with k | k
    · exact .inr (.inr (.inl ⟨h, k, Int.mul_nonpos_of_nonpos_of_nonneg h (by omega)⟩))
    · exact .inr (.inr (.inr ⟨h, k, Int.mul_nonneg_of_nonpos_of_nonpos h k⟩))
theorem rd_abs {fP fQ gP gQ D K : Int} (e : fP * gQ - fQ * gP = K * D) (hK : 0 < K) (hD : D ≠ 0) :
    Bool.xor ((decide (0 < fP) != decide (0 < fQ)) && (if decide (0 < fQ) then decide (0 < D) else decide (D < 0))) ((decide (0 < gP) != decide (0 < gQ)) && (if decide (0 < gQ) then decide (0 < D) else decide (D < 0))) = Bool.xor (decide (0 < fP) && !decide (0 < gP)) (decide (0 < fQ) && !decide (0 < gQ)) := by
  have s1 := sgn_facts fP gQ
  have s2 := sgn_facts fQ gP
  have s3 : (0 < D ∧ 0 < K * D) ∨ (D < 0 ∧ K * D < 0) := by
    rcases Int.lt_trichotomy D 0 with h | h | h
    · exact .inr ⟨h, pn hK h⟩
    · exact absurd h hD
    · exact .inl ⟨h, pp hK h⟩
  generalize fP * gQ = m1 at *
  generalize fQ * gP = m2 at *
  generalize K * D = m3 at *
  by_cases h1 : 0 < fP <;> by_cases h2 : 0 < fQ <;> by_cases h3 : 0 < gP <;> by_cases h4 : 0 < gQ <;> simp [h1, h2, h3, h4] <;> first | omega | (rw [decide_eq_decide]; omega) | skip
theorem hi_par {u v a b c d : Int} (h0 : a * d - b * c = 0) (hd : 0 < a * c + b * d) : hiB u v a b = hiB u v c d := by
  unfold hiB
  rw [decide_eq_decide]
  have e : (u * b - v * a) * (c * c + d * d) = (u * d - v * c) * (a * c + b * d) - (a * d - b * c) * (u * c + v * d) := by grind
  rw [h0, Int.zero_mul, Int.sub_zero] at e
  have hn : 0 < c * c + d * d := by
    have q1 := sq_nn c
    have q2 := sq_nn d
    by_cases hc : c = 0
    · by_cases hdd : d = 0
      · subst hc hdd; simp at hd
      · have := sq_pos hdd; omega
    · have := sq_pos hc; omega
  generalize c * c + d * d = N at *
  generalize a * c + b * d = M at *
  constructor
  · intro h
    have := pp h hn
    exact pos_of hd (by omega)
  · intro h
    have := pp h hd
    exact pos_of hn (by omega)
theorem rd_key {u v x y a b c d : Int} (hK : 0 < u * y - v * x) (hon : ¬ (a * d - b * c = 0 ∧ a * c + b * d ≤ 0)) :
    Bool.xor (rdB u v a b c d) (rdB x y a b c d) = Bool.xor (coB u v x y a b) (coB u v x y c d) := by
  by_cases hD : a * d - b * c = 0
  · have hd : 0 < a * c + b * d := by omega
    unfold rdB coB
    rw [hi_par (u := u) (v := v) hD hd, hi_par (u := x) (v := y) hD hd]
    simp
  · unfold rdB coB hiB
    exact rd_abs (K := u * y - v * x) (by grind) hK hD
def relE (ps : List (Int × Int)) (p q u v : Int) (i : Nat) : Bool := rdB u v (cx ps i - p) (cy ps i - q) (cx ps (nx ps.length i) - p) (cy ps (nx ps.length i) - q)
theorem on_dot2 {a b c d p q : Int} : onB a b c d p q = ((ori a b c d p q == 0) && decide (0 ≤ (p - a) * (c - p) + (q - b) * (d - q))) := by
  rw [on_dot]
  by_cases h : 0 ≤ (p - a) * (c - p) + (q - b) * (d - q)
  · have : (decide (¬ (a = c ∧ b = d)) || decide (p = a ∧ q = b)) = true := by
      by_cases g : a = c ∧ b = d
      · obtain ⟨rfl, rfl⟩ := g
        have e1 : (p - a) * (a - p) = -((p - a) * (p - a)) := by grind
        have e2 : (q - b) * (b - q) = -((q - b) * (q - b)) := by grind
        have q1 := sq_nn (p - a)
        have q2 := sq_nn (q - b)
        have k1 : p = a := by
          by_cases k : p - a = 0
          · omega
          · have := sq_pos k; omega
        have k2 : q = b := by
          by_cases k : q - b = 0
          · omega
          · have := sq_pos k; omega
        rw [decide_eq_true (p := p = a ∧ q = b) ⟨k1, k2⟩, Bool.or_true]
      · rw [decide_eq_true g, Bool.true_or]
    rw [this, Bool.and_true]
  · rw [decide_eq_false h]; simp
theorem not_on {a b c d p q : Int} (h : onB a b c d p q = false) : ¬ ((a - p) * (d - q) - (b - q) * (c - p) = 0 ∧ (a - p) * (c - p) + (b - q) * (d - q) ≤ 0) := by
  intro ⟨h0, h1⟩
  rw [on_dot2, ori_zero, decide_eq_true (show det a b c d p q = 0 by rw [← h0]; unfold det; grind), decide_eq_true (show 0 ≤ (p - a) * (c - p) + (q - b) * (d - q) by
    have : (p - a) * (c - p) + (q - b) * (d - q) = -((a - p) * (c - p) + (b - q) * (d - q)) := by grind
    omega)] at h
  cases h
theorem ray_rd (a b c d p q : Int) : rayB a b c d p q = rdB 1 0 (a - p) (b - q) (c - p) (d - q) := by
  unfold rayB rdB hiB upB
  rw [ori_pos, ori_pos, det_rev, show det a b c d p q = (a - p) * (d - q) - (b - q) * (c - p) by unfold det; grind]
  generalize (a - p) * (d - q) - (b - q) * (c - p) = D
  rw [Bool.eq_iff_iff]
  by_cases h : d < b
  · rw [if_pos h]
    by_cases h1 : q < b <;> by_cases h2 : q < d <;> simp [h1, h2, show (0 < b - q) = (q < b) by apply propext; omega, show (0 < d - q) = (q < d) by apply propext; omega] <;> omega
  · rw [if_neg h]
    by_cases h1 : q < b <;> by_cases h2 : q < d <;> simp [h1, h2, show (0 < b - q) = (q < b) by apply propext; omega, show (0 < d - q) = (q < d) by apply propext; omega] <;> omega
theorem dir_up (ps : List (Int × Int)) (h0 : 0 < ps.length) {p q u v x y : Int} (hK : 0 < u * y - v * x) (h : ∀ i, i < ps.length → onE ps p q i = false) : parE (relE ps p q u v) (List.range ps.length) = parE (relE ps p q x y) (List.range ps.length) := by
  have e : Bool.xor (parE (relE ps p q u v) (List.range ps.length)) (parE (relE ps p q x y) (List.range ps.length)) = Bool.xor (parE (fun i => coB u v x y (cx ps i - p) (cy ps i - q)) (List.range ps.length)) (parE (fun i => (fun i => coB u v x y (cx ps i - p) (cy ps i - q)) ((i + 1) % ps.length)) (List.range ps.length)) := by
    rw [← parE_xor, ← parE_xor]
    exact parE_congr fun i hi => rd_key hK (not_on (h i (List.mem_range.1 hi)))
  rw [parE_turn (fun i => coB u v x y (cx ps i - p) (cy ps i - q)) ps.length 1 h0, Bool.xor_self] at e
  generalize parE (relE ps p q u v) (List.range ps.length) = s at *
  generalize parE (relE ps p q x y) (List.range ps.length) = t at *
  cases s <;> cases t <;> first | rfl | cases e
theorem dir_any (ps : List (Int × Int)) (h0 : 0 < ps.length) {p q c s : Int} (hcs : c * c + s * s = 4225) (h : ∀ i, i < ps.length → onE ps p q i = false) : parE (relE ps p q 1 0) (List.range ps.length) = parE (relE ps p q c (-s)) (List.range ps.length) := by
  rcases Int.lt_trichotomy s 0 with g | g | g
  · exact dir_up ps h0 (by omega) h
  · subst g
    rcases Int.lt_or_le c 0 with k | k
    · exact (dir_up ps h0 (u := 1) (v := 0) (x := 0) (y := 1) (by omega) h).trans (dir_up ps h0 (by omega) h)
    · have hc : 0 < c := by
        rcases Int.lt_or_eq_of_le k with k | k
        · exact k
        · subst k; simp at hcs
      refine parE_congr fun i _ => ?_
      have e : ∀ a b : Int, hiB c (-0) a b = hiB 1 0 a b := fun a b => by
        unfold hiB
        rw [decide_eq_decide, show c * b - -0 * a = b * c by grind, show (1 : Int) * b - 0 * a = b by omega]
        exact ⟨pos_of hc, fun h => pp h hc⟩
      unfold relE rdB
      rw [e, e]
  · exact (dir_up ps h0 (by omega) h).symm
/-- (A, B) is (x, y) turned. -/
def Tn (c s x y A B : Int) : Prop := x * c - y * s = 65 * A ∧ x * s + y * c = 65 * B
theorem tn_sub {c s x y A B x' y' A' B' : Int} (h : Tn c s x y A B) (h' : Tn c s x' y' A' B') : Tn c s (x - x') (y - y') (A - A') (B - B') := by
  obtain ⟨a, b⟩ := h
  obtain ⟨a', b'⟩ := h'
  constructor
  · rw [Int.sub_mul, Int.sub_mul]; omega
  · rw [Int.sub_mul, Int.sub_mul]; omega
theorem tn_cross {c s x y A B x' y' A' B' : Int} (hcs : c * c + s * s = 4225) (h : Tn c s x y A B) (h' : Tn c s x' y' A' B') : A * B' - B * A' = x * y' - y * x' := by
  obtain ⟨a, b⟩ := h
  obtain ⟨a', b'⟩ := h'
  have e : 4225 * (A * B' - B * A') = (65 * A) * (65 * B') - (65 * B) * (65 * A') := by grind
  rw [← a, ← b, ← a', ← b'] at e
  have e2 : (x * c - y * s) * (x' * s + y' * c) - (x * s + y * c) * (x' * c - y' * s) = (c * c + s * s) * (x * y' - y * x') := by grind
  rw [e2, hcs] at e
  omega
theorem tn_dot {c s x y A B x' y' A' B' : Int} (hcs : c * c + s * s = 4225) (h : Tn c s x y A B) (h' : Tn c s x' y' A' B') : A * A' + B * B' = x * x' + y * y' := by
  obtain ⟨a, b⟩ := h
  obtain ⟨a', b'⟩ := h'
  have e : 4225 * (A * A' + B * B') = (65 * A) * (65 * A') + (65 * B) * (65 * B') := by grind
  rw [← a, ← b, ← a', ← b'] at e
  have e2 : (x * c - y * s) * (x' * c - y' * s) + (x * s + y * c) * (x' * s + y' * c) = (c * c + s * s) * (x * x' + y * y') := by grind
  rw [e2, hcs] at e
  omega
/-- The whole polygon, turned. -/
theorem tnL_nx {c s : Int} {ps us : List (Int × Int)} (hl : us.length = ps.length) (h : ∀ i, i < ps.length → Tn c s (cx ps i) (cy ps i) (cx us i) (cy us i)) {i : Nat} (hi : i < ps.length) : Tn c s (cx ps (nx ps.length i)) (cy ps (nx ps.length i)) (cx us (nx us.length i)) (cy us (nx us.length i)) := by
  rw [hl]; exact h _ (nx_lt' hi)
section
variable {c s : Int} (hcs : c * c + s * s = 4225)
include hcs
theorem ori_tn {x1 y1 A1 B1 x2 y2 A2 B2 x3 y3 A3 B3 : Int} (h1 : Tn c s x1 y1 A1 B1) (h2 : Tn c s x2 y2 A2 B2) (h3 : Tn c s x3 y3 A3 B3) : ori A1 B1 A2 B2 A3 B3 = ori x1 y1 x2 y2 x3 y3 := by
  unfold ori
  exact cmpI_same (tn_cross hcs (tn_sub h2 h1) (tn_sub h3 h1))
theorem onB_tn {x1 y1 A1 B1 x2 y2 A2 B2 x3 y3 A3 B3 : Int} (h1 : Tn c s x1 y1 A1 B1) (h2 : Tn c s x2 y2 A2 B2) (h3 : Tn c s x3 y3 A3 B3) : onB A1 B1 A2 B2 A3 B3 = onB x1 y1 x2 y2 x3 y3 := by
  rw [on_dot2, on_dot2, ori_tn hcs h1 h2 h3, tn_dot hcs (tn_sub h3 h1) (tn_sub h2 h3)]
theorem segB_tn {x1 y1 A1 B1 x2 y2 A2 B2 x3 y3 A3 B3 x4 y4 A4 B4 : Int} (h1 : Tn c s x1 y1 A1 B1) (h2 : Tn c s x2 y2 A2 B2) (h3 : Tn c s x3 y3 A3 B3) (h4 : Tn c s x4 y4 A4 B4) : segB A1 B1 A2 B2 A3 B3 A4 B4 = segB x1 y1 x2 y2 x3 y3 x4 y4 := by
  unfold segB
  rw [onB_tn hcs h1 h2 h3, onB_tn hcs h1 h2 h4, onB_tn hcs h3 h4 h1, onB_tn hcs h3 h4 h2, ori_tn hcs h1 h2 h3, ori_tn hcs h1 h2 h4, ori_tn hcs h3 h4 h1, ori_tn hcs h3 h4 h2]
theorem ray_tn {x1 y1 A1 B1 x2 y2 A2 B2 x3 y3 A3 B3 : Int} (h1 : Tn c s x1 y1 A1 B1) (h2 : Tn c s x2 y2 A2 B2) (h3 : Tn c s x3 y3 A3 B3) : rayB A1 B1 A2 B2 A3 B3 = rdB c (-s) (x1 - x3) (y1 - y3) (x2 - x3) (y2 - y3) := by
  rw [ray_rd]
  have g1 := tn_sub h1 h3
  have g2 := tn_sub h2 h3
  have e : ∀ {a b U V : Int}, Tn c s a b U V → hiB 1 0 U V = hiB c (-s) a b := fun {a b U V} h => by
    unfold hiB
    rw [decide_eq_decide, show (1 : Int) * V - 0 * U = V by omega, show c * b - -s * a = a * s + b * c by grind, h.2]
    omega
  unfold rdB
  rw [e g1, e g2, tn_cross hcs g1 g2]
theorem tnL_area {ps us : List (Int × Int)} (hl : us.length = ps.length) (h : ∀ i, i < ps.length → Tn c s (cx ps i) (cy ps i) (cx us i) (cy us i)) : area2 us = area2 ps := by
  unfold area2
  rw [hl]
  exact sumE_congr fun i hi => by
    have hi := List.mem_range.1 hi
    unfold crossE
    exact tn_cross hcs (h i hi) (tnL_nx hl h hi)
theorem tnL_bends {ps us : List (Int × Int)} (hl : us.length = ps.length) (h : ∀ i, i < ps.length → Tn c s (cx ps i) (cy ps i) (cx us i) (cy us i)) : bendsB us = bendsB ps := by
  unfold bendsB
  rw [hl]
  exact all_congr fun i hi => by
    unfold oriE
    rw [hl, ori_tn hcs (h i hi) (h _ (nx_lt' hi)) (h _ (nx_lt' (nx_lt' hi)))]
theorem tnL_simple {ps us : List (Int × Int)} (hl : us.length = ps.length) (h : ∀ i, i < ps.length → Tn c s (cx ps i) (cy ps i) (cx us i) (cy us i)) : simpleB us = simpleB ps := by
  unfold simpleB
  rw [hl]
  exact all_congr fun i hi => all_congr fun j hj => by
    unfold meetB segE
    rw [hl, segB_tn hcs (h i hi) (h _ (nx_lt' hi)) (h j hj) (h _ (nx_lt' hj))]
theorem tnL_loc {ps us : List (Int × Int)} (h0 : 0 < ps.length) (hl : us.length = ps.length) (h : ∀ i, i < ps.length → Tn c s (cx ps i) (cy ps i) (cx us i) (cy us i)) {x y A B : Int} (hx : Tn c s x y A B) : locE us A B = locE ps x y := by
  have e1 : (List.range us.length).any (onE us A B) = (List.range ps.length).any (onE ps x y) := by
    rw [hl]
    exact any_congr fun i hi => by
      unfold onE
      rw [onB_tn hcs (h i hi) (tnL_nx hl h hi) hx]
  unfold locE
  rw [e1]
  by_cases ho : (List.range ps.length).any (onE ps x y) = true
  · rw [if_pos ho, if_pos ho]
  · rw [if_neg ho, if_neg ho, sideF_par, sideF_par]
    rw [Bool.not_eq_true, List.any_eq_false] at ho
    have hon : ∀ i, i < ps.length → onE ps x y i = false := fun i hi => by simpa using ho i (List.mem_range.2 hi)
    have e2 : parE (rayE us A B) (List.range us.length) = parE (relE ps x y c (-s)) (List.range ps.length) := by
      rw [hl]
      exact parE_congr fun i hi => by
        have hi := List.mem_range.1 hi
        unfold rayE relE
        exact ray_tn hcs (h i hi) (tnL_nx hl h hi) hx
    have e3 : parE (rayE ps x y) (List.range ps.length) = parE (relE ps x y 1 0) (List.range ps.length) := parE_congr fun i hi => by
      unfold rayE relE
      exact ray_rd _ _ _ _ _ _
    rw [e2, e3, dir_any ps h0 hcs hon]
end
theorem tn_bd {c s x y A B : Int} (hc : -65 ≤ c ∧ c ≤ 65) (hs : -65 ≤ s ∧ s ≤ 65) {M : Int} (hx : -M ≤ x ∧ x ≤ M) (hy : -M ≤ y ∧ y ≤ M) (h : Tn c s x y A B) : (-(2 * M) ≤ A ∧ A ≤ 2 * M) ∧ -(2 * M) ≤ B ∧ B ≤ 2 * M := by
  obtain ⟨a, b⟩ := h
  have m1 := mul_bd hx hc
  have m2 := mul_bd hy hs
  have m3 := mul_bd hx hs
  have m4 := mul_bd hy hc
  omega
theorem tnL_valid {c s : Int} (hcs : c * c + s * s = 4225) (hc : -65 ≤ c ∧ c ≤ 65) (hs : -65 ≤ s ∧ s ≤ 65) {ps us : List (Int × Int)} (hS : AllS ps) (hl : us.length = ps.length) (h : ∀ i, i < ps.length → Tn c s (cx ps i) (cy ps i) (cx us i) (cy us i)) (hp : validP ps = true) : validP us = true := by
  unfold validP at hp ⊢
  rw [Bool.and_eq_true, Bool.and_eq_true, Bool.and_eq_true] at hp
  obtain ⟨h1, h2, h3, h4⟩ := hp
  obtain ⟨k1, k2, k3⟩ := (validC_iff ps).1 h1
  rw [tnL_bends hcs hl h, tnL_simple hcs hl h, tnL_area hcs hl h, h2, h3, h4, (validC_iff _).2 ⟨by rw [hl]; exact k1, by rw [hl]; exact k2, fun i hi => by
    rw [hl] at hi
    obtain ⟨s1, s2⟩ := hS i hi
    have := tn_bd hc hs (M := 131820000) s1 s2 (h i hi)
    unfold InV
    omega⟩]
  rfl
theorem csF_sq (q : Int) : (Rot.csF (q % 36).toNat).1 * (Rot.csF (q % 36).toNat).1 + (Rot.csF (q % 36).toNat).2 * (Rot.csF (q % 36).toNat).2 = 4225 := by
  have h : (q % 36).toNat < 36 := by omega
  generalize (q % 36).toNat = k at *
  revert k
  decide
theorem csF_neg (q r : Int) (hr : (q + r) % 36 = 0) : (Rot.csF (r % 36).toNat).1 = (Rot.csF (q % 36).toNat).1 ∧ (Rot.csF (r % 36).toNat).2 = -(Rot.csF (q % 36).toNat).2 := by
  have h : (q % 36).toNat < 36 := by omega
  rw [show (r % 36).toNat = (36 - (q % 36).toNat) % 36 by omega]
  generalize (q % 36).toNat = k at *
  revert k
  decide
theorem tn_back {c s x y A B : Int} (hcs : c * c + s * s = 4225) (h : Tn c s x y A B) : Tn c (-s) A B x y := by
  obtain ⟨a, b⟩ := h
  have e1 : 65 * (A * c - B * -s) = (65 * A) * c + (65 * B) * s := by grind
  have e2 : 65 * (A * -s + B * c) = -((65 * A) * s) + (65 * B) * c := by grind
  rw [← a, ← b] at e1 e2
  have f1 : (x * c - y * s) * c + (x * s + y * c) * s = (c * c + s * s) * x := by grind
  have f2 : -((x * c - y * s) * s) + (x * s + y * c) * c = (c * c + s * s) * y := by grind
  rw [f1, hcs] at e1
  rw [f2, hcs] at e2
  constructor <;> omega
end Go.Proofs.YthmcejeeohlafaaDoor
