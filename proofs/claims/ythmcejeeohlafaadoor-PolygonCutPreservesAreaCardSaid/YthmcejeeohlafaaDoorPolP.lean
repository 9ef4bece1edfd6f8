/- Plain mathematics of layer 3: a segment that meets no edge joins two points of one parity. -/
import Derived.Test.YthmcejeeohlafaaDoorPolM
namespace Go.Proofs.YthmcejeeohlafaaDoor
open Go.ChangeShapes Go.WideShapes Go.ChangeAt Go.RowKit
set_option linter.unusedVariables false
set_option linter.unusedSimpArgs false

/-- Twice the signed area of the triangle (a, b), (c, d), (p, q). -/
def det (a b c d p q : Int) : Int := (c - a) * (q - b) - (d - b) * (p - a)
theorem ori_pos (a b c d p q : Int) : decide (0 < ori a b c d p q) = decide (0 < det a b c d p q) := by
  unfold ori det cmpI
  rw [decide_eq_decide]
  split <;> (try split) <;> omega
theorem ori_zero (a b c d p q : Int) : (ori a b c d p q == 0) = decide (det a b c d p q = 0) := by
  unfold ori det cmpI
  rw [Bool.eq_iff_iff, beq_iff_eq, decide_eq_true_eq]
  split <;> (try split) <;> omega
theorem ori_opp {a b c d p q r s : Int} (h : (det a b c d p q < 0 ∧ 0 < det a b c d r s) ∨ (0 < det a b c d p q ∧ det a b c d r s < 0)) : oppB (ori a b c d p q) (ori a b c d r s) = true := by
  unfold oppB ori cmpI
  unfold det at h
  rw [decide_eq_true_eq]
  rcases h with ⟨h1, h2⟩ | ⟨h1, h2⟩
  · rw [if_pos (by omega), if_neg (by omega), if_pos (by omega)]; decide
  · rw [if_neg (by omega), if_pos (by omega), if_pos (by omega)]; decide
theorem on_of {a b c d p q : Int} (h0 : det a b c d p q = 0) (h1 : (a ≤ p ∨ c ≤ p) ∧ (p ≤ a ∨ p ≤ c)) (h2 : (b ≤ q ∨ d ≤ q) ∧ (q ≤ b ∨ q ≤ d)) : onB a b c d p q = true := by
  unfold onB
  have m1 := mnI_bd a c
  have m2 := mxI_bd a c
  have m3 := mnI_bd b d
  have m4 := mxI_bd b d
  rw [ori_zero, decide_eq_true h0, decide_eq_true (by omega), decide_eq_true (by omega), decide_eq_true (by omega), decide_eq_true (by omega)]
  rfl
theorem pp {x y : Int} (hx : 0 < x) (hy : 0 < y) : 0 < x * y := Int.mul_pos hx hy
theorem pn {x y : Int} (hx : 0 < x) (hy : y < 0) : x * y < 0 := Int.mul_neg_of_pos_of_neg hx hy
theorem np {x y : Int} (hx : x < 0) (hy : 0 < y) : x * y < 0 := Int.mul_neg_of_neg_of_pos hx hy
theorem nn {x y : Int} (hx : x < 0) (hy : y < 0) : 0 < x * y := Int.mul_pos_of_neg_of_neg hx hy
theorem zz {x y : Int} (hx : 0 ≤ x) (hy : 0 ≤ y) : 0 ≤ x * y := Int.mul_nonneg hx hy
theorem nz {x y : Int} (hx : x < 0) (hy : 0 ≤ y) : x * y ≤ 0 := Int.mul_nonpos_of_nonpos_of_nonneg (by omega) hy
theorem pos_of {x y : Int} (hy : 0 < y) (h : 0 < x * y) : 0 < x := by
  rcases Int.lt_trichotomy x 0 with g | g | g
  · have := np g hy; omega
  · subst g; simp at h
  · exact g
theorem neg_of {x y : Int} (hy : 0 < y) (h : x * y < 0) : x < 0 := by
  rcases Int.lt_trichotomy x 0 with g | g | g
  · exact g
  · subst g; simp at h
  · have := pp g hy; omega
/-- The two identities that tie the four determinants. -/
theorem tie1 (a b c d x1 x2 y1 y2 : Int) : -(det a b c d x1 x2) * (y2 - x2) = det x1 x2 y1 y2 a b * (d - x2) - det x1 x2 y1 y2 c d * (b - x2) := by unfold det; grind
theorem tie2 (a b c d x1 x2 y1 y2 : Int) : det a b c d y1 y2 * (y2 - x2) = det x1 x2 y1 y2 a b * (y2 - d) - det x1 x2 y1 y2 c d * (y2 - b) := by unfold det; grind
theorem tie3 (a b c d x1 x2 y1 y2 : Int) : det x1 x2 y1 y2 a b - det x1 x2 y1 y2 c d = det a b c d y1 y2 - det a b c d x1 x2 := by unfold det; grind
theorem between_of {p q r s u v : Int} (h : det p q r s u v = 0) (hqs : q < s) (h1 : q ≤ v) (h2 : v ≤ s) : (p ≤ u ∨ r ≤ u) ∧ (u ≤ p ∨ u ≤ r) := by
  unfold det at h
  have e : (r - p) * (v - q) = (s - q) * (u - p) := by omega
  have d1 : (s - q) * (u - p) - (s - q) * (r - p) = (s - q) * (u - r) := by grind
  have d2 : (s - q) * (r - p) - (r - p) * (v - q) = (r - p) * (s - v) := by grind
  rcases Int.lt_trichotomy r p with g | g | g
  · have m1 : (r - p) * (v - q) ≤ 0 := nz (by omega) (by omega)
    have m2 : (r - p) * (s - v) ≤ 0 := nz (by omega) (by omega)
    constructor
    · right
      rcases Int.lt_or_le u r with k | k
      · have := pn (x := s - q) (y := u - r) (by omega) (by omega); omega
      · exact k
    · left
      rcases Int.lt_or_le p u with k | k
      · have := pp (x := s - q) (y := u - p) (by omega) (by omega); omega
      · exact k
  · subst g
    have m1 : (r - r) * (v - q) = 0 := by rw [Int.sub_self, Int.zero_mul]
    rcases Int.lt_trichotomy u r with k | k | k
    · have := pn (x := s - q) (y := u - r) (by omega) (by omega); omega
    · omega
    · have := pp (x := s - q) (y := u - r) (by omega) (by omega); omega
  · have m1 : 0 ≤ (r - p) * (v - q) := zz (by omega) (by omega)
    have m2 : 0 ≤ (r - p) * (s - v) := zz (by omega) (by omega)
    constructor
    · left
      rcases Int.lt_or_le u p with k | k
      · have := pn (x := s - q) (y := u - p) (by omega) (by omega); omega
      · exact k
    · right
      rcases Int.lt_or_le r u with k | k
      · have := pp (x := s - q) (y := u - r) (by omega) (by omega); omega
      · exact k
section
variable {H α β γ δ fA fC gx gy : Int}
theorem core01 (hH : 0 < H) (ha : 0 < α) (hb : β ≤ 0) (hg : 0 ≤ γ) (hd : 0 < δ) (E1 : -gx * H = fA * α - fC * β) (E2 : gy * H = fA * γ - fC * δ) (h1 : 0 < gx) (h2 : 0 < fC) : fA < 0 ∧ gy < 0 := by
  have m1 : -gx * H < 0 := np (by omega) hH
  have m2 : 0 ≤ fC * (-β) := zz (by omega) (by omega)
  rw [Int.mul_neg] at m2
  have hA : fA < 0 := by
    rcases Int.lt_or_le fA 0 with k | k
    · exact k
    · have := zz k (show 0 ≤ α by omega); omega
  have m3 : fA * γ ≤ 0 := nz hA hg
  have m4 := pp h2 hd
  exact ⟨hA, neg_of hH (by omega)⟩
theorem core02 (hH : 0 < H) (ha : 0 < α) (hb : β ≤ 0) (hg : γ < 0) (hd : 0 < δ) (E1 : -gx * H = fA * α - fC * β) (E2 : gy * H = fA * γ - fC * δ) (E3 : fA - fC = gy - gx) (h1 : 0 < gx) (h2 : gy < 0) : fA < 0 ∧ 0 < fC := by
  have m1 : -gx * H < 0 := np (by omega) hH
  have m2 : gy * H < 0 := np h2 hH
  have hA : fA < 0 := by
    rcases Int.lt_or_le fA 0 with k | k
    · exact k
    · have k1 := zz k (show 0 ≤ α by omega)
      have k2 : 0 ≤ fC * (-β) := zz (by omega) (by omega)
      rw [Int.mul_neg] at k2
      omega
  refine ⟨hA, ?_⟩
  rcases Int.lt_or_le 0 fC with k | k
  · exact k
  · have k1 := nn hA hg
    have k2 : 0 ≤ (-fC) * δ := zz (by omega) (by omega)
    rw [Int.neg_mul] at k2
    omega
theorem core11 (hH : 0 < H) (ha : 0 < α) (hb : 0 < β) (hg : 0 ≤ γ) (hd : 0 ≤ δ) (E1 : -gx * H = fA * α - fC * β) (E2 : gy * H = fA * γ - fC * δ) (h1 : 0 < fA) (h2 : fC < 0) : gx < 0 ∧ (0 < gy ∨ gy = 0 ∧ γ = 0 ∧ δ = 0) := by
  have m1 := pp h1 ha
  have m2 := np h2 hb
  have m3 := zz (show 0 ≤ fA by omega) hg
  have m4 : fC * δ ≤ 0 := nz h2 hd
  have hx : -gx * H > 0 := by omega
  have hgx : 0 < -gx := pos_of hH hx
  refine ⟨by omega, ?_⟩
  rcases Int.lt_trichotomy gy 0 with k | k | k
  · have := np k hH; omega
  · right
    subst k
    rw [Int.zero_mul] at E2
    refine ⟨rfl, ?_, ?_⟩
    · rcases Int.lt_or_le 0 γ with k | k
      · have := pp h1 k; omega
      · omega
    · rcases Int.lt_or_le 0 δ with k | k
      · have := np h2 k; omega
      · omega
  · exact .inl k
theorem core12 (hH : 0 < H) (ha : 0 < α) (hb : 0 < β) (hg : γ < 0) (hd : 0 ≤ δ) (E1 : -gx * H = fA * α - fC * β) (E2 : gy * H = fA * γ - fC * δ) (h1 : 0 < gy) (h2 : 0 < fA) : fC < 0 ∧ gx < 0 := by
  have m1 := pp h1 hH
  have m2 := pn h2 hg
  have hC : fC < 0 := by
    rcases Int.lt_or_le fC 0 with k | k
    · exact k
    · have := zz k hd; omega
  refine ⟨hC, ?_⟩
  have m3 := pp h2 ha
  have m4 := np hC hb
  have : 0 < -gx := pos_of hH (by omega)
  omega
end
/-- What it means that the segment does not meet the edge. -/
theorem seg_no {a b c d x1 x2 y1 y2 : Int} (h : segB a b c d x1 x2 y1 y2 = false) :
    onB a b c d x1 x2 = false ∧ onB a b c d y1 y2 = false ∧ onB x1 x2 y1 y2 a b = false ∧ onB x1 x2 y1 y2 c d = false ∧ ¬ (((det a b c d x1 x2 < 0 ∧ 0 < det a b c d y1 y2) ∨ (0 < det a b c d x1 x2 ∧ det a b c d y1 y2 < 0)) ∧ ((det x1 x2 y1 y2 a b < 0 ∧ 0 < det x1 x2 y1 y2 c d) ∨ (0 < det x1 x2 y1 y2 a b ∧ det x1 x2 y1 y2 c d < 0))) := by
  unfold segB at h
  rw [Bool.or_eq_false_iff, Bool.or_eq_false_iff, Bool.or_eq_false_iff, Bool.or_eq_false_iff] at h
  obtain ⟨⟨⟨h1, h2⟩, h3, h4⟩, h5⟩ := h
  refine ⟨h1, h2, h3, h4, fun ⟨k1, k2⟩ => ?_⟩
  rw [ori_opp k1, ori_opp k2] at h5
  cases h5
/-- Right of the segment, in its strip. -/
def inQ (x1 x2 y1 y2 p q : Int) : Bool := decide (x2 < q) && (decide (q ≤ y2) && decide (det x1 x2 y1 y2 p q < 0))
theorem edge_key {a b c d x1 x2 y1 y2 : Int} (hbd : b ≤ d) (hxy : x2 < y2) (h : segB a b c d x1 x2 y1 y2 = false) :
    Bool.xor (upB a b c d x1 x2) (upB a b c d y1 y2) = Bool.xor (inQ x1 x2 y1 y2 a b) (inQ x1 x2 y1 y2 c d) := by
  obtain ⟨n1, n2, n3, n4, nk⟩ := seg_no h
  have E1 := tie1 a b c d x1 x2 y1 y2
  have E2 := tie2 a b c d x1 x2 y1 y2
  have E3 := tie3 a b c d x1 x2 y1 y2
  have zx : b ≤ x2 → x2 < d → det a b c d x1 x2 ≠ 0 := fun k1 k2 e => by
    rw [on_of e (between_of e (by omega) k1 (by omega)) (by omega)] at n1; cases n1
  have zy : b ≤ y2 → y2 < d → det a b c d y1 y2 ≠ 0 := fun k1 k2 e => by
    rw [on_of e (between_of e (by omega) k1 (by omega)) (by omega)] at n2; cases n2
  have za : x2 < b → b ≤ y2 → det x1 x2 y1 y2 a b ≠ 0 := fun k1 k2 e => by
    rw [on_of e (between_of e hxy (by omega) k2) (by omega)] at n3; cases n3
  have zc : x2 < d → d ≤ y2 → det x1 x2 y1 y2 c d ≠ 0 := fun k1 k2 e => by
    rw [on_of e (between_of e hxy (by omega) k2) (by omega)] at n4; cases n4
  have hf : b = y2 → d = y2 → det x1 x2 y1 y2 a b = (y2 - x2) * (y1 - a) ∧ det x1 x2 y1 y2 c d = (y2 - x2) * (y1 - c) ∧ det a b c d y1 y2 = 0 := fun e1 e2 => by
    subst e1 e2
    unfold det
    refine ⟨by grind, by grind, by grind⟩
  have on0 : b = y2 → d = y2 → ((a ≤ y1 ∨ c ≤ y1) ∧ (y1 ≤ a ∨ y1 ≤ c)) → False := fun e1 e2 hb => by
    rw [on_of (hf e1 e2).2.2 hb (by omega)] at n2; cases n2
  clear n1 n2 n3 n4 h
  unfold upB inQ
  rw [ori_pos, ori_pos]
  generalize det a b c d x1 x2 = gx at *
  generalize det a b c d y1 y2 = gy at *
  generalize hFA : det x1 x2 y1 y2 a b = fA at *
  generalize hFC : det x1 x2 y1 y2 c d = fC at *
  have hH : 0 < y2 - x2 := by omega
  have N1 : -(-gx) * (y2 - x2) = -fA * (d - x2) - -fC * (b - x2) := by rw [Int.neg_mul, E1, Int.neg_mul, Int.neg_mul]; omega
  have N2 : -gy * (y2 - x2) = -fA * (y2 - d) - -fC * (y2 - b) := by rw [Int.neg_mul, E2, Int.neg_mul, Int.neg_mul]; omega
  by_cases b1 : b ≤ x2
  · by_cases d1 : d ≤ x2
    · simp only [decide_eq_false (show ¬ x2 < d by omega), decide_eq_false (show ¬ y2 < d by omega), decide_eq_false (show ¬ x2 < b by omega), Bool.and_false, Bool.false_and]
    · by_cases d2 : d ≤ y2
      · have key : decide (0 < gx) = decide (fC < 0) := by
          rw [decide_eq_decide]
          have g0 := zx b1 (by omega)
          have f0 := zc (by omega) d2
          constructor
          · intro k
            rcases Int.lt_trichotomy fC 0 with q | q | q
            · exact q
            · exact absurd q f0
            · obtain ⟨r1, r2⟩ := core01 hH (by omega) (by omega) (by omega) (by omega) E1 E2 k q
              exact absurd ⟨.inr ⟨k, r2⟩, .inl ⟨r1, q⟩⟩ nk
          · intro k
            rcases Int.lt_trichotomy gx 0 with q | q | q
            · obtain ⟨r1, r2⟩ := core01 hH (by omega) (by omega) (by omega) (by omega) N1 N2 (by omega) (show 0 < -fC by omega)
              exact absurd ⟨.inl ⟨q, by omega⟩, .inr ⟨by omega, k⟩⟩ nk
            · exact absurd q g0
            · exact q
        simp only [decide_eq_true b1, decide_eq_true (show x2 < d by omega), decide_eq_true d2, decide_eq_true (show b ≤ y2 by omega), decide_eq_false (show ¬ y2 < d by omega), decide_eq_false (show ¬ x2 < b by omega), key, Bool.and_false, Bool.false_and, Bool.and_true, Bool.true_and, Bool.xor_false, Bool.false_xor]
      · have key : decide (0 < gx) = decide (0 < gy) := by
          rw [decide_eq_decide]
          have g0 := zx b1 (by omega)
          have g1 := zy (by omega) (by omega)
          constructor
          · intro k
            rcases Int.lt_trichotomy gy 0 with q | q | q
            · obtain ⟨r1, r2⟩ := core02 hH (by omega) (by omega) (by omega) (by omega) E1 E2 E3 k q
              exact absurd ⟨.inr ⟨k, q⟩, .inl ⟨r1, r2⟩⟩ nk
            · exact absurd q g1
            · exact q
          · intro k
            rcases Int.lt_trichotomy gx 0 with q | q | q
            · obtain ⟨r1, r2⟩ := core02 hH (by omega) (by omega) (by omega) (by omega) N1 N2 (by omega) (show 0 < -gx by omega) (show -gy < 0 by omega)
              exact absurd ⟨.inl ⟨q, k⟩, .inr ⟨by omega, by omega⟩⟩ nk
            · exact absurd q g0
            · exact q
        simp only [decide_eq_true b1, decide_eq_true (show x2 < d by omega), decide_eq_false d2, decide_eq_true (show b ≤ y2 by omega), decide_eq_true (show y2 < d by omega), decide_eq_false (show ¬ x2 < b by omega), key, Bool.and_false, Bool.false_and, Bool.and_true, Bool.true_and, Bool.xor_self]
  · by_cases b2 : b ≤ y2
    · by_cases d2 : d ≤ y2
      · have key : decide (fA < 0) = decide (fC < 0) := by
          rw [decide_eq_decide]
          have f0 := za (by omega) b2
          have f1 := zc (by omega) d2
          have flat : y2 - d = 0 → y2 - b = 0 → (fA = (y2 - x2) * (y1 - a) ∧ fC = (y2 - x2) * (y1 - c)) ∧ (((a ≤ y1 ∨ c ≤ y1) ∧ (y1 ≤ a ∨ y1 ≤ c)) → False) := fun e1 e2 => ⟨⟨(hf (by omega) (by omega)).1, (hf (by omega) (by omega)).2.1⟩, on0 (by omega) (by omega)⟩
          constructor
          · intro k
            rcases Int.lt_trichotomy fC 0 with q | q | q
            · exact q
            · exact absurd q f1
            · obtain ⟨r1, r2⟩ := core11 hH (by omega) (by omega) (by omega) (by omega) N1 N2 (show 0 < -fA by omega) (show -fC < 0 by omega)
              rcases r2 with r2 | ⟨r2, r3, r4⟩
              · exact absurd ⟨.inr ⟨by omega, by omega⟩, .inl ⟨k, q⟩⟩ nk
              · obtain ⟨⟨v1, v2⟩, v3⟩ := flat r3 r4
                have w1 : y1 - a < 0 := neg_of hH (by rw [Int.mul_comm, ← v1]; exact k)
                have w2 : 0 < y1 - c := pos_of hH (by rw [Int.mul_comm, ← v2]; exact q)
                exact (v3 (by omega)).elim
          · intro k
            rcases Int.lt_trichotomy fA 0 with q | q | q
            · exact q
            · exact absurd q f0
            · obtain ⟨r1, r2⟩ := core11 hH (by omega) (by omega) (by omega) (by omega) E1 E2 q k
              rcases r2 with r2 | ⟨r2, r3, r4⟩
              · exact absurd ⟨.inl ⟨r1, r2⟩, .inr ⟨q, k⟩⟩ nk
              · obtain ⟨⟨v1, v2⟩, v3⟩ := flat r3 r4
                have w1 : 0 < y1 - a := pos_of hH (by rw [Int.mul_comm, ← v1]; exact q)
                have w2 : y1 - c < 0 := neg_of hH (by rw [Int.mul_comm, ← v2]; exact k)
                exact (v3 (by omega)).elim
        simp only [decide_eq_false b1, decide_eq_false (show ¬ y2 < d by omega), decide_eq_true b2, decide_eq_true d2, decide_eq_true (show x2 < b by omega), decide_eq_true (show x2 < d by omega), key, Bool.and_false, Bool.false_and, Bool.and_true, Bool.true_and, Bool.xor_self]
      · have key : decide (0 < gy) = decide (fA < 0) := by
          rw [decide_eq_decide]
          have f0 := za (by omega) b2
          have g1 := zy b2 (by omega)
          constructor
          · intro k
            rcases Int.lt_trichotomy fA 0 with q | q | q
            · exact q
            · exact absurd q f0
            · obtain ⟨r1, r2⟩ := core12 hH (by omega) (by omega) (by omega) (by omega) E1 E2 k q
              exact absurd ⟨.inl ⟨r2, k⟩, .inr ⟨q, r1⟩⟩ nk
          · intro k
            rcases Int.lt_trichotomy gy 0 with q | q | q
            · obtain ⟨r1, r2⟩ := core12 hH (by omega) (by omega) (by omega) (by omega) N1 N2 (show 0 < -gy by omega) (show 0 < -fA by omega)
              exact absurd ⟨.inr ⟨by omega, q⟩, .inl ⟨k, by omega⟩⟩ nk
            · exact absurd q g1
            · exact q
        simp only [decide_eq_false b1, decide_eq_true (show y2 < d by omega), decide_eq_true b2, decide_eq_false d2, decide_eq_true (show x2 < b by omega), key, Bool.and_false, Bool.false_and, Bool.and_true, Bool.true_and, Bool.xor_false, Bool.false_xor]
    · simp only [decide_eq_false b1, decide_eq_false b2, decide_eq_false (show ¬ d ≤ y2 by omega), Bool.and_false, Bool.false_and]
end Go.Proofs.YthmcejeeohlafaaDoor
