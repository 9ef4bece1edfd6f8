/- Winding numbers of polygons, part H: the area is as the winding numbers say; what a valid polygon winds. -/
import Derived.Test.YthmcejeeohlafaaDoorJorG
namespace Go.Proofs.YthmcejeeohlafaaDoor
open Go.ChangeShapes Go.WideShapes Go.ChangeAt Go.RowKit
set_option linter.unusedVariables false
set_option linter.unusedSimpArgs false

theorem sumE_le {f g : Nat → Int} : ∀ l : List Nat, (∀ i ∈ l, f i ≤ g i) → sumE f l ≤ sumE g l
  | [], _ => Int.le_refl _
  | i :: l, h => by
    have a := h i List.mem_cons_self
    have b := sumE_le l (fun j hj => h j (List.mem_cons_of_mem _ hj))
    simp only [sumE]
    omega
theorem sumE_mul (k : Int) (f : Nat → Int) : ∀ l : List Nat, sumE (fun i => k * f i) l = k * sumE f l
  | [] => by simp [sumE]
  | i :: l => by
    simp only [sumE]
    rw [sumE_mul k f l]
    grind
theorem sumE_comm (f : Nat → Nat → Int) : ∀ (l m : List Nat), sumE (fun i => sumE (fun j => f i j) m) l = sumE (fun j => sumE (fun i => f i j) l) m
  | [], m => (sumE_zero _ m (fun _ _ => rfl)).symm
  | i :: l, m => by
    show sumE (fun j => f i j) m + sumE (fun i => sumE (fun j => f i j) m) l = _
    rw [sumE_comm f l m, ← sumE_add]
    rfl
/-- How many x from -K on, below n - K, have h x < num. -/
def cntX (h num K : Int) (n : Nat) : Int := sumE (fun x => bi (decide (h * ((x : Int) - K) < num))) (List.range n)
theorem cntX_next (h num K : Int) (n : Nat) : cntX h num K (n + 1) = cntX h num K n + bi (decide (h * ((n : Int) - K) < num)) := by
  unfold cntX; rw [List.range_succ, sumE_snoc]
theorem cntX_inv {h num K : Int} (h0 : 0 < h) : ∀ n : Nat, (cntX h num K n = n ∧ (n = 0 ∨ h * ((n : Int) - 1 - K) < num)) ∨ (cntX h num K n < n ∧ 0 ≤ cntX h num K n ∧ num ≤ h * (cntX h num K n - K) ∧ (cntX h num K n = 0 ∨ h * (cntX h num K n - 1 - K) < num))
  | 0 => .inl ⟨rfl, .inl rfl⟩
  | n + 1 => by
    rw [cntX_next]
    have ih := cntX_inv (num := num) (K := K) h0 n
    by_cases g : h * ((n : Int) - K) < num
    · rw [decide_eq_true g]
      rcases ih with ⟨i1, i2⟩ | ⟨i1, i2, i3, i4⟩
      · left
        refine ⟨by rw [i1]; show (n : Int) + 1 = _; omega, .inr ?_⟩
        rw [show ((n + 1 : Nat) : Int) - 1 - K = (n : Int) - K by omega]
        exact g
      · have : h * (cntX h num K n - K) ≤ h * ((n : Int) - K) := Int.mul_le_mul_of_nonneg_left (by omega) (by omega)
        omega
    · rw [decide_eq_false g, show bi false = 0 from rfl, Int.add_zero]
      rcases ih with ⟨i1, i2⟩ | ⟨i1, i2, i3, i4⟩
      · right
        refine ⟨by omega, by omega, by rw [i1]; omega, ?_⟩
        rcases i2 with i2 | i2
        · left; omega
        · right; rw [i1]; exact i2
      · right
        exact ⟨by omega, i2, i3, i4⟩
theorem cntX_all {h num : Int} (K : Nat) (h0 : 0 < h) (h1 : -(h * K) ≤ num) (h2 : num ≤ h * K) : num ≤ h * (cntX h num K (2 * K) - K) ∧ h * (cntX h num K (2 * K) - K) ≤ num + h := by
  have e : ∀ t : Int, h * (t - 1 - K) = h * (t - K) - h := fun t => by grind
  rcases cntX_inv (num := num) (K := (K : Int)) h0 (2 * K) with ⟨i1, i2⟩ | ⟨i1, i2, i3, i4⟩
  · rw [i1, show ((2 * K : Nat) : Int) - K = K by omega]
    rcases i2 with i2 | i2
    · have : (K : Int) = 0 := by omega
      rw [this] at h1 h2 ⊢
      rw [Int.mul_zero] at *
      omega
    · rw [e, show ((2 * K : Nat) : Int) - K = K by omega] at i2
      omega
  · refine ⟨i3, ?_⟩
    rcases i4 with i4 | i4
    · rw [i4, Int.zero_sub, Int.mul_neg]
      omega
    · rw [e] at i4
      omega
/-- The rows from height b up to below d. -/
def rowJ (b h K : Int) (n : Nat) : Int := if (n : Int) ≤ b + K then 0 else if b + K + h ≤ n then h else n - b - K
theorem up_sum {a b c d : Int} (K : Nat) (hbd : b < d) (ha : -(K : Int) ≤ a ∧ a ≤ K) (hb : -(K : Int) ≤ b) (hc : -(K : Int) ≤ c ∧ c ≤ K) : ∀ n : Nat,
    2 * a * (d - b) * rowJ b (d - b) K n + (c - a) * rowJ b (d - b) K n * (rowJ b (d - b) K n - 1) + 2 * (d - b) * K * rowJ b (d - b) K n ≤ 2 * (d - b) * sumE (fun y => sumE (fun x => bi (upB a b c d ((x : Int) - K) ((y : Int) - K))) (List.range (2 * K))) (List.range n)
    ∧ 2 * (d - b) * sumE (fun y => sumE (fun x => bi (upB a b c d ((x : Int) - K) ((y : Int) - K))) (List.range (2 * K))) (List.range n) ≤ 2 * a * (d - b) * rowJ b (d - b) K n + (c - a) * rowJ b (d - b) K n * (rowJ b (d - b) K n - 1) + 2 * (d - b) * K * rowJ b (d - b) K n + 2 * (d - b) * rowJ b (d - b) K n
  | 0 => by
    have : rowJ b (d - b) K 0 = 0 := by unfold rowJ; rw [if_pos (by omega)]
    rw [this]
    simp [sumE]
  | n + 1 => by
    have ih := up_sum (c := c) K hbd ha hb hc n
    rw [List.range_succ, sumE_snoc]
    generalize sumE (fun y => sumE (fun x => bi (upB a b c d ((x : Int) - K) ((y : Int) - K))) (List.range (2 * K))) (List.range n) = S at *
    by_cases g : b ≤ (n : Int) - K ∧ (n : Int) - K < d
    · have j0 : rowJ b (d - b) K n = (n : Int) - b - K := by
        unfold rowJ
        by_cases q : (n : Int) ≤ b + K
        · rw [if_pos q]; omega
        · rw [if_neg q, if_neg (by omega)]
      have j1 : rowJ b (d - b) K (n + 1) = (n : Int) - b - K + 1 := by
        unfold rowJ
        rw [if_neg (by omega)]
        by_cases q : b + K + (d - b) ≤ ((n + 1 : Nat) : Int)
        · rw [if_pos q]; omega
        · rw [if_neg q]; omega
      rw [j0] at ih
      rw [j1]
      obtain ⟨j, hj⟩ : ∃ j, (n : Int) - b - K = j := ⟨_, rfl⟩
      rw [hj] at ih ⊢
      have row : sumE (fun x => bi (upB a b c d ((x : Int) - K) ((n : Int) - K))) (List.range (2 * K)) = cntX (d - b) (a * (d - b) + j * (c - a)) K (2 * K) := by
        unfold cntX
        exact sumE_congr fun x _ => by
          unfold upB
          rw [ori_pos, decide_eq_true g.1, decide_eq_true g.2, Bool.true_and, Bool.true_and]
          congr 1
          rw [decide_eq_decide]
          have : det a b c d ((x : Int) - K) ((n : Int) - K) = a * (d - b) + j * (c - a) - (d - b) * ((x : Int) - K) := by
            unfold det
            rw [← hj]
            grind
          omega
      rw [row]
      have l1 : a * (d - b) + j * (c - a) = a * (d - b - j) + c * j := by grind
      have b1 : -(K : Int) * (d - b - j) ≤ a * (d - b - j) := Int.mul_le_mul_of_nonneg_right (by omega) (by omega)
      have b2 : a * (d - b - j) ≤ (K : Int) * (d - b - j) := Int.mul_le_mul_of_nonneg_right (by omega) (by omega)
      have b3 : -(K : Int) * j ≤ c * j := Int.mul_le_mul_of_nonneg_right (by omega) (by omega)
      have b4 : c * j ≤ (K : Int) * j := Int.mul_le_mul_of_nonneg_right (by omega) (by omega)
      have b5 : -(K : Int) * (d - b - j) = -((d - b) * K) + K * j := by grind
      have b6 : (K : Int) * (d - b - j) = (d - b) * K - K * j := by grind
      have b7 : -(K : Int) * j = -(K * j) := by grind
      have cn := cntX_all (h := d - b) (num := a * (d - b) + j * (c - a)) K (by omega) (by omega) (by omega)
      generalize cntX (d - b) (a * (d - b) + j * (c - a)) K (2 * K) = F at *
      have f1 : 2 * (d - b) * (S + F) = 2 * (d - b) * S + 2 * ((d - b) * (F - K)) + 2 * (d - b) * K := by grind
      have f2 : 2 * a * (d - b) * (j + 1) + (c - a) * (j + 1) * (j + 1 - 1) + 2 * (d - b) * K * (j + 1) = (2 * a * (d - b) * j + (c - a) * j * (j - 1) + 2 * (d - b) * K * j) + 2 * (a * (d - b) + j * (c - a)) + 2 * (d - b) * K := by grind
      have f3 : 2 * (d - b) * (j + 1) = 2 * (d - b) * j + 2 * (d - b) := by grind
      rw [f1, f2, f3]
      omega
    · have row : sumE (fun x => bi (upB a b c d ((x : Int) - K) ((n : Int) - K))) (List.range (2 * K)) = 0 := sumE_zero _ _ fun x _ => by
        unfold upB
        by_cases q : b ≤ (n : Int) - K
        · rw [decide_eq_false (show ¬ (n : Int) - K < d by omega)]; simp [bi]
        · rw [decide_eq_false q]; simp [bi]
      have j1 : rowJ b (d - b) K (n + 1) = rowJ b (d - b) K n := by
        unfold rowJ
        by_cases q : (n : Int) ≤ b + K
        · rw [if_pos q, if_pos (by omega)]
        · rw [if_neg q, if_neg (by omega)]
          rw [if_pos (by omega), if_pos (by omega)]
      rw [row, j1, Int.add_zero]
      exact ih
theorem up_total {a b c d : Int} (K : Nat) (hbd : b ≤ d) (ha : -(K : Int) ≤ a ∧ a ≤ K) (hb : -(K : Int) ≤ b ∧ b ≤ K) (hc : -(K : Int) ≤ c ∧ c ≤ K) (hd : -(K : Int) ≤ d ∧ d ≤ K) :
    (a + c) * (d - b) + 2 * K * (d - b) - (c - a).natAbs ≤ 2 * sumE (fun y => sumE (fun x => bi (upB a b c d ((x : Int) - K) ((y : Int) - K))) (List.range (2 * K))) (List.range (2 * K))
    ∧ 2 * sumE (fun y => sumE (fun x => bi (upB a b c d ((x : Int) - K) ((y : Int) - K))) (List.range (2 * K))) (List.range (2 * K)) ≤ (a + c) * (d - b) + 2 * K * (d - b) + (c - a).natAbs + 2 * (d - b) := by
  rcases Int.lt_or_eq_of_le hbd with g | g
  · have k := up_sum (c := c) K g ha hb.1 hc (2 * K)
    have j : rowJ b (d - b) K (2 * K) = d - b := by
      unfold rowJ
      rw [if_neg (by omega), if_pos (by omega)]
    rw [j] at k
    generalize sumE (fun y => sumE (fun x => bi (upB a b c d ((x : Int) - K) ((y : Int) - K))) (List.range (2 * K))) (List.range (2 * K)) = S at *
    obtain ⟨h, hh⟩ : ∃ h, d - b = h := ⟨_, rfl⟩
    rw [hh] at k ⊢
    have h0 : 0 < h := by omega
    have e1 : 2 * a * h * h + (c - a) * h * (h - 1) + 2 * h * K * h = h * ((a + c) * h + 2 * K * h - (c - a)) := by grind
    have e2 : 2 * h * S = h * (2 * S) := by grind
    have e3 : h * ((a + c) * h + 2 * K * h - (c - a)) + 2 * h * h = h * ((a + c) * h + 2 * K * h - (c - a) + 2 * h) := by grind
    rw [e1, e2, e3] at k
    have k1 := Int.le_of_mul_le_mul_left k.1 h0
    have k2 := Int.le_of_mul_le_mul_left k.2 h0
    omega
  · subst g
    have z : sumE (fun y => sumE (fun x => bi (upB a b c b ((x : Int) - K) ((y : Int) - K))) (List.range (2 * K))) (List.range (2 * K)) = 0 := sumE_zero _ _ fun y _ => sumE_zero _ _ fun x _ => by
      unfold upB
      by_cases q : b ≤ (y : Int) - K
      · rw [decide_eq_false (show ¬ (y : Int) - K < b by omega)]; simp [bi]
      · rw [decide_eq_false q]; simp [bi]
    rw [z, Int.sub_self, Int.mul_zero, Int.mul_zero]
    omega
/-- The edge's part of the sum over a square of lattice points. -/
theorem edge_total {a b c d : Int} (K : Nat) (ha : -(K : Int) ≤ a ∧ a ≤ K) (hb : -(K : Int) ≤ b ∧ b ≤ K) (hc : -(K : Int) ≤ c ∧ c ≤ K) (hd : -(K : Int) ≤ d ∧ d ≤ K) :
    (a + c) * (d - b) + 2 * K * (d - b) - ((c - a).natAbs + 2 * (d - b).natAbs : Int) ≤ 2 * sumE (fun y => sumE (fun x => wE a b c d ((x : Int) - K) ((y : Int) - K)) (List.range (2 * K))) (List.range (2 * K)) := by
  by_cases g : d < b
  · have k := (up_total (a := c) (b := d) (c := a) (d := b) K (by omega) hc hd ha hb).2
    have e : sumE (fun y => sumE (fun x => wE a b c d ((x : Int) - K) ((y : Int) - K)) (List.range (2 * K))) (List.range (2 * K)) = -sumE (fun y => sumE (fun x => bi (upB c d a b ((x : Int) - K) ((y : Int) - K))) (List.range (2 * K))) (List.range (2 * K)) := by
      rw [← sumE_neg]
      exact sumE_congr fun y _ => by
        show _ = -sumE (fun x => bi (upB c d a b ((x : Int) - K) ((y : Int) - K))) (List.range (2 * K))
        rw [← sumE_neg]
        exact sumE_congr fun x _ => by unfold wE; rw [if_pos g]
    rw [e]
    have f1 : (c + a) * (b - d) = -((a + c) * (d - b)) := by grind
    have f2 : 2 * (K : Int) * (b - d) = -(2 * K * (d - b)) := by grind
    rw [f1, f2] at k
    omega
  · have k := (up_total (a := a) (b := b) (c := c) (d := d) K (by omega) ha hb hc hd).1
    have e : sumE (fun y => sumE (fun x => wE a b c d ((x : Int) - K) ((y : Int) - K)) (List.range (2 * K))) (List.range (2 * K)) = sumE (fun y => sumE (fun x => bi (upB a b c d ((x : Int) - K) ((y : Int) - K))) (List.range (2 * K))) (List.range (2 * K)) :=
      sumE_congr fun y _ => sumE_congr fun x _ => by unfold wE; rw [if_neg g]
    rw [e]
    omega
theorem area_other (ps : List (Int × Int)) (h0 : 0 < ps.length) : area2 ps = sumE (fun i => (cx ps i + cx ps (nx ps.length i)) * (cy ps (nx ps.length i) - cy ps i)) (List.range ps.length) := by
  have k := sum_round (fun i => cx ps i * cy ps i) ps.length h0
  have e : sumE (fun i => (cx ps i + cx ps (nx ps.length i)) * (cy ps (nx ps.length i) - cy ps i)) (List.range ps.length) = sumE (fun i => crossE ps i + (fun i => cx ps (nx ps.length i) * cy ps (nx ps.length i) - cx ps i * cy ps i) i) (List.range ps.length) := sumE_congr fun i _ => by
    show _ = crossE ps i + (cx ps (nx ps.length i) * cy ps (nx ps.length i) - cx ps i * cy ps i)
    unfold crossE
    grind
  rw [e, sumE_add]
  unfold area2
  have k' : sumE (fun i => cx ps (nx ps.length i) * cy ps (nx ps.length i) - cx ps i * cy ps i) (List.range ps.length) = 0 := k
  omega
theorem area_sc (N : Int) (ps : List (Int × Int)) : area2 (scL N ps) = N * (N * area2 ps) := by
  unfold area2
  rw [scL_len, ← sumE_mul, ← sumE_mul]
  exact sumE_congr fun i _ => by
    unfold crossE
    rw [scL_len, (scL_at N ps i).1, (scL_at N ps i).2, (scL_at N ps _).1, (scL_at N ps _).2]
    grind
/-- The sum over a square is bounded by the area. -/
theorem square_sum (ps : List (Int × Int)) (h0 : 0 < ps.length) (K : Nat) (hK : ∀ i, i < ps.length → (-(K : Int) ≤ cx ps i ∧ cx ps i ≤ K) ∧ -(K : Int) ≤ cy ps i ∧ cy ps i ≤ K) :
    area2 ps - sumE (fun i => ((cx ps (nx ps.length i) - cx ps i).natAbs + 2 * (cy ps (nx ps.length i) - cy ps i).natAbs : Int)) (List.range ps.length) ≤ 2 * sumE (fun y => sumE (fun x => wnd ps ((x : Int) - K) ((y : Int) - K)) (List.range (2 * K))) (List.range (2 * K)) := by
  have sw : sumE (fun y => sumE (fun x => wnd ps ((x : Int) - K) ((y : Int) - K)) (List.range (2 * K))) (List.range (2 * K)) = sumE (fun i => sumE (fun y => sumE (fun x => wEi ps ((x : Int) - K) ((y : Int) - K) i) (List.range (2 * K))) (List.range (2 * K))) (List.range ps.length) := by
    have a : sumE (fun y => sumE (fun x => wnd ps (((x : Nat) : Int) - K) (((y : Nat) : Int) - K)) (List.range (2 * K))) (List.range (2 * K)) = sumE (fun y => sumE (fun i => sumE (fun x => wEi ps ((x : Int) - K) ((y : Int) - K) i) (List.range (2 * K))) (List.range ps.length)) (List.range (2 * K)) := sumE_congr fun y _ => sumE_comm (fun x i => wEi ps ((x : Int) - K) ((y : Int) - K) i) (List.range (2 * K)) (List.range ps.length)
    rw [a]
    exact sumE_comm (fun y i => sumE (fun x => wEi ps ((x : Int) - K) ((y : Int) - K) i) (List.range (2 * K))) (List.range (2 * K)) (List.range ps.length)
  rw [sw, ← sumE_mul, area_other ps h0, ← sumE_sub]
  have r := sum_round (fun i => 2 * (K : Int) * cy ps i) ps.length h0
  have r' : sumE (fun i => 2 * (K : Int) * cy ps (nx ps.length i) - 2 * (K : Int) * cy ps i) (List.range ps.length) = 0 := r
  have le : sumE (fun i => (fun i => (cx ps i + cx ps (nx ps.length i)) * (cy ps (nx ps.length i) - cy ps i) - ((cx ps (nx ps.length i) - cx ps i).natAbs + 2 * (cy ps (nx ps.length i) - cy ps i).natAbs : Int)) i + (fun i => 2 * (K : Int) * cy ps (nx ps.length i) - 2 * (K : Int) * cy ps i) i) (List.range ps.length) ≤ sumE (fun i => 2 * sumE (fun y => sumE (fun x => wEi ps ((x : Int) - K) ((y : Int) - K) i) (List.range (2 * K))) (List.range (2 * K))) (List.range ps.length) := sumE_le _ fun i hi => by
    have hi := List.mem_range.1 hi
    have hj := nx_lt' hi
    have t := edge_total K (hK i hi).1 (hK i hi).2 (hK _ hj).1 (hK _ hj).2
    show (cx ps i + cx ps (nx ps.length i)) * (cy ps (nx ps.length i) - cy ps i) - ((cx ps (nx ps.length i) - cx ps i).natAbs + 2 * (cy ps (nx ps.length i) - cy ps i).natAbs : Int) + (2 * (K : Int) * cy ps (nx ps.length i) - 2 * (K : Int) * cy ps i) ≤ _
    have e : 2 * (K : Int) * (cy ps (nx ps.length i) - cy ps i) = 2 * (K : Int) * cy ps (nx ps.length i) - 2 * (K : Int) * cy ps i := by grind
    rw [e] at t
    unfold wEi
    omega
  rw [sumE_add, r', Int.add_zero] at le
  exact le
theorem ex_K (ps : List (Int × Int)) : ∃ K : Nat, ∀ i, i < ps.length → (-(K : Int) ≤ cx ps i ∧ cx ps i ≤ K) ∧ -(K : Int) ≤ cy ps i ∧ cy ps i ≤ K := by
  obtain ⟨m, h0, hm⟩ := ex_bd (cx ps) (cy ps) ps.length
  exact ⟨m.toNat, fun i hi => by have := hm i hi; omega⟩
/-- Where the winding number is nowhere positive, at no scale, the area is not either. -/
theorem area_neg {ps : List (Int × Int)} (h0 : 0 < ps.length) (h : ∀ N p q : Int, 0 < N → wnd (scL N ps) p q ≤ 0) : area2 ps ≤ 0 := by
  obtain ⟨C, hC⟩ : ∃ C, sumE (fun i => ((cx ps (nx ps.length i) - cx ps i).natAbs + 2 * (cy ps (nx ps.length i) - cy ps i).natAbs : Int)) (List.range ps.length) = C := ⟨_, rfl⟩
  have c0 : 0 ≤ C := by
    rw [← hC]
    have := sumE_le (f := fun _ => 0) (List.range ps.length) (fun i _ => show (0 : Int) ≤ ((cx ps (nx ps.length i) - cx ps i).natAbs + 2 * (cy ps (nx ps.length i) - cy ps i).natAbs : Int) by omega)
    rwa [sumE_zero _ _ (fun _ _ => rfl)] at this
  rcases Int.lt_or_le 0 (area2 ps) with g | g
  · exfalso
    obtain ⟨K, hK⟩ := ex_K (scL (C + 1) ps)
    have k := square_sum (scL (C + 1) ps) (by rw [scL_len]; exact h0) K hK
    have z : sumE (fun y => sumE (fun x => wnd (scL (C + 1) ps) ((x : Int) - K) ((y : Int) - K)) (List.range (2 * K))) (List.range (2 * K)) ≤ 0 := by
      have := sumE_le (g := fun _ => 0) (List.range (2 * K)) (fun y _ => by
        have := sumE_le (f := fun x => wnd (scL (C + 1) ps) (((x : Nat) : Int) - K) ((y : Int) - K)) (g := fun _ => 0) (List.range (2 * K)) (fun x _ => h (C + 1) _ _ (by omega))
        rw [sumE_zero (fun _ => (0 : Int)) _ (fun _ _ => rfl)] at this
        exact this)
      rwa [sumE_zero (fun _ => (0 : Int)) _ (fun _ _ => rfl)] at this
    have e : sumE (fun i => ((cx (scL (C + 1) ps) (nx (scL (C + 1) ps).length i) - cx (scL (C + 1) ps) i).natAbs + 2 * (cy (scL (C + 1) ps) (nx (scL (C + 1) ps).length i) - cy (scL (C + 1) ps) i).natAbs : Int)) (List.range (scL (C + 1) ps).length) = (C + 1) * C := by
      rw [← hC, ← sumE_mul, scL_len, hC]
      exact sumE_congr fun i _ => by
        rw [(scL_at (C + 1) ps i).1, (scL_at (C + 1) ps i).2, (scL_at (C + 1) ps _).1, (scL_at (C + 1) ps _).2, ← Int.mul_sub, ← Int.mul_sub, Int.natAbs_mul, Int.natAbs_mul]
        have : (((C + 1).natAbs : Nat) : Int) = C + 1 := by omega
        rw [Int.natCast_mul, Int.natCast_mul, this]
        grind
    rw [e, area_sc] at k
    have l : (C + 1) * ((C + 1) * 1) ≤ (C + 1) * ((C + 1) * area2 ps) := Int.mul_le_mul_of_nonneg_left (Int.mul_le_mul_of_nonneg_left (by omega) (by omega)) (by omega)
    have l2 : (C + 1) * ((C + 1) * 1) = (C + 1) * C + (C + 1) := by grind
    omega
  · exact g
/-- A simple polygon with a positive area winds nought or one time round every point. -/
theorem simp_wnd {ps : List (Int × Int)} (hs : Simp ps) (ha : 0 < area2 ps) (p q : Int) : wnd ps p q = 0 ∨ wnd ps p q = 1 := by
  obtain ⟨R, hR⟩ := edges_val hs
  rcases edges_R hs hR with rfl | rfl
  · have := wnd_all hs hR p q; omega
  · exfalso
    have := area_neg (ps := ps) (by have := hs.1; omega) (fun N p q hN => by
      have := wnd_all (hs.sc hN) (val_sc hR hN) p q
      omega)
    omega
theorem valid_wnd {ps : List (Int × Int)} (h : validP ps = true) (p q : Int) : wnd ps p q = 0 ∨ wnd ps p q = 1 := by
  refine simp_wnd (simp_valid h) ?_ p q
  unfold validP at h
  rw [Bool.and_eq_true, Bool.and_eq_true, Bool.and_eq_true] at h
  simpa using h.2.2.2
#print axioms valid_wnd
end Go.Proofs.YthmcejeeohlafaaDoor
