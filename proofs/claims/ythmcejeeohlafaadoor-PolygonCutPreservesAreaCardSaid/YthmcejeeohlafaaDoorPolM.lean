/- Plain mathematics of layer 3: another corner first; the reverse. -/
import Derived.Test.YthmcejeeohlafaaDoorPolG
namespace Go.Proofs.YthmcejeeohlafaaDoor
open Go.ChangeShapes Go.WideShapes Go.ChangeAt Go.RowKit
set_option linter.unusedVariables false
set_option linter.unusedSimpArgs false

/-! ### Sums and tests round the circle -/
theorem sumE_congr {f g : Nat → Int} : ∀ {l : List Nat}, (∀ i ∈ l, f i = g i) → sumE f l = sumE g l
  | [], _ => rfl
  | i :: r, h => by simp only [sumE]; rw [h i (List.mem_cons_self ..), sumE_congr fun j hj => h j (List.mem_cons_of_mem _ hj)]
theorem sumE_first (f : Nat → Int) (n : Nat) : sumE f (List.range (n + 1)) = f 0 + sumE (fun i => f (i + 1)) (List.range n) := by
  induction n with
  | zero => simp [sumE, List.range_succ]
  | succ n ih => rw [List.range_succ, sumE_snoc, ih, List.range_succ (n := n), sumE_snoc]; omega
theorem sumE_turn (f : Nat → Int) (n m : Nat) (hn : 0 < n) : sumE (fun i => f ((i + m) % n)) (List.range n) = sumE f (List.range n) := by
  induction m with
  | zero => exact sumE_congr fun i hi => by rw [Nat.add_zero, Nat.mod_eq_of_lt (List.mem_range.1 hi)]
  | succ m ih =>
    rw [← ih]
    obtain ⟨k, rfl⟩ : ∃ k, n = k + 1 := ⟨n - 1, by omega⟩
    rw [sumE_first (fun i => f ((i + m) % (k + 1))), List.range_succ, sumE_snoc]
    have e : sumE (fun i => f ((i + (m + 1)) % (k + 1))) (List.range k) = sumE (fun i => f ((i + 1 + m) % (k + 1))) (List.range k) := sumE_congr fun i _ => by rw [show i + (m + 1) = i + 1 + m by omega]
    have e2 : (k + (m + 1)) % (k + 1) = (0 + m) % (k + 1) := by rw [show k + (m + 1) = m + (k + 1) by omega, Nat.add_mod_right, Nat.zero_add]
    rw [e, e2]
    omega
theorem sumE_back (f : Nat → Int) (n : Nat) : sumE (fun i => f (n - 1 - i)) (List.range n) = sumE f (List.range n) := by
  induction n with
  | zero => rfl
  | succ n ih =>
    rw [sumE_first, List.range_succ (n := n), sumE_snoc, ← ih, Int.add_comm]
    congr 1
    · exact sumE_congr fun i hi => by have := List.mem_range.1 hi; rw [show n + 1 - 1 - (i + 1) = n - 1 - i by omega]
theorem sumE_neg (f : Nat → Int) : ∀ l, sumE (fun i => -f i) l = -sumE f l
  | [] => rfl
  | i :: r => by simp only [sumE]; rw [sumE_neg f r]; omega
theorem turn_onto (n m i : Nat) (hi : i < n) : ∃ k, k < n ∧ (k + m) % n = i := by
  refine ⟨(i + (n - m % n)) % n, Nat.mod_lt _ (by omega), ?_⟩
  have h1 := Nat.mod_lt m (show 0 < n by omega)
  rw [Nat.add_mod, Nat.mod_mod, ← Nat.add_mod]
  have h2 := Nat.div_add_mod m n
  rw [show i + (n - m % n) + m = i + n * (m / n + 1) by rw [Nat.mul_add]; omega, Nat.add_mul_mod_self_left, Nat.mod_eq_of_lt hi]
theorem any_turn (f : Nat → Bool) (n m : Nat) (hn : 0 < n) : (List.range n).any (fun i => f ((i + m) % n)) = (List.range n).any f := by
  rw [Bool.eq_iff_iff, List.any_eq_true, List.any_eq_true]
  constructor
  · rintro ⟨i, hi, h⟩
    exact ⟨_, List.mem_range.2 (Nat.mod_lt _ hn), h⟩
  · rintro ⟨i, hi, h⟩
    obtain ⟨k, hk, e⟩ := turn_onto n m i (List.mem_range.1 hi)
    exact ⟨k, List.mem_range.2 hk, by rw [e]; exact h⟩
theorem any_congr {f g : Nat → Bool} {n : Nat} (h : ∀ i, i < n → f i = g i) : (List.range n).any f = (List.range n).any g := by
  rw [Bool.eq_iff_iff, List.any_eq_true, List.any_eq_true]
  exact ⟨fun ⟨i, hi, e⟩ => ⟨i, hi, by rw [← h i (List.mem_range.1 hi)]; exact e⟩, fun ⟨i, hi, e⟩ => ⟨i, hi, by rw [h i (List.mem_range.1 hi)]; exact e⟩⟩
/-- The parity of the edges that meet the test. -/
def parE (r : Nat → Bool) : List Nat → Bool
  | [] => false
  | i :: l => Bool.xor (r i) (parE r l)
theorem parE_snoc (r : Nat → Bool) (l : List Nat) (i : Nat) : parE r (l ++ [i]) = Bool.xor (parE r l) (r i) := by
  induction l with
  | nil => simp [parE]
  | cons j l ih => simp [parE, ih]
theorem parE_congr {f g : Nat → Bool} : ∀ {l : List Nat}, (∀ i ∈ l, f i = g i) → parE f l = parE g l
  | [], _ => rfl
  | i :: r, h => by simp only [parE]; rw [h i (List.mem_cons_self ..), parE_congr fun j hj => h j (List.mem_cons_of_mem _ hj)]
theorem parE_first (f : Nat → Bool) (n : Nat) : parE f (List.range (n + 1)) = Bool.xor (f 0) (parE (fun i => f (i + 1)) (List.range n)) := by
  induction n with
  | zero => simp [parE, List.range_succ]
  | succ n ih => rw [List.range_succ, parE_snoc, ih, List.range_succ (n := n), parE_snoc]; simp
theorem parE_turn (f : Nat → Bool) (n m : Nat) (hn : 0 < n) : parE (fun i => f ((i + m) % n)) (List.range n) = parE f (List.range n) := by
  induction m with
  | zero => exact parE_congr fun i hi => by rw [Nat.add_zero, Nat.mod_eq_of_lt (List.mem_range.1 hi)]
  | succ m ih =>
    rw [← ih]
    obtain ⟨k, rfl⟩ : ∃ k, n = k + 1 := ⟨n - 1, by omega⟩
    rw [parE_first (fun i => f ((i + m) % (k + 1))), List.range_succ, parE_snoc]
    have e : parE (fun i => f ((i + (m + 1)) % (k + 1))) (List.range k) = parE (fun i => f ((i + 1 + m) % (k + 1))) (List.range k) := parE_congr fun i _ => by rw [show i + (m + 1) = i + 1 + m by omega]
    have e2 : (k + (m + 1)) % (k + 1) = (0 + m) % (k + 1) := by rw [show k + (m + 1) = m + (k + 1) by omega, Nat.add_mod_right, Nat.zero_add]
    rw [e, e2, Bool.xor_comm]
theorem sideF_par (r : Nat → Bool) (l : List Nat) : sideF r l = if parE r l then 1 else -1 := by
  have : ∀ (l : List Nat) (s : Int), l.foldl (fun s i => if r i then -s else s) s = if parE r l then -s else s := by
    intro l
    induction l with
    | nil => intro s; simp [parE]
    | cons i l ih =>
      intro s
      rw [List.foldl_cons, ih]
      simp only [parE]
      by_cases hr : r i = true <;> by_cases hp : parE r l = true <;> simp [hr, hp]
  unfold sideF
  rw [this]
  simp

/-! ### Another corner first -/
def shL (ps : List (Int × Int)) (m : Nat) : List (Int × Int) := (List.range ps.length).map fun i => ps.getD ((i + m) % ps.length) (0, 0)
theorem shL_len (ps : List (Int × Int)) (m : Nat) : (shL ps m).length = ps.length := by simp [shL]
theorem shL_at (ps : List (Int × Int)) (m : Nat) {i : Nat} (hi : i < ps.length) : cx (shL ps m) i = cx ps ((i + m) % ps.length) ∧ cy (shL ps m) i = cy ps ((i + m) % ps.length) := by
  unfold cx cy shL
  rw [List.getD_eq_getElem?_getD, List.getElem?_map, List.getElem?_range hi]
  exact ⟨rfl, rfl⟩
theorem nx_turn (n m i : Nat) : nx n ((i + m) % n) = (nx n i + m) % n := by
  unfold nx
  rw [Nat.mod_add_mod, Nat.mod_add_mod, show i + m + 1 = i + 1 + m by omega]
theorem nx_lt' {n i : Nat} (h : i < n) : nx n i < n := Nat.mod_lt _ (by omega)
theorem shL_nx (ps : List (Int × Int)) (m : Nat) {i : Nat} (hi : i < ps.length) : cx (shL ps m) (nx (shL ps m).length i) = cx ps (nx ps.length ((i + m) % ps.length)) ∧ cy (shL ps m) (nx (shL ps m).length i) = cy ps (nx ps.length ((i + m) % ps.length)) := by
  rw [shL_len, nx_turn]
  exact shL_at ps m (nx_lt' hi)
theorem shL_allv {ps : List (Int × Int)} (h : AllV ps) (m : Nat) : AllV (shL ps m) := fun i hi => by
  rw [shL_len] at hi
  rw [(shL_at ps m hi).1, (shL_at ps m hi).2]
  exact h _ (Nat.mod_lt _ (by omega))
theorem shL_area (ps : List (Int × Int)) (m : Nat) (h0 : 0 < ps.length) : area2 (shL ps m) = area2 ps := by
  unfold area2
  rw [shL_len, ← sumE_turn (crossE ps) ps.length m h0]
  refine sumE_congr fun i hi => ?_
  have hi := List.mem_range.1 hi
  unfold crossE
  rw [(shL_at ps m hi).1, (shL_at ps m hi).2, (shL_nx ps m hi).1, (shL_nx ps m hi).2]
theorem shL_outs (ps : List (Int × Int)) (m : Nat) (h0 : 0 < ps.length) : outs (shL ps m) = outs ps := by
  unfold outs
  rw [shL_len, ← any_turn (outE ps) ps.length m h0]
  exact any_congr fun i hi => by unfold outE; rw [(shL_at ps m hi).1, (shL_at ps m hi).2]
theorem shL_loc (ps : List (Int × Int)) (m : Nat) (p q : Int) (h0 : 0 < ps.length) : locE (shL ps m) p q = locE ps p q := by
  have hon : ∀ i, i < ps.length → onE (shL ps m) p q i = onE ps p q ((i + m) % ps.length) := fun i hi => by
    unfold onE
    rw [(shL_at ps m hi).1, (shL_at ps m hi).2, (shL_nx ps m hi).1, (shL_nx ps m hi).2]
  have hray : ∀ i, i < ps.length → rayE (shL ps m) p q i = rayE ps p q ((i + m) % ps.length) := fun i hi => by
    unfold rayE
    rw [(shL_at ps m hi).1, (shL_at ps m hi).2, (shL_nx ps m hi).1, (shL_nx ps m hi).2]
  unfold locE
  rw [shL_len, any_congr hon, any_turn (onE ps p q) ps.length m h0, sideF_par, sideF_par, parE_congr (fun i hi => hray i (List.mem_range.1 hi)), parE_turn (rayE ps p q) ps.length m h0]
theorem all_turn (f : Nat → Bool) (n m : Nat) (hn : 0 < n) : (List.range n).all (fun i => f ((i + m) % n)) = (List.range n).all f := by
  have := any_turn (fun i => !f i) n m hn
  rw [← List.not_all_eq_any_not, ← List.not_all_eq_any_not] at this
  exact Bool.not_inj this
theorem all_congr {f g : Nat → Bool} {n : Nat} (h : ∀ i, i < n → f i = g i) : (List.range n).all f = (List.range n).all g := by
  rw [Bool.eq_iff_iff, List.all_eq_true, List.all_eq_true]
  exact ⟨fun a i hi => by rw [← h i (List.mem_range.1 hi)]; exact a i hi, fun a i hi => by rw [h i (List.mem_range.1 hi)]; exact a i hi⟩
theorem shL_bends (ps : List (Int × Int)) (m : Nat) (h0 : 0 < ps.length) : bendsB (shL ps m) = bendsB ps := by
  unfold bendsB
  rw [shL_len, ← all_turn (fun i => oriE ps i != 0) ps.length m h0]
  refine all_congr fun i hi => ?_
  have h2 := shL_nx ps m (nx_lt' hi)
  rw [← nx_turn] at h2
  rw [shL_len] at h2
  unfold oriE
  rw [(shL_at ps m hi).1, (shL_at ps m hi).2, (shL_nx ps m hi).1, (shL_nx ps m hi).2, shL_len, h2.1, h2.2]

theorem segB_comm (a b c d p q r s : Int) : segB a b c d p q r s = segB p q r s a b c d := by
  unfold segB
  generalize (onB a b c d p q || onB a b c d r s) = A
  generalize (onB p q r s a b || onB p q r s c d) = B
  generalize oppB (ori a b c d p q) (ori a b c d r s) = C
  generalize oppB (ori p q r s a b) (ori p q r s c d) = D
  cases A <;> cases B <;> cases C <;> cases D <;> rfl
def Apart (n i j : Nat) : Prop := i ≠ j ∧ nx n i ≠ j ∧ nx n j ≠ i
theorem nx_small {n i : Nat} (h : i + 1 < n) : nx n i = i + 1 := Nat.mod_eq_of_lt h
theorem simple_iff (ps : List (Int × Int)) : simpleB ps = true ↔ ∀ i j, i < ps.length → j < ps.length → Apart ps.length i j → segE ps i j = false := by
  unfold simpleB
  rw [List.all_eq_true]
  constructor
  · intro h
    have key : ∀ i j, i < ps.length → j < ps.length → i < j → Apart ps.length i j → segE ps i j = false := fun i j hi hj hij hap => by
      have := List.all_eq_true.1 (h i (List.mem_range.2 hi)) j (List.mem_range.2 hj)
      unfold meetB skipE at this
      have h1 : ¬ j ≤ i + 1 := fun e => by
        have : j = i + 1 := by omega
        exact hap.2.1 (by rw [nx_small (by omega)]; exact this.symm)
      have h2 : (nx ps.length j == i) = false := by rw [beq_eq_false_iff_ne]; exact hap.2.2
      rw [h2, decide_eq_false h1] at this
      simpa using this
    intro i j hi hj hap
    rcases Nat.lt_trichotomy i j with g | g | g
    · exact key i j hi hj g hap
    · exact absurd g hap.1
    · have := key j i hj hi g ⟨hap.1.symm, hap.2.2, hap.2.1⟩
      unfold segE at this ⊢
      rw [segB_comm]
      exact this
  · intro h i hi
    rw [List.all_eq_true]
    intro j hj
    have hi := List.mem_range.1 hi
    have hj := List.mem_range.1 hj
    unfold meetB skipE
    by_cases h1 : j ≤ i + 1
    · rw [decide_eq_true h1]; rfl
    · by_cases h2 : nx ps.length j = i
      · rw [show (nx ps.length j == i) = true from beq_iff_eq.2 h2]; simp
      · rw [h i j hi hj ⟨by omega, by rw [nx_small (by omega)]; omega, h2⟩]; simp
theorem turn_inj {n m i j : Nat} (hi : i < n) (hj : j < n) (h : (i + m) % n = (j + m) % n) : i = j := by
  have h1 := Nat.mod_lt m (show 0 < n by omega)
  have a : ∀ i, i < n → (i + m) % n = if i + m % n < n then i + m % n else i + m % n - n := fun i hi => by
    rw [Nat.add_mod, Nat.mod_eq_of_lt hi]
    split
    · rename_i h; exact Nat.mod_eq_of_lt h
    · rename_i h; rw [Nat.mod_eq_sub_mod (by omega), Nat.mod_eq_of_lt (by omega)]
  rw [a i hi, a j hj] at h
  split at h <;> split at h <;> omega
theorem shL_simple (ps : List (Int × Int)) (m : Nat) (h0 : 0 < ps.length) : simpleB (shL ps m) = simpleB ps := by
  have hseg : ∀ i j, i < ps.length → j < ps.length → segE (shL ps m) i j = segE ps ((i + m) % ps.length) ((j + m) % ps.length) := fun i j hi hj => by
    unfold segE
    rw [(shL_at ps m hi).1, (shL_at ps m hi).2, (shL_nx ps m hi).1, (shL_nx ps m hi).2, (shL_at ps m hj).1, (shL_at ps m hj).2, (shL_nx ps m hj).1, (shL_nx ps m hj).2]
  have hap : ∀ i j, i < ps.length → j < ps.length → (Apart ps.length ((i + m) % ps.length) ((j + m) % ps.length) ↔ Apart ps.length i j) := fun i j hi hj => by
    unfold Apart
    rw [nx_turn, nx_turn]
    constructor
    · rintro ⟨a, b, c⟩
      exact ⟨fun e => a (by rw [e]), fun e => b (by rw [e]), fun e => c (by rw [e])⟩
    · rintro ⟨a, b, c⟩
      exact ⟨fun e => a (turn_inj hi hj e), fun e => b (turn_inj (nx_lt' hi) hj e), fun e => c (turn_inj (nx_lt' hj) hi e)⟩
  rw [Bool.eq_iff_iff, simple_iff, simple_iff, shL_len]
  constructor
  · intro h i j hi hj ha
    obtain ⟨i', hi', rfl⟩ := turn_onto ps.length m i hi
    obtain ⟨j', hj', rfl⟩ := turn_onto ps.length m j hj
    rw [← hseg i' j' hi' hj']
    exact h i' j' hi' hj' ((hap i' j' hi' hj').1 ha)
  · intro h i j hi hj ha
    rw [hseg i j hi hj]
    exact h _ _ (Nat.mod_lt _ h0) (Nat.mod_lt _ h0) ((hap i j hi hj).2 ha)
theorem shL_valid (ps : List (Int × Int)) (m : Nat) (h0 : 0 < ps.length) : validP (shL ps m) = validP ps := by
  unfold validP validC
  rw [shL_len, shL_outs ps m h0, shL_bends ps m h0, shL_simple ps m h0, shL_area ps m h0]

/-! ### The reverse -/
def bkL (ps : List (Int × Int)) : List (Int × Int) := (List.range ps.length).map fun i => ps.getD (ps.length - 1 - i) (0, 0)
theorem bkL_len (ps : List (Int × Int)) : (bkL ps).length = ps.length := by simp [bkL]
theorem bkL_at (ps : List (Int × Int)) {i : Nat} (hi : i < ps.length) : cx (bkL ps) i = cx ps (ps.length - 1 - i) ∧ cy (bkL ps) i = cy ps (ps.length - 1 - i) := by
  unfold cx cy bkL
  rw [List.getD_eq_getElem?_getD, List.getElem?_map, List.getElem?_range hi]
  exact ⟨rfl, rfl⟩
theorem bkL_allv {ps : List (Int × Int)} (h : AllV ps) : AllV (bkL ps) := fun i hi => by
  rw [bkL_len] at hi
  rw [(bkL_at ps hi).1, (bkL_at ps hi).2]
  exact h _ (by omega)
theorem bkL_area (ps : List (Int × Int)) (h0 : 0 < ps.length) : area2 (bkL ps) = -area2 ps := by
  obtain ⟨k, hk⟩ : ∃ k, ps.length = k + 1 := ⟨ps.length - 1, by omega⟩
  unfold area2
  rw [bkL_len, ← sumE_neg, hk, List.range_succ, sumE_snoc, sumE_snoc, ← sumE_back (fun i => -crossE ps i) k]
  have last : crossE (bkL ps) k = -crossE ps k := by
    have h1 := bkL_at ps (i := k) (by omega)
    have h2 := bkL_at ps (i := 0) (by omega)
    have e1 : nx ps.length k = 0 := by unfold nx; rw [hk]; simp
    have e2 : ps.length - 1 - k = 0 := by omega
    have e3 : ps.length - 1 - 0 = k := by omega
    unfold crossE
    rw [bkL_len, e1, h1.1, h1.2, h2.1, h2.2, e2, e3]
    rw [Int.mul_comm (cx ps 0), Int.mul_comm (cy ps 0)]
    omega
  rw [last]
  congr 1
  refine sumE_congr fun i hi => ?_
  have hi := List.mem_range.1 hi
  have h1 := bkL_at ps (i := i) (by omega)
  have h2 := bkL_at ps (i := i + 1) (by omega)
  have e1 : nx ps.length i = i + 1 := nx_small (by omega)
  have e2 : nx ps.length (k - 1 - i) = ps.length - 1 - i := by rw [nx_small (by omega)]; omega
  have e3 : ps.length - 1 - (i + 1) = k - 1 - i := by omega
  unfold crossE
  rw [bkL_len, e1, h1.1, h1.2, h2.1, h2.2, e3, e2]
  rw [Int.mul_comm (cx ps (ps.length - 1 - i)), Int.mul_comm (cy ps (ps.length - 1 - i))]
  omega
theorem bkL_not (ps : List (Int × Int)) (h0 : 0 < ps.length) (h : validP ps = true) : validP (bkL ps) = false := by
  unfold validP at h ⊢
  rw [bkL_area ps h0]
  simp only [Bool.and_eq_true, decide_eq_true_eq] at h
  rw [decide_eq_false (by omega)]
  simp
end Go.Proofs.YthmcejeeohlafaaDoor
