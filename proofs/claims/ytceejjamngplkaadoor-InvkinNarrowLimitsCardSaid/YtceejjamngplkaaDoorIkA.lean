/- Mathematics for layer 8: the joint configurations that reach a target, as a list. -/
import Derived.Test.YtceejjamngplkaaDoorAmN
namespace Go.Proofs.YtceejjamngplkaaDoor
set_option linter.unusedVariables false
set_option linter.unusedSimpArgs false
set_option maxRecDepth 100000
/-- The numbers from l to h. -/
def ups (l h : Int) : List Int := (List.range (h - l + 1).toNat).map fun (i : Nat) => l + (i : Int)
theorem mem_ups {l h x : Int} : x ∈ ups l h ↔ l ≤ x ∧ x ≤ h := by
  unfold ups
  rw [List.mem_map]
  constructor
  · rintro ⟨i, hi, rfl⟩
    rw [List.mem_range] at hi
    omega
  · intro hx
    exact ⟨(x - l).toNat, by rw [List.mem_range]; omega, by omega⟩
theorem ups_pair (l h : Int) : (ups l h).Pairwise (· < ·) := by
  unfold ups
  rw [List.pairwise_map]
  exact List.Pairwise.imp (fun h => by omega) List.pairwise_lt_range
theorem ups_length (l h : Int) : (ups l h).length = (h - l + 1).toNat := by simp [ups]
/-- The same numbers, each with its bounds. -/
abbrev BtwI (l h : Int) := {x : Int // l ≤ x ∧ x ≤ h}
def upS (l h : Int) : Nat → List (BtwI l h)
  | 0 => []
  | k + 1 => if hk : l + (k : Int) ≤ h then upS l h k ++ [⟨l + (k : Int), by omega, hk⟩] else upS l h k
theorem upS_succ {l h : Int} {k : Nat} (hk : l + (k : Int) ≤ h) : upS l h (k + 1) = upS l h k ++ [⟨l + (k : Int), by omega, hk⟩] := by
  rw [upS, dif_pos hk]
theorem upS_length {l h : Int} {k : Nat} (hk : l + (k : Int) ≤ h + 1) : (upS l h k).length = k := by
  induction k with
  | zero => rfl
  | succ k ih => rw [upS_succ (by omega), List.length_append, ih (by omega)]; rfl
def valB {l h : Int} (xs : List (BtwI l h)) : List Int := xs.map (·.1)
theorem valB_snoc {l h : Int} (xs : List (BtwI l h)) (x : BtwI l h) : valB (xs ++ [x]) = valB xs ++ [x.1] := by simp [valB]
theorem valB_upS {l h : Int} {k : Nat} (hk : l + (k : Int) ≤ h + 1) : valB (upS l h k) = (List.range k).map fun (i : Nat) => l + (i : Int) := by
  induction k with
  | zero => rfl
  | succ k ih => rw [upS_succ (by omega), valB_snoc, ih (by omega), List.range_succ, List.map_append]; rfl
theorem valB_all {l h : Int} : valB (upS l h (h - l + 1).toNat) = ups l h := by
  by_cases hh : l ≤ h + 1
  · exact valB_upS (by omega)
  · rw [show (h - l + 1).toNat = 0 by omega, ups, show (h - l + 1).toNat = 0 by omega]; rfl

/-- Where the third link begins, and the direction of the third link. -/
def pw (X Y n0 n1 q0 q1 : Int) : Int × Int := (X + n0 * (67600 * (rE q0).1) + n1 * (1040 * (gm (rE q0) (rE q1)).1), Y + n0 * (67600 * (rE q0).2) + n1 * (1040 * (gm (rE q0) (rE q1)).2))
def pd (q0 q1 q2 : Int) : Int × Int := gm (gm (rE q0) (rE q1)) (rE q2)
abbrev J3 := Int × Int × Int
/-- The third joints for two given ones; the configurations for the first joint; all of them. -/
def sol2 (X Y n0 n1 n2 l2 h2 px py dx dy a b : Int) : List J3 :=
  if pw X Y n0 n1 a b = (px - n2 * (16 * dx), py - n2 * (16 * dy)) then ((ups l2 h2).filter fun c => decide (pd a b c = (dx, dy))).map fun c => (a, b, c) else []
def sol1 (X Y n0 n1 n2 l1 l2 h1 h2 px py dx dy a : Int) : List J3 := (ups l1 h1).flatMap fun b => sol2 X Y n0 n1 n2 l2 h2 px py dx dy a b
def solL (X Y n0 n1 n2 l0 l1 l2 h0 h1 h2 px py dx dy : Int) : List J3 := (ups l0 h0).flatMap fun a => sol1 X Y n0 n1 n2 l1 l2 h1 h2 px py dx dy a
/-- Whether a configuration reaches a target. -/
def Reach3 (X Y n0 n1 n2 px py dx dy : Int) (q : J3) : Prop := pw X Y n0 n1 q.1 q.2.1 = (px - n2 * (16 * dx), py - n2 * (16 * dy)) ∧ pd q.1 q.2.1 q.2.2 = (dx, dy)
def In3 (l0 l1 l2 h0 h1 h2 : Int) (q : J3) : Prop := (l0 ≤ q.1 ∧ q.1 ≤ h0) ∧ (l1 ≤ q.2.1 ∧ q.2.1 ≤ h1) ∧ l2 ≤ q.2.2 ∧ q.2.2 ≤ h2
theorem mem_sol2 {X Y n0 n1 n2 l2 h2 px py dx dy a b : Int} {q : J3} : q ∈ sol2 X Y n0 n1 n2 l2 h2 px py dx dy a b ↔ (q.1 = a ∧ q.2.1 = b) ∧ (l2 ≤ q.2.2 ∧ q.2.2 ≤ h2) ∧ Reach3 X Y n0 n1 n2 px py dx dy q := by
  obtain ⟨x, y, z⟩ := q
  unfold sol2 Reach3
  simp only
  split
  · rename_i hw
    rw [List.mem_map]
    constructor
    · rintro ⟨c, hc, e⟩
      rw [List.mem_filter, mem_ups, decide_eq_true_eq] at hc
      simp only [Prod.mk.injEq] at e
      obtain ⟨rfl, rfl, rfl⟩ := e
      exact ⟨⟨rfl, rfl⟩, hc.1, hw, hc.2⟩
    · rintro ⟨⟨rfl, rfl⟩, hb, -, hd⟩
      exact ⟨z, by rw [List.mem_filter, mem_ups, decide_eq_true_eq]; exact ⟨hb, hd⟩, rfl⟩
  · rename_i hw
    constructor
    · intro h; cases h
    · rintro ⟨⟨rfl, rfl⟩, -, h, -⟩; exact (hw h).elim
theorem mem_sol1 {X Y n0 n1 n2 l1 l2 h1 h2 px py dx dy a : Int} {q : J3} : q ∈ sol1 X Y n0 n1 n2 l1 l2 h1 h2 px py dx dy a ↔ q.1 = a ∧ (l1 ≤ q.2.1 ∧ q.2.1 ≤ h1) ∧ (l2 ≤ q.2.2 ∧ q.2.2 ≤ h2) ∧ Reach3 X Y n0 n1 n2 px py dx dy q := by
  unfold sol1
  rw [List.mem_flatMap]
  constructor
  · rintro ⟨b, hb, hq⟩
    rw [mem_ups] at hb
    rw [mem_sol2] at hq
    exact ⟨hq.1.1, by rw [hq.1.2]; exact hb, hq.2⟩
  · rintro ⟨ha, hb, hc, hr⟩
    exact ⟨q.2.1, mem_ups.2 hb, mem_sol2.2 ⟨⟨ha, rfl⟩, hc, hr⟩⟩
theorem mem_solL {X Y n0 n1 n2 l0 l1 l2 h0 h1 h2 px py dx dy : Int} {q : J3} : q ∈ solL X Y n0 n1 n2 l0 l1 l2 h0 h1 h2 px py dx dy ↔ In3 l0 l1 l2 h0 h1 h2 q ∧ Reach3 X Y n0 n1 n2 px py dx dy q := by
  unfold solL In3
  rw [List.mem_flatMap]
  constructor
  · rintro ⟨a, ha, hq⟩
    rw [mem_ups] at ha
    rw [mem_sol1] at hq
    exact ⟨⟨by rw [hq.1]; exact ha, hq.2.1, hq.2.2.1⟩, hq.2.2.2⟩
  · rintro ⟨⟨ha, hb, hc⟩, hr⟩
    exact ⟨q.1, mem_ups.2 ha, mem_sol1.2 ⟨rfl, hb, hc, hr⟩⟩
/-- Lexicographic order. -/
def lt3 (p q : J3) : Prop := p.1 < q.1 ∨ p.1 = q.1 ∧ (p.2.1 < q.2.1 ∨ p.2.1 = q.2.1 ∧ p.2.2 < q.2.2)
theorem lt3_irr (p : J3) : ¬ lt3 p p := by unfold lt3; omega
theorem lt3_tr {p q r : J3} (h : lt3 p q) (k : lt3 q r) : lt3 p r := by unfold lt3 at *; omega
theorem lt3_as {p q : J3} (h : lt3 p q) (k : lt3 q p) : False := lt3_irr _ (lt3_tr h k)
theorem pair_flatMap {α β : Type} {R : β → β → Prop} {S : α → α → Prop} {l : List α} {f : α → List β} (hl : l.Pairwise S) (hf : ∀ a ∈ l, (f a).Pairwise R) (hc : ∀ a b, S a b → ∀ x ∈ f a, ∀ y ∈ f b, R x y) : (l.flatMap f).Pairwise R := by
  induction l with
  | nil => exact List.Pairwise.nil
  | cons a l ih =>
    rw [List.pairwise_cons] at hl
    rw [List.flatMap_cons, List.pairwise_append]
    refine ⟨hf a (by simp), ih hl.2 (fun b hb => hf b (by simp [hb])), fun x hx y hy => ?_⟩
    rw [List.mem_flatMap] at hy
    obtain ⟨b, hb, hy⟩ := hy
    exact hc a b (hl.1 b hb) x hx y hy
theorem sol2_sorted (X Y n0 n1 n2 l2 h2 px py dx dy a b : Int) : (sol2 X Y n0 n1 n2 l2 h2 px py dx dy a b).Pairwise lt3 := by
  unfold sol2
  split
  · rw [List.pairwise_map]
    exact List.Pairwise.imp (fun {c d} (h : c < d) => Or.inr ⟨rfl, Or.inr ⟨rfl, h⟩⟩) (List.Pairwise.filter _ (ups_pair l2 h2))
  · exact List.Pairwise.nil
theorem sol1_sorted (X Y n0 n1 n2 l1 l2 h1 h2 px py dx dy a : Int) : (sol1 X Y n0 n1 n2 l1 l2 h1 h2 px py dx dy a).Pairwise lt3 := by
  unfold sol1
  refine pair_flatMap (ups_pair l1 h1) (fun b _ => sol2_sorted ..) (fun b b' hb x hx y hy => ?_)
  rw [mem_sol2] at hx hy
  unfold lt3
  omega
theorem solL_sorted (X Y n0 n1 n2 l0 l1 l2 h0 h1 h2 px py dx dy : Int) : (solL X Y n0 n1 n2 l0 l1 l2 h0 h1 h2 px py dx dy).Pairwise lt3 := by
  unfold solL
  refine pair_flatMap (ups_pair l0 h0) (fun b _ => sol1_sorted ..) (fun b b' hb x hx y hy => ?_)
  rw [mem_sol1] at hx hy
  unfold lt3
  omega
/-- Two sorted lists with the same elements are the same. -/
theorem sorted_ext {l m : List J3} (hl : l.Pairwise lt3) (hm : m.Pairwise lt3) (h : ∀ q, q ∈ l ↔ q ∈ m) : l = m := by
  induction l generalizing m with
  | nil =>
    cases m with
    | nil => rfl
    | cons b m => exact absurd ((h b).2 (by simp)) (by simp)
  | cons a l ih =>
    cases m with
    | nil => exact absurd ((h a).1 (by simp)) (by simp)
    | cons b m =>
      rw [List.pairwise_cons] at hl hm
      have e : a = b := by
        have h1 := (h a).1 (by simp)
        have h2 := (h b).2 (by simp)
        rw [List.mem_cons] at h1 h2
        rcases h1 with h1 | h1
        · exact h1
        · rcases h2 with h2 | h2
          · exact h2.symm
          · exact (lt3_as (hm.1 a h1) (hl.1 b h2)).elim
      subst e
      rw [ih hl.2 hm.2 (fun q => ?_)]
      constructor
      · intro hq
        have := (h q).1 (List.mem_cons_of_mem _ hq)
        rw [List.mem_cons] at this
        rcases this with rfl | this
        · exact (lt3_irr _ (hl.1 _ hq)).elim
        · exact this
      · intro hq
        have := (h q).2 (List.mem_cons_of_mem _ hq)
        rw [List.mem_cons] at this
        rcases this with rfl | this
        · exact (lt3_irr _ (hm.1 _ hq)).elim
        · exact this
/-- Narrower limits. -/
theorem solL_narrow {X Y n0 n1 n2 l0 l1 l2 h0 h1 h2 k0 k1 k2 i0 i1 i2 px py dx dy : Int} (f : J3 → Bool) (hf : ∀ q, f q = true ↔ In3 k0 k1 k2 i0 i1 i2 q) (hn : ∀ q, In3 k0 k1 k2 i0 i1 i2 q → In3 l0 l1 l2 h0 h1 h2 q) :
    solL X Y n0 n1 n2 k0 k1 k2 i0 i1 i2 px py dx dy = (solL X Y n0 n1 n2 l0 l1 l2 h0 h1 h2 px py dx dy).filter f := by
  refine sorted_ext (solL_sorted ..) (List.Pairwise.filter _ (solL_sorted ..)) (fun q => ?_)
  rw [List.mem_filter, mem_solL, mem_solL, hf]
  exact ⟨fun h => ⟨⟨hn q h.1, h.2⟩, h.1⟩, fun h => ⟨h.2, h.1.2⟩⟩
theorem solL_moved (X Y n0 n1 n2 l0 l1 l2 h0 h1 h2 px py dx dy u v : Int) : solL (X + u) (Y + v) n0 n1 n2 l0 l1 l2 h0 h1 h2 (px + u) (py + v) dx dy = solL X Y n0 n1 n2 l0 l1 l2 h0 h1 h2 px py dx dy := by
  refine sorted_ext (solL_sorted ..) (solL_sorted ..) (fun q => ?_)
  rw [mem_solL, mem_solL]
  unfold Reach3 pw
  simp only [Prod.mk.injEq]
  refine and_congr Iff.rfl (and_congr ?_ Iff.rfl)
  omega
end Go.Proofs.YtceejjamngplkaaDoor
