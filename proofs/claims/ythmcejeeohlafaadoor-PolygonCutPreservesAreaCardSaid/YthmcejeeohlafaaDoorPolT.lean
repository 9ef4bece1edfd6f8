/- Plain mathematics of layer 3: moving a polygon changes neither validity nor area nor location. -/
import Derived.Test.YthmcejeeohlafaaDoorPolQ
import Derived.Test.YthmcejeeohlafaaDoorPolI
namespace Go.Proofs.YthmcejeeohlafaaDoor
open Go.ChangeShapes Go.WideShapes Go.ChangeAt Go.RowKit
set_option linter.unusedVariables false
set_option linter.unusedSimpArgs false

theorem mnI_mov (a b u : Int) : mnI (a + u) (b + u) = mnI a b + u := by unfold mnI; split <;> split <;> omega
theorem mxI_mov (a b u : Int) : mxI (a + u) (b + u) = mxI a b + u := by unfold mxI; split <;> split <;> omega
theorem ori_mov (a b c d p q u v : Int) : ori (a + u) (b + v) (c + u) (d + v) (p + u) (q + v) = ori a b c d p q := by
  unfold ori
  rw [show c + u - (a + u) = c - a by omega, show q + v - (b + v) = q - b by omega, show d + v - (b + v) = d - b by omega, show p + u - (a + u) = p - a by omega]
theorem le_mov (a b u : Int) : decide (a + u ≤ b + u) = decide (a ≤ b) := by rw [decide_eq_decide]; omega
theorem lt_mov (a b u : Int) : decide (a + u < b + u) = decide (a < b) := by rw [decide_eq_decide]; omega
theorem onB_mov (a b c d p q u v : Int) : onB (a + u) (b + v) (c + u) (d + v) (p + u) (q + v) = onB a b c d p q := by
  unfold onB
  rw [mnI_mov, mxI_mov, mnI_mov, mxI_mov, ori_mov, le_mov, le_mov, le_mov, le_mov]
theorem segB_mov (a b c d p q r s u v : Int) : segB (a + u) (b + v) (c + u) (d + v) (p + u) (q + v) (r + u) (s + v) = segB a b c d p q r s := by
  unfold segB
  rw [onB_mov, onB_mov, onB_mov, onB_mov, ori_mov, ori_mov, ori_mov, ori_mov]
theorem upB_mov (a b c d p q u v : Int) : upB (a + u) (b + v) (c + u) (d + v) (p + u) (q + v) = upB a b c d p q := by
  unfold upB
  rw [ori_mov, le_mov, lt_mov]
theorem rayB_mov (a b c d p q u v : Int) : rayB (a + u) (b + v) (c + u) (d + v) (p + u) (q + v) = rayB a b c d p q := by
  unfold rayB
  rw [upB_mov, upB_mov]
  by_cases h : d < b
  · rw [if_pos h, if_pos (by omega)]
  · rw [if_neg h, if_neg (by omega)]
theorem movL_nx (ps : List (Int × Int)) (u v : Int) {i : Nat} (hi : i < ps.length) : cx (movL ps u v) (nx (movL ps u v).length i) = cx ps (nx ps.length i) + u ∧ cy (movL ps u v) (nx (movL ps u v).length i) = cy ps (nx ps.length i) + v := by
  rw [movL_len]
  exact movL_at ps u v (nx_lt' hi)
theorem movL_loc (ps : List (Int × Int)) (p q u v : Int) : locE (movL ps u v) (p + u) (q + v) = locE ps p q := by
  unfold locE
  rw [sideF_par, sideF_par, movL_len]
  rw [any_congr (g := onE ps p q) (fun i hi => by
    unfold onE
    rw [(movL_at ps u v hi).1, (movL_at ps u v hi).2, (movL_nx ps u v hi).1, (movL_nx ps u v hi).2, onB_mov])]
  rw [parE_congr (g := rayE ps p q) (fun i hi => by
    have hi := List.mem_range.1 hi
    unfold rayE
    rw [(movL_at ps u v hi).1, (movL_at ps u v hi).2, (movL_nx ps u v hi).1, (movL_nx ps u v hi).2, rayB_mov])]
theorem movL_bends (ps : List (Int × Int)) (u v : Int) : bendsB (movL ps u v) = bendsB ps := by
  unfold bendsB
  rw [movL_len]
  exact all_congr fun i hi => by
    have e := movL_nx ps u v hi
    have e2 := movL_nx ps u v (nx_lt' hi)
    have e0 := movL_at ps u v hi
    rw [movL_len] at e e2
    unfold oriE
    rw [movL_len, e0.1, e0.2, e.1, e.2, e2.1, e2.2, ori_mov]
theorem movL_simple (ps : List (Int × Int)) (u v : Int) : simpleB (movL ps u v) = simpleB ps := by
  unfold simpleB
  rw [movL_len]
  exact all_congr fun i hi => all_congr fun j hj => by
    have e := movL_nx ps u v hi
    have e2 := movL_nx ps u v hj
    have e0 := movL_at ps u v hi
    have e1 := movL_at ps u v hj
    rw [movL_len] at e e2
    unfold meetB segE
    rw [movL_len, e0.1, e0.2, e1.1, e1.2, e.1, e.2, e2.1, e2.2, segB_mov]
theorem sumE_add (f g : Nat → Int) : ∀ l, sumE (fun i => f i + g i) l = sumE f l + sumE g l
  | [] => rfl
  | i :: l => by simp only [sumE]; rw [sumE_add f g l]; omega
theorem movL_area (ps : List (Int × Int)) (u v : Int) (h0 : 0 < ps.length) : area2 (movL ps u v) = area2 ps := by
  unfold area2
  rw [movL_len]
  rw [sumE_congr (g := fun i => crossE ps i + ((fun i => v * cx ps i - u * cy ps i) i + -(fun i => v * cx ps i - u * cy ps i) ((i + 1) % ps.length))) (fun i hi => by
    have hi := List.mem_range.1 hi
    have e := movL_nx ps u v hi
    have e0 := movL_at ps u v hi
    unfold crossE
    rw [e0.1, e0.2, e.1, e.2]
    show _ = _ + (v * cx ps i - u * cy ps i + -(v * cx ps (nx ps.length i) - u * cy ps (nx ps.length i)))
    generalize cx ps (nx ps.length i) = c
    generalize cy ps (nx ps.length i) = d
    generalize cx ps i = a
    generalize cy ps i = b
    grind)]
  rw [sumE_add, sumE_add, sumE_neg (fun i => (fun i => v * cx ps i - u * cy ps i) ((i + 1) % ps.length)), sumE_turn (fun i => v * cx ps i - u * cy ps i) ps.length 1 h0]
  omega
theorem movL_back (ps : List (Int × Int)) (u v : Int) : movL (movL ps u v) (-u) (-v) = ps := by
  unfold movL
  rw [List.map_map]
  have : ((fun p : Int × Int => (p.1 + -u, p.2 + -v)) ∘ fun p : Int × Int => (p.1 + u, p.2 + v)) = id := by
    funext p
    exact Prod.ext (show p.1 + u + -u = p.1 by omega) (show p.2 + v + -v = p.2 by omega)
  rw [this, List.map_id]
/-- Small coordinates. -/
def InS (x : Int) : Prop := -131820000 ≤ x ∧ x ≤ 131820000
def AllS (l : List (Int × Int)) : Prop := ∀ i, i < l.length → InS (cx l i) ∧ InS (cy l i)
def InM (x : Int) : Prop := -110000000 ≤ x ∧ x ≤ 110000000
theorem movL_allv {ps : List (Int × Int)} (h : AllS ps) {u v : Int} (hu : InM u) (hv : InM v) : AllV (movL ps u v) := fun i hi => by
  rw [movL_len] at hi
  rw [(movL_at ps u v hi).1, (movL_at ps u v hi).2]
  obtain ⟨h1, h2⟩ := h i hi
  unfold InS at h1 h2
  unfold InM at hu hv
  unfold InV
  omega
theorem movL_valid {ps : List (Int × Int)} (h : AllS ps) {u v : Int} (hu : InM u) (hv : InM v) (hp : validP ps = true) : validP (movL ps u v) = true := by
  unfold validP at hp ⊢
  rw [Bool.and_eq_true, Bool.and_eq_true, Bool.and_eq_true] at hp
  obtain ⟨h1, h2, h3, h4⟩ := hp
  obtain ⟨k1, k2, k3⟩ := (validC_iff ps).1 h1
  rw [movL_bends, movL_simple, movL_area ps u v (by omega), h2, h3, h4, (validC_iff _).2 ⟨by rw [movL_len]; exact k1, by rw [movL_len]; exact k2, movL_allv h hu hv⟩]
  rfl
end Go.Proofs.YthmcejeeohlafaaDoor
