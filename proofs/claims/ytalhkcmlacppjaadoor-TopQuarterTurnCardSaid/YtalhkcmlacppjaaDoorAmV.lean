/- Mathematics of a link's body; rows beside blocks that are filled. -/
import Derived.Test.YtalhkcmlacppjaaDoorAmT
import Derived.Test.YtalhkcmlacppjaaDoorAmA
namespace Go.Proofs.YtalhkcmlacppjaaDoor
open Go.ChangeShapes Go.WideShapes Go.ChangeAt Go.RowKit
set_option linter.unusedVariables false
set_option linter.unusedSimpArgs false
set_option maxRecDepth 100000

theorem bod_rect (c d n u v W : Int) : bodL c d (c + n * u) (d + n * v) (W * u) (W * v) = rectL (c, d) (u, v) n W := rfl
theorem allv_mem {L : List (Int × Int)} (h : ∀ p ∈ L, InV p.1 ∧ InV p.2) : AllV L := fun i hi => by
  unfold cx cy
  rw [List.getD_eq_getElem?_getD, List.getElem?_eq_getElem hi]
  exact h _ (List.getElem_mem hi)
theorem link_facts {c d n u v W : Int} (hn : 1 ≤ n) (hW : 1 ≤ W) (hu : u * u + v * v = 4394000 * 4394000) (du : u % 16 = 0 ∧ v % 16 = 0) (dA : c % 16 = 0 ∧ d % 16 = 0) (B : ∀ p ∈ bodL c d (c + n * u) (d + n * v) (W * u) (W * v), InV p.1 ∧ InV p.2) :
    validP (bodL c d (c + n * u) (d + n * v) (W * u) (W * v)) = true ∧ area2 (bodL c d (c + n * u) (d + n * v) (W * u) (W * v)) = 4 * n * W * 4394000 * 4394000 ∧ locE (bodL c d (c + n * u) (d + n * v) (W * u) (W * v)) c d = 0 ∧ locE (bodL c d (c + n * u) (d + n * v) (W * u) (W * v)) (c + n * u) (d + n * v) = 0 ∧
    (∀ p ∈ bodL c d (c + n * u) (d + n * v) (W * u) (W * v), p.1 % 16 = 0 ∧ p.2 % 16 = 0) ∧ bodL c d (c + n * u) (d + n * v) (W * u) (W * v) ≠ [(0, 0), (0, 0), (0, 0), (0, 0)] ∧ farI c d (c + n * u) (d + n * v) = (n * 274625) * (n * 274625) ∧ ((c + n * u) % 16 = 0 ∧ (d + n * v) % 16 = 0) := by
  have hA : area2 (bodL c d (c + n * u) (d + n * v) (W * u) (W * v)) = 4 * n * W * 4394000 * 4394000 := by
    rw [bod_rect, rect_area]
    simp only
    rw [hu]; grind
  have hp : 0 < n * W := Int.mul_pos (by omega) (by omega)
  have hA0 : 0 < area2 (bodL c d (c + n * u) (d + n * v) (W * u) (W * v)) := by
    rw [hA, show 4 * n * W * 4394000 * 4394000 = n * W * 77228944000000 by grind]
    omega
  obtain ⟨u', rfl⟩ : ∃ z, u = 16 * z := ⟨u / 16, by omega⟩
  obtain ⟨v', rfl⟩ : ∃ z, v = 16 * z := ⟨v / 16, by omega⟩
  have e1 : n * (16 * u') = 16 * (n * u') := by grind
  have e2 : n * (16 * v') = 16 * (n * v') := by grind
  have e3 : W * (16 * u') = 16 * (W * u') := by grind
  have e4 : W * (16 * v') = 16 * (W * v') := by grind
  refine ⟨?_, hA, ?_, ?_, ?_, ?_, ?_, ?_, ?_⟩
  · refine conv_valid ?_ (by show 4 ≤ 12; omega) (allv_mem B) hA0
    rw [bod_rect]
    exact rect_conv _ _ (by omega) (by omega) (by simp only; omega)
  · rw [bod_rect]; exact (rect_on (c, d) (16 * u', 16 * v') n W).1
  · rw [bod_rect]; exact (rect_on (c, d) (16 * u', 16 * v') n W).2
  · unfold bodL
    rw [e1, e2, e3, e4]
    simp only [List.forall_mem_cons]
    refine ⟨by omega, by omega, by omega, by omega, fun x hx => absurd hx List.not_mem_nil⟩
  · intro e
    rw [e] at hA0
    exact absurd hA0 (by decide)
  · unfold farI
    rw [e1, e2, show c - (c + 16 * (n * u')) = 16 * (-(n * u')) by omega, show d - (d + 16 * (n * v')) = 16 * (-(n * v')) by omega, Int.mul_tdiv_cancel_left _ (by omega), Int.mul_tdiv_cancel_left _ (by omega)]
    have h1 : u' * u' + v' * v' = 274625 * 274625 := by
      have : 16 * u' * (16 * u') + 16 * v' * (16 * v') = 256 * (u' * u' + v' * v') := by grind
      omega
    have h2 : -(n * u') * -(n * u') + -(n * v') * -(n * v') = n * n * (u' * u' + v' * v') := by grind
    rw [h2, h1]; grind
  · omega
  · omega
section
variable {X Y n0 n1 n2 W l0 l1 l2 h0 h1 h2 q0 q1 q2 x1 x2 x3 y1 y2 y3 u1 u2 u3 v1 v2 v3 a1 a2 a3 b1 b2 b3 : Int}
theorem pose_div (P : Pose X Y n0 n1 n2 q0 q1 q2 x1 x2 x3 y1 y2 y3 u1 u2 u3 v1 v2 v3 a1 a2 a3 b1 b2 b3) : (u1 % 16 = 0 ∧ v1 % 16 = 0) ∧ (u2 % 16 = 0 ∧ v2 % 16 = 0) ∧ u3 % 16 = 0 ∧ v3 % 16 = 0 := by
  have := P.f1
  have := P.f2
  have := P.f3
  omega
end
theorem prow_setRow {w : World} {g r : Nat} {l : List (Int × Int)} (h : PRow w (some ⟨g, 0, none⟩) l) (hne : g ≠ r) (cs : Array Value) : PRow (w.setRow r cs) (some ⟨g, 0, none⟩) l := fun i hi => by
  obtain ⟨b, o, e, c, d⟩ := h i hi
  cases e
  exact ⟨_, _, rfl, (cell_setRow_other _ _ _ _ hne).trans c, (cell_setRow_other _ _ _ _ hne).trans d⟩
theorem prow_notzero {w : World} {g r : Nat} {l : List (Int × Int)} {T : TypeId} (h : PRow w (some ⟨g, 0, none⟩) l) (hz : w.heap[r]? = some (.cells #[.int .i64 0, .int .i64 0, .int .i64 0, .int .i64 0, .int .i64 0, .int .i64 0, .int .i64 0, .int .i64 0] T (0, 0))) (hl : l.length = 4) (hne : l ≠ [(0, 0), (0, 0), (0, 0), (0, 0)]) : g ≠ r := fun e => by
  subst e
  apply hne
  match l, hl with
  | [p0, p1, p2, p3], _ =>
    have k : ∀ i, i < 4 → [p0, p1, p2, p3].getD i (0, 0) = (0, 0) := fun i hi => by
      obtain ⟨b, o, e, c, d⟩ := h i hi
      cases e
      have z : ∀ j, j < 8 → w.cell? ⟨g, j, none⟩ = some (.int .i64 0) := fun j hj => by
        have : j = 0 ∨ j = 1 ∨ j = 2 ∨ j = 3 ∨ j = 4 ∨ j = 5 ∨ j = 6 ∨ j = 7 := by omega
        rcases this with rfl | rfl | rfl | rfl | rfl | rfl | rfl | rfl <;> exact blk_cell hz _ _ rfl
      rw [Nat.zero_add, z _ (by omega)] at c
      rw [Nat.zero_add, z _ (by omega)] at d
      have c' := Option.some.inj c
      have d' := Option.some.inj d
      injection c' with _ c'
      injection d' with _ d'
      exact Prod.ext c'.symm d'.symm
    have k0 := k 0 (by omega)
    have k1 := k 1 (by omega)
    have k2 := k 2 (by omega)
    have k3 := k 3 (by omega)
    simp only [List.getD_cons_zero, List.getD_cons_succ] at k0 k1 k2 k3
    rw [k0, k1, k2, k3]
end Go.Proofs.YtalhkcmlacppjaaDoor
