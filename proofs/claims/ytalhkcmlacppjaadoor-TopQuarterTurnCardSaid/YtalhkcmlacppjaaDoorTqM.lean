/- Mathematics of TopQuarterTurn: a quarter turn keeps which convex polygons meet. -/
import Derived.Test.YtalhkcmlacppjaaDoorAmA
import Derived.Test.YtalhkcmlacppjaaDoorIuB
namespace Go.Proofs.YtalhkcmlacppjaaDoor
open Go.ChangeShapes Go.WideShapes Go.ChangeAt Go.RowKit
set_option linter.unusedVariables false
set_option linter.unusedSimpArgs false
def qr (o p : Int × Int) : Int × Int := (o.1 - (p.2 - o.2), o.2 + p.1 - o.1)
def qrL (o : Int × Int) (l : List (Int × Int)) : List (Int × Int) := l.map (qr o)
theorem qr_dt (o a b c : Int × Int) : dt (qr o a) (qr o b) (qr o c) = dt a b c := by unfold dt det qr; simp only; grind
theorem qrL_len (o : Int × Int) (l : List (Int × Int)) : (qrL o l).length = l.length := by unfold qrL; rw [List.length_map]
theorem qrL_at (o : Int × Int) (l : List (Int × Int)) {k : Nat} (h : k < l.length) : gp (qrL o l) k = qr o (gp l k) := by
  rw [gp_lt (by rw [qrL_len]; exact h), gp_lt h]
  unfold qrL
  rw [List.getElem_map]
theorem qrL_conv (o : Int × Int) {h : List (Int × Int)} (hC : Conv h) : Conv (qrL o h) := by
  have L := qrL_len o h
  refine ⟨by rw [L]; exact hC.1, fun i j hi hj h1 h2 => ?_⟩
  rw [L] at hi hj h2 ⊢
  have hn : nx h.length i < h.length := Nat.mod_lt _ (by have := hC.1; omega)
  rw [qrL_at o h hi, qrL_at o h hn, qrL_at o h hj, qr_dt]
  exact hC.2 i j hi hj h1 h2
theorem both_conv {a b : List (Int × Int)} (hA : Conv a) (hB : Conv b) : Both a b ↔ ∃ N X Y : Int, 0 < N ∧ inAll (scL N a) (X, Y) ∧ inAll (scL N b) (X, Y) := by
  constructor
  · rintro ⟨N, X, Y, hN, h1, h2⟩
    exact ⟨N, X, Y, hN, (conv_loc _ _ rfl (hA.sc hN) (X, Y)).1 h1, (conv_loc _ _ rfl (hB.sc hN) (X, Y)).1 h2⟩
  · rintro ⟨N, X, Y, hN, h1, h2⟩
    exact ⟨N, X, Y, hN, (conv_loc _ _ rfl (hA.sc hN) (X, Y)).2 h1, (conv_loc _ _ rfl (hB.sc hN) (X, Y)).2 h2⟩
theorem qr_sc (o p : Int × Int) (N : Int) : (N * (qr o p).1, N * (qr o p).2) = qr (N * o.1, N * o.2) (N * p.1, N * p.2) := by
  unfold qr; exact Prod.ext (by simp only; grind) (by simp only; grind)
theorem qr_in {a : List (Int × Int)} (o : Int × Int) {N X Y : Int} (h : inAll (scL N a) (X, Y)) : inAll (scL N (qrL o a)) (qr (N * o.1, N * o.2) (X, Y)) := fun i hi => by
  rw [scL_len, qrL_len] at hi
  rw [scL_len, qrL_len]
  have hn : nx a.length i < a.length := Nat.mod_lt _ (by omega)
  have t := h i (by rw [scL_len]; exact hi)
  rw [scL_len] at t
  rw [gp_sc, gp_sc] at t
  rw [gp_sc, gp_sc, qrL_at o a hi, qrL_at o a hn, qr_sc, qr_sc, qr_dt]
  exact t
theorem qr_both {a b : List (Int × Int)} (o : Int × Int) (hA : Conv a) (hB : Conv b) (h : Both a b) : Both (qrL o a) (qrL o b) := by
  obtain ⟨N, X, Y, hN, h1, h2⟩ := (both_conv hA hB).1 h
  exact (both_conv (qrL_conv o hA) (qrL_conv o hB)).2 ⟨N, _, _, hN, qr_in o h1, qr_in o h2⟩
theorem qr_four (o p : Int × Int) : qr o (qr o (qr o (qr o p))) = p := by unfold qr; exact Prod.ext (by simp only; omega) (by simp only; omega)
theorem qrL_four (o : Int × Int) (a : List (Int × Int)) : qrL o (qrL o (qrL o (qrL o a))) = a := by
  unfold qrL
  rw [List.map_map, List.map_map, List.map_map]
  have : (qr o ∘ qr o) ∘ (qr o ∘ qr o) = id := funext fun p => qr_four o p
  exact (List.map_congr_left (fun p _ => qr_four o p)).trans (List.map_id _)
/-- A quarter turn keeps which convex polygons meet. -/
theorem qr_touch {a b : List (Int × Int)} (o : Int × Int) (hA : Conv a) (hB : Conv b) : touchB (qrL o a) (qrL o b) = touchB a b := by
  have k : ∀ {a b : List (Int × Int)}, Conv a → Conv b → (touchB a b = true ↔ Both a b) := fun hA hB => touch_both (conv_good hA) (conv_good hB)
  have a1 := qrL_conv o hA
  have b1 := qrL_conv o hB
  have a2 := qrL_conv o a1
  have b2 := qrL_conv o b1
  have a3 := qrL_conv o a2
  have b3 := qrL_conv o b2
  rw [Bool.eq_iff_iff, k a1 b1, k hA hB]
  refine ⟨fun h => ?_, fun h => qr_both o hA hB h⟩
  have t := qr_both o a3 b3 (qr_both o a2 b2 (qr_both o a1 b1 h))
  rwa [qrL_four, qrL_four] at t
end Go.Proofs.YtalhkcmlacppjaaDoor
