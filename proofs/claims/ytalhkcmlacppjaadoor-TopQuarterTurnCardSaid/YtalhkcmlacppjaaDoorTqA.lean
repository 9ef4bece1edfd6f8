/- Mathematics of TopQuarterTurn: a quarter turn more at the first joint turns the pose and the bodies about the base. -/
import Derived.Test.YtalhkcmlacppjaaDoorAmX
import Derived.Test.YtalhkcmlacppjaaDoorTqM
namespace Go.Proofs.YtalhkcmlacppjaaDoor
open Go.ChangeShapes Go.WideShapes Go.ChangeAt Go.RowKit
set_option linter.unusedVariables false
set_option linter.unusedSimpArgs false
set_option maxRecDepth 100000

section
variable {X Y n0 n1 n2 W q0 q1 q2 x1 x2 x3 y1 y2 y3 u1 u2 u3 v1 v2 v3 a1 a2 a3 b1 b2 b3 : Int}
theorem pose_turned (P : Pose X Y n0 n1 n2 q0 q1 q2 x1 x2 x3 y1 y2 y3 u1 u2 u3 v1 v2 v3 a1 a2 a3 b1 b2 b3) : Pose X Y n0 n1 n2 (q0 + 9) q1 q2 (-y1) (-y2) (-y3) x1 x2 x3 (-v1) (-v2) (-v3) u1 u2 u3 (X - (b1 - Y)) (X - (b2 - Y)) (X - (b3 - Y)) (Y + a1 - X) (Y + a2 - X) (Y + a3 - X) := by
  have e2 := P.e2
  have e3 := P.e3
  unfold gm at e2 e3
  simp only [Prod.mk.injEq] at e2 e3
  have g1 := P.g1
  have g2 := P.g2
  have g3 := P.g3
  have f1 := P.f1
  have f2 := P.f2
  have f3 := P.f3
  refine ⟨by rw [rE_quarter, P.e1], ?_, ?_, ⟨by omega, by omega⟩, ⟨by omega, by omega⟩, ⟨by omega, by omega⟩, ?_, ?_, ?_⟩
  · unfold gm
    exact Prod.ext (by simp only; rw [← e2.2]; grind) (by simp only; rw [← e2.1]; grind)
  · unfold gm
    exact Prod.ext (by simp only; rw [← e3.2]; grind) (by simp only; rw [← e3.1]; grind)
  all_goals
    rw [Int.mul_neg]
    exact ⟨by omega, by omega⟩
end
theorem bod_turned (X Y c d e f u v W : Int) : bodL (X - (d - Y)) (Y + c - X) (X - (f - Y)) (Y + e - X) (W * -v) (W * u) = qrL (X, Y) (bodL c d e f (W * u) (W * v)) := by
  unfold bodL qrL qr
  simp only [List.map_cons, List.map_nil, Int.mul_neg]
  refine List.cons_eq_cons.2 ⟨Prod.ext (by simp only; omega) (by simp only; omega), List.cons_eq_cons.2 ⟨Prod.ext (by simp only; omega) (by simp only; omega), List.cons_eq_cons.2 ⟨Prod.ext (by simp only; omega) (by simp only; omega), List.cons_eq_cons.2 ⟨Prod.ext (by simp only; omega) (by simp only; omega), rfl⟩⟩⟩⟩
theorem bod_base (X Y e f u v W : Int) : bodL X Y (X - (f - Y)) (Y + e - X) (W * -v) (W * u) = qrL (X, Y) (bodL X Y e f (W * u) (W * v)) := by
  have h := bod_turned X Y X Y e f u v W
  rwa [show X - (Y - Y) = X by omega, show Y + X - X = Y by omega] at h
/-- Moved to the origin, turned by a quarter, and moved back. -/
def turnL (l : List (Int × Int)) : List (Int × Int) := l.map fun p => (-p.2, p.1)
theorem mov_turn (X Y : Int) (l : List (Int × Int)) : movL (turnL (movL l (-X) (-Y))) X Y = qrL (X, Y) l := by
  unfold movL turnL qrL qr
  rw [List.map_map, List.map_map]
  exact List.map_congr_left fun p _ => Prod.ext (by simp only [Function.comp]; omega) (by simp only [Function.comp]; omega)

/-- What the laws ask of a link's body. -/
def good4 (L : List (Int × Int)) : Prop := Conv L ∧ validP L = true ∧ AllV L ∧ L.length = 4
theorem one_link {c d e f n u v W : Int} (hn : 1 ≤ n) (hW : 1 ≤ W) (hu : u * u + v * v = 4394000 * 4394000) (he : c + n * u = e ∧ d + n * v = f) (B : ∀ p ∈ bodL c d e f (W * u) (W * v), InV p.1 ∧ InV p.2) : good4 (bodL c d e f (W * u) (W * v)) := by
  obtain ⟨rfl, rfl⟩ := he
  have hp : 0 < n * W := Int.mul_pos (by omega) (by omega)
  have hC : Conv (bodL c d (c + n * u) (d + n * v) (W * u) (W * v)) := by
    rw [bod_rect]
    exact rect_conv _ _ (by omega) (by omega) (by simp only; omega)
  have hA0 : 0 < area2 (bodL c d (c + n * u) (d + n * v) (W * u) (W * v)) := by
    rw [bod_rect, rect_area]
    simp only
    rw [hu]
    omega
  exact ⟨hC, conv_valid hC (by show 4 ≤ 12; omega) (allv_mem B) hA0, allv_mem B, rfl⟩
section
variable {X Y n0 n1 n2 W l0 l1 l2 h0 h1 h2 q0 q1 q2 x1 x2 x3 y1 y2 y3 u1 u2 u3 v1 v2 v3 a1 a2 a3 b1 b2 b3 : Int}
theorem pose_links (P : Pose X Y n0 n1 n2 q0 q1 q2 x1 x2 x3 y1 y2 y3 u1 u2 u3 v1 v2 v3 a1 a2 a3 b1 b2 b3) (V : armB X Y n0 n1 n2 W l0 l1 l2 h0 h1 h2 = true) : good4 (bodL X Y a1 b1 (W * u1) (W * v1)) ∧ good4 (bodL a1 b1 a2 b2 (W * u2) (W * v2)) ∧ good4 (bodL a2 b2 a3 b3 (W * u3) (W * v3)) := by
  have v := ((armB_iff X Y n0 n1 n2 W l0 l1 l2 h0 h1 h2).1 V).1
  obtain ⟨_, m1, m2, m3⟩ := pose_len P
  obtain ⟨c1, c2, c3, _⟩ := pose_corn P V
  exact ⟨one_link (n := n0) (by omega) (by omega) m1 P.g1 c1, one_link (n := n1) (by omega) (by omega) m2 P.g2 c2, one_link (n := n2) (by omega) (by omega) m3 P.g3 c3⟩
end
end Go.Proofs.YtalhkcmlacppjaaDoor
