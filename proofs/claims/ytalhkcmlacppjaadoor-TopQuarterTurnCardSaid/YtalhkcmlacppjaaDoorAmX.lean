/- What quiet regions keep; a moved arm; quarter turns and exchanged joints. -/
import Derived.Test.YtalhkcmlacppjaaDoorAmV
namespace Go.Proofs.YtalhkcmlacppjaaDoor
open Go.ChangeShapes Go.WideShapes Go.ChangeAt Go.RowKit
set_option linter.unusedVariables false
set_option linter.unusedSimpArgs false
set_option maxRecDepth 100000

theorem blk_dr {w w' : World} {n b : Nat} {o : Obj} (hW : w.drewN n = w') (h : w.heap[b]? = some o) : w'.heap[b]? = some o := by subst hW; exact h
theorem row_dr {w w' : World} {n : Nat} {ao : Option Addr} {l : List (Int × Int)} (hW : w.drewN n = w') (h : PRow w ao l) : PRow w' ao l := by subst hW; exact h
theorem bel_dr {w0 w w' : World} {n m : Nat} (hW : w.drewN n = w') (h : Below m w0 w) : Below m w0 w' := by subst hW; exact below_drewN h n
theorem tab_dr {w w' : World} {n : Nat} (hW : w.drewN n = w') (h : Tab w) : Tab w' := by subst hW; exact h.drewN n
/-- A quarter turn more. -/
theorem rE_quarter (q : Int) : rE (q + 9) = (-(rE q).2, (rE q).1) := by
  have key : ∀ k, k < 36 → csF ((k + 9) % 36) = (-(csF k).2, (csF k).1) := by decide +kernel
  unfold rE
  have e : ((q + 9) % 36).toNat = ((q % 36).toNat + 9) % 36 := by omega
  rw [e]
  exact key _ (by omega)
theorem quarter_back (q r : Int) : gm (rE (q + 9)) (rE (r - 9)) = gm (rE q) (rE r) := by
  have h := rE_quarter (r - 9)
  rw [show r - 9 + 9 = r by omega] at h
  rw [rE_quarter q, h]
  unfold gm
  exact Prod.ext (by simp only; grind) (by simp only; grind)
theorem quarters_back (q r m : Int) (h0 : 0 ≤ m) (h3 : m ≤ 3) : gm (rE (q + 9 * m)) (rE (r - 9 * m)) = gm (rE q) (rE r) := by
  have c : m = 0 ∨ m = 1 ∨ m = 2 ∨ m = 3 := by omega
  have s : ∀ a b : Int, gm (rE (a + 9)) (rE (b - 9)) = gm (rE a) (rE b) := quarter_back
  rcases c with rfl | rfl | rfl | rfl
  · simp
  · exact s q r
  · have h1 := s (q + 9) (r - 9)
    rw [show q + 9 + 9 = q + 9 * 2 by omega, show r - 9 - 9 = r - 9 * 2 by omega] at h1
    rw [h1, s]
  · have h1 := s (q + 9 + 9) (r - 9 - 9)
    have h2 := s (q + 9) (r - 9)
    rw [show q + 9 + 9 + 9 = q + 9 * 3 by omega, show r - 9 - 9 - 9 = r - 9 * 3 by omega] at h1
    rw [h1, h2, s]
theorem pose_moved {X Y n0 n1 n2 q0 q1 q2 x1 x2 x3 y1 y2 y3 u1 u2 u3 v1 v2 v3 a1 a2 a3 b1 b2 b3 : Int} (P : Pose X Y n0 n1 n2 q0 q1 q2 x1 x2 x3 y1 y2 y3 u1 u2 u3 v1 v2 v3 a1 a2 a3 b1 b2 b3) (e f : Int) : Pose (X + 16 * e) (Y + 16 * f) n0 n1 n2 q0 q1 q2 x1 x2 x3 y1 y2 y3 u1 u2 u3 v1 v2 v3 (a1 + 16 * e) (a2 + 16 * e) (a3 + 16 * e) (b1 + 16 * f) (b2 + 16 * f) (b3 + 16 * f) := by
  have g1 := P.g1
  have g2 := P.g2
  have g3 := P.g3
  exact ⟨P.e1, P.e2, P.e3, P.f1, P.f2, P.f3, by omega, by omega, by omega⟩
theorem turn0 {X Y n0 n1 n2 q0 q1 q2 m x1 x2 x3 y1 y2 y3 u1 u2 u3 v1 v2 v3 a1 a2 a3 b1 b2 b3 x1p x2p x3p y1p y2p y3p u1p u2p u3p v1p v2p v3p a1p a2p a3p b1p b2p b3p : Int} (P : Pose X Y n0 n1 n2 q0 q1 q2 x1 x2 x3 y1 y2 y3 u1 u2 u3 v1 v2 v3 a1 a2 a3 b1 b2 b3) (h0 : 0 ≤ m) (h3 : m ≤ 3) (P' : Pose X Y n0 n1 n2 (q0 + 9 * m) (q1 - 9 * m) q2 x1p x2p x3p y1p y2p y3p u1p u2p u3p v1p v2p v3p a1p a2p a3p b1p b2p b3p) : (x2p, y2p) = (x2, y2) ∧ (x3p, y3p) = (x3, y3) := by
  have c := quarters_back q0 q1 m h0 h3
  have h2 : (x2p, y2p) = (x2, y2) := by rw [← P'.e2, ← P.e2, ← P'.e1, ← P.e1]; exact c
  exact ⟨h2, by rw [← P'.e3, ← P.e3, h2]⟩
theorem swap0 {X Y n0 n1 n2 q0 q1 q2 x1 x2 x3 y1 y2 y3 u1 u2 u3 v1 v2 v3 a1 a2 a3 b1 b2 b3 x1p x2p x3p y1p y2p y3p u1p u2p u3p v1p v2p v3p a1p a2p a3p b1p b2p b3p : Int} (P : Pose X Y n0 n1 n2 q0 q1 q2 x1 x2 x3 y1 y2 y3 u1 u2 u3 v1 v2 v3 a1 a2 a3 b1 b2 b3) (P' : Pose X Y n0 n1 n2 q1 q0 q2 x1p x2p x3p y1p y2p y3p u1p u2p u3p v1p v2p v3p a1p a2p a3p b1p b2p b3p) : (x2p, y2p) = (x2, y2) ∧ (x3p, y3p) = (x3, y3) := by
  have c := gm_comm (rE q1) (rE q0)
  have h2 : (x2p, y2p) = (x2, y2) := by rw [← P'.e2, ← P.e2, ← P'.e1, ← P.e1]; exact c
  exact ⟨h2, by rw [← P'.e3, ← P.e3, h2]⟩
theorem turn1 {X Y n0 n1 n2 q0 q1 q2 m x1 x2 x3 y1 y2 y3 u1 u2 u3 v1 v2 v3 a1 a2 a3 b1 b2 b3 x1p x2p x3p y1p y2p y3p u1p u2p u3p v1p v2p v3p a1p a2p a3p b1p b2p b3p : Int} (P : Pose X Y n0 n1 n2 q0 q1 q2 x1 x2 x3 y1 y2 y3 u1 u2 u3 v1 v2 v3 a1 a2 a3 b1 b2 b3) (h0 : 0 ≤ m) (h3 : m ≤ 3) (P' : Pose X Y n0 n1 n2 q0 (q1 + 9 * m) (q2 - 9 * m) x1p x2p x3p y1p y2p y3p u1p u2p u3p v1p v2p v3p a1p a2p a3p b1p b2p b3p) : (x1p, y1p) = (x1, y1) ∧ (x3p, y3p) = (x3, y3) := by
  have c := quarters_back q1 q2 m h0 h3
  have h1 : (x1p, y1p) = (x1, y1) := by rw [← P'.e1, ← P.e1]
  exact ⟨h1, by rw [← P'.e3, ← P.e3, ← P'.e2, ← P.e2, h1, gm_assoc, gm_assoc, c]⟩
theorem swap1 {X Y n0 n1 n2 q0 q1 q2 x1 x2 x3 y1 y2 y3 u1 u2 u3 v1 v2 v3 a1 a2 a3 b1 b2 b3 x1p x2p x3p y1p y2p y3p u1p u2p u3p v1p v2p v3p a1p a2p a3p b1p b2p b3p : Int} (P : Pose X Y n0 n1 n2 q0 q1 q2 x1 x2 x3 y1 y2 y3 u1 u2 u3 v1 v2 v3 a1 a2 a3 b1 b2 b3) (P' : Pose X Y n0 n1 n2 q0 q2 q1 x1p x2p x3p y1p y2p y3p u1p u2p u3p v1p v2p v3p a1p a2p a3p b1p b2p b3p) : (x1p, y1p) = (x1, y1) ∧ (x3p, y3p) = (x3, y3) := by
  have c := gm_comm (rE q2) (rE q1)
  have h1 : (x1p, y1p) = (x1, y1) := by rw [← P'.e1, ← P.e1]
  exact ⟨h1, by rw [← P'.e3, ← P.e3, ← P'.e2, ← P.e2, h1, gm_assoc, gm_assoc, c]⟩
end Go.Proofs.YtalhkcmlacppjaaDoor
