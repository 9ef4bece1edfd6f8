/- Poses of an arm (numbers alone), and the contract of JointPoints. -/
import Derived.Test.YtceejjamngplkaaDoorAmH
import Derived.Test.YtceejjamngplkaaDoorAmI
import Derived.Test.YtceejjamngplkaaDoorAmD
namespace Go.Proofs.YtceejjamngplkaaDoor
open Go.ChangeShapes Go.WideShapes Go.ChangeAt Go.RowKit
set_option linter.unusedVariables false
set_option linter.unusedSimpArgs false
set_option maxRecDepth 100000

/-- Directions x y, vectors of one whole unit u v, ends of the links a b. -/
structure Pose (X Y n0 n1 n2 q0 q1 q2 x1 x2 x3 y1 y2 y3 u1 u2 u3 v1 v2 v3 a1 a2 a3 b1 b2 b3 : Int) : Prop where
  e1 : rE q0 = (x1, y1)
  e2 : gm (x1, y1) (rE q1) = (x2, y2)
  e3 : gm (x2, y2) (rE q2) = (x3, y3)
  f1 : 67600 * x1 = u1 ∧ 67600 * y1 = v1
  f2 : 1040 * x2 = u2 ∧ 1040 * y2 = v2
  f3 : 16 * x3 = u3 ∧ 16 * y3 = v3
  g1 : X + n0 * u1 = a1 ∧ Y + n0 * v1 = b1
  g2 : a1 + n1 * u2 = a2 ∧ b1 + n1 * v2 = b2
  g3 : a2 + n2 * u3 = a3 ∧ b2 + n2 * v3 = b3
def OnlyN (A : Act) (R : World → Prop) : Exit → Act → World → Prop
  | .normal, a, w => a = A ∧ R w
  | _, _, _ => False
theorem wp_fix {P : Program} {c : Code} {Q : Exit → Act → World → Prop} {a : Act} {w : World} {R : World → Prop} {A : Act} (h : c.wp P (OnlyN A R) a w) (k : ∀ w', R w' → Q .normal A w') : c.wp P Q a w :=
  Code.wp_mono (fun e a' w' h => by
    cases e with
    | normal => obtain ⟨ha, hr⟩ := h; subst ha; exact k w' hr
    | _ => exact (h : False).elim) h
theorem undrewX {b : Nat} {w w' : World} (h : BelX b w.drew w') : BelX b w w' := ⟨h.os, h.tape, h.output, h.size, h.block⟩
theorem pose_ex (X Y n0 n1 n2 q0 q1 q2 : Int) : ∃ x1 x2 x3 y1 y2 y3 u1 u2 u3 v1 v2 v3 a1 a2 a3 b1 b2 b3 : Int, Pose X Y n0 n1 n2 q0 q1 q2 x1 x2 x3 y1 y2 y3 u1 u2 u3 v1 v2 v3 a1 a2 a3 b1 b2 b3 :=
  ⟨_, _, _, _, _, _, _, _, _, _, _, _, _, _, _, _, _, _, rfl, rfl, rfl, ⟨rfl, rfl⟩, ⟨rfl, rfl⟩, ⟨rfl, rfl⟩, ⟨rfl, rfl⟩, ⟨rfl, rfl⟩, ⟨rfl, rfl⟩⟩
theorem unit_bd {u v : Int} (h : u * u + v * v = 4394000 * 4394000) : (-4394000 ≤ u ∧ u ≤ 4394000) ∧ -4394000 ≤ v ∧ v ≤ 4394000 := by
  have h1 := sq_nnR u
  have h2 := sq_nnR v
  exact ⟨sq_le (by omega) (by omega), sq_le (by omega) (by omega)⟩
theorem far_bdI {n u M : Int} (hn : 0 ≤ n) (hu : -M ≤ u ∧ u ≤ M) : -(n * M) ≤ n * u ∧ n * u ≤ n * M := by
  have a := Int.mul_nonneg hn (show 0 ≤ M - u by omega)
  have b := Int.mul_nonneg hn (show 0 ≤ M + u by omega)
  rw [Int.mul_sub] at a
  rw [Int.mul_add] at b
  omega
section
variable {X Y n0 n1 n2 W l0 l1 l2 h0 h1 h2 q0 q1 q2 x1 x2 x3 y1 y2 y3 u1 u2 u3 v1 v2 v3 a1 a2 a3 b1 b2 b3 : Int}
theorem pose_len (P : Pose X Y n0 n1 n2 q0 q1 q2 x1 x2 x3 y1 y2 y3 u1 u2 u3 v1 v2 v3 a1 a2 a3 b1 b2 b3) : (x1 * x1 + y1 * y1 = 65 * 65 ∧ x2 * x2 + y2 * y2 = 4225 * 4225 ∧ x3 * x3 + y3 * y3 = 274625 * 274625) ∧ u1 * u1 + v1 * v1 = 4394000 * 4394000 ∧ u2 * u2 + v2 * v2 = 4394000 * 4394000 ∧ u3 * u3 + v3 * v3 = 4394000 * 4394000 := by
  have l1 : gn (x1, y1) = 4225 := by rw [← P.e1]; exact rE_len q0
  have l2 : gn (x2, y2) = 4225 * 4225 := by rw [← P.e2, gn_mul, l1, rE_len]
  have l3 : gn (x3, y3) = 4225 * 4225 * 4225 := by rw [← P.e3, gn_mul, l2, rE_len]
  unfold gn at l1 l2 l3
  simp only at l1 l2 l3
  refine ⟨⟨l1, l2, by omega⟩, ?_, ?_, ?_⟩
  · rw [← P.f1.1, ← P.f1.2]
    have : 67600 * x1 * (67600 * x1) + 67600 * y1 * (67600 * y1) = 67600 * 67600 * (x1 * x1 + y1 * y1) := by grind
    rw [this, l1]; omega
  · rw [← P.f2.1, ← P.f2.2]
    have : 1040 * x2 * (1040 * x2) + 1040 * y2 * (1040 * y2) = 1040 * 1040 * (x2 * x2 + y2 * y2) := by grind
    rw [this, l2]; omega
  · rw [← P.f3.1, ← P.f3.2]
    have : 16 * x3 * (16 * x3) + 16 * y3 * (16 * y3) = 16 * 16 * (x3 * x3 + y3 * y3) := by grind
    rw [this, l3]; omega
/-- How far the points of a valid arm's pose lie, coordinate by coordinate. -/
theorem pose_bd (P : Pose X Y n0 n1 n2 q0 q1 q2 x1 x2 x3 y1 y2 y3 u1 u2 u3 v1 v2 v3 a1 a2 a3 b1 b2 b3) (V : armB X Y n0 n1 n2 W l0 l1 l2 h0 h1 h2 = true) :
    ((-439400000 ≤ X - W * 4394000 ∧ X + W * 4394000 ≤ 439400000) ∧ -439400000 ≤ Y - W * 4394000 ∧ Y + W * 4394000 ≤ 439400000) ∧
    ((-439400000 ≤ a1 - W * 4394000 ∧ a1 + W * 4394000 ≤ 439400000) ∧ -439400000 ≤ b1 - W * 4394000 ∧ b1 + W * 4394000 ≤ 439400000) ∧
    ((-439400000 ≤ a2 - W * 4394000 ∧ a2 + W * 4394000 ≤ 439400000) ∧ -439400000 ≤ b2 - W * 4394000 ∧ b2 + W * 4394000 ≤ 439400000) ∧
    ((-439400000 ≤ a3 - W * 4394000 ∧ a3 + W * 4394000 ≤ 439400000) ∧ -439400000 ≤ b3 - W * 4394000 ∧ b3 + W * 4394000 ≤ 439400000) := by
  have v := (armB_iff X Y n0 n1 n2 W l0 l1 l2 h0 h1 h2).1 V
  obtain ⟨_, m1, m2, m3⟩ := pose_len P
  have r1 := unit_bd m1
  have r2 := unit_bd m2
  have r3 := unit_bd m3
  have t1 := far_bdI (n := n0) (by omega) r1.1
  have t2 := far_bdI (n := n0) (by omega) r1.2
  have t3 := far_bdI (n := n1) (by omega) r2.1
  have t4 := far_bdI (n := n1) (by omega) r2.2
  have t5 := far_bdI (n := n2) (by omega) r3.1
  have t6 := far_bdI (n := n2) (by omega) r3.2
  have g1 := P.g1
  have g2 := P.g2
  have g3 := P.g3
  omega
end
theorem ixD (x1 y1 x2 y2 x3 y3 : Int) (w : World) : (Instr.index 46 (.agg #[.int .i64 x1, .int .i64 y1, .int .i64 1, .int .i64 x2, .int .i64 y2, .int .i64 2, .int .i64 x3, .int .i64 y3, .int .i64 3]) (.int .i64 0)).run Tryd.prog w = .ok (.agg #[.int .i64 x1, .int .i64 y1, .int .i64 1]) w ∧ (Instr.index 46 (.agg #[.int .i64 x1, .int .i64 y1, .int .i64 1, .int .i64 x2, .int .i64 y2, .int .i64 2, .int .i64 x3, .int .i64 y3, .int .i64 3]) (.int .i64 1)).run Tryd.prog w = .ok (.agg #[.int .i64 x2, .int .i64 y2, .int .i64 2]) w ∧ (Instr.index 46 (.agg #[.int .i64 x1, .int .i64 y1, .int .i64 1, .int .i64 x2, .int .i64 y2, .int .i64 2, .int .i64 x3, .int .i64 y3, .int .i64 3]) (.int .i64 2)).run Tryd.prog w = .ok (.agg #[.int .i64 x3, .int .i64 y3, .int .i64 3]) w := by
  refine ⟨?_, ?_, ?_⟩ <;> simp [Instr.index, run_underlying Tryd.underlying46, asInt, asIntOf, part, Tryd.sizeOf29, Tryd.isAgg29]

set_option maxHeartbeats 4000000 in
theorem jpts_is (X Y n0 n1 n2 W l0 l1 l2 h0 h1 h2 : Int) (q0 q1 q2 : Int) (x1 x2 x3 y1 y2 y3 u1 u2 u3 v1 v2 v3 a1 a2 a3 b1 b2 b3 : Int) (w : World) (hT : Tab w) (k0 : -1000 ≤ q0 ∧ q0 ≤ 1000) (k1 : -1000 ≤ q1 ∧ q1 ≤ 1000) (k2 : -1000 ≤ q2 ∧ q2 ≤ 1000) (V : Hid (armB X Y n0 n1 n2 W l0 l1 l2 h0 h1 h2 = true)) (P : Hid (Pose X Y n0 n1 n2 q0 q1 q2 x1 x2 x3 y1 y2 y3 u1 u2 u3 v1 v2 v3 a1 a2 a3 b1 b2 b3)) :
    Calls Tryd.prog 21 #[.agg #[.int .i64 X, .int .i64 Y, .int .i64 n0, .int .i64 n1, .int .i64 n2, .int .i64 W, .int .i64 l0, .int .i64 l1, .int .i64 l2, .int .i64 h0, .int .i64 h1, .int .i64 h2], .agg #[.int .i64 q0, .int .i64 q1, .int .i64 q2]] w fun e w' => e = .returned (.agg #[.int .i64 X, .int .i64 Y, .int .i64 a1, .int .i64 b1, .int .i64 a2, .int .i64 b2, .int .i64 a3, .int .i64 b3]) ∧ Below w.heap.size w w' := by
  have N0 : Hid (-200 ≤ n0 ∧ n0 ≤ 200) := Lib.hid (by have := (armB_iff X Y n0 n1 n2 W l0 l1 l2 h0 h1 h2).1 V.out; omega)
  have N1 : Hid (-200 ≤ n1 ∧ n1 ≤ 200) := Lib.hid (by have := (armB_iff X Y n0 n1 n2 W l0 l1 l2 h0 h1 h2).1 V.out; omega)
  have N2 : Hid (-200 ≤ n2 ∧ n2 ≤ 200) := Lib.hid (by have := (armB_iff X Y n0 n1 n2 W l0 l1 l2 h0 h1 h2).1 V.out; omega)
  have Hu1 : Hid (n0 * 16 * p65 (3 - 1) * x1 = n0 * u1) := Lib.hid (by rw [← P.out.f1.1, show p65 (3 - 1) = 4225 by decide]; grind)
  have Hv1 : Hid (n0 * 16 * p65 (3 - 1) * y1 = n0 * v1) := Lib.hid (by rw [← P.out.f1.2, show p65 (3 - 1) = 4225 by decide]; grind)
  have D1 : Hid (vdB x1 y1 1 = true) := Lib.hid (vd_one q0 x1 y1 (Lib.hid P.out.e1))
  have Hu2 : Hid (n1 * 16 * p65 (3 - 2) * x2 = n1 * u2) := Lib.hid (by rw [← P.out.f2.1, show p65 (3 - 2) = 65 by decide]; grind)
  have Hv2 : Hid (n1 * 16 * p65 (3 - 2) * y2 = n1 * v2) := Lib.hid (by rw [← P.out.f2.2, show p65 (3 - 2) = 65 by decide]; grind)
  have D2 : Hid (vdB x2 y2 2 = true) := Lib.hid (vd_two (x1, y1) q1 x2 y2 1 2 D1.out (by omega) rfl (Lib.hid P.out.e2))
  have Hu3 : Hid (n2 * 16 * p65 (3 - 3) * x3 = n2 * u3) := Lib.hid (by rw [← P.out.f3.1, show p65 (3 - 3) = 1 by decide]; grind)
  have Hv3 : Hid (n2 * 16 * p65 (3 - 3) * y3 = n2 * v3) := Lib.hid (by rw [← P.out.f3.2, show p65 (3 - 3) = 1 by decide]; grind)
  have D3 : Hid (vdB x3 y3 3 = true) := Lib.hid (vd_two (x2, y2) q2 x3 y3 2 3 D2.out (by omega) rfl (Lib.hid P.out.e3))
  have R : Hid ((-1000000000000 ≤ a1 ∧ a1 ≤ 1000000000000) ∧ (-1000000000000 ≤ b1 ∧ b1 ≤ 1000000000000) ∧ (-1000000000000 ≤ a2 ∧ a2 ≤ 1000000000000) ∧ (-1000000000000 ≤ b2 ∧ b2 ≤ 1000000000000) ∧ (-1000000000000 ≤ a3 ∧ a3 ≤ 1000000000000) ∧ -1000000000000 ≤ b3 ∧ b3 ≤ 1000000000000) := Lib.hid (by have := pose_bd P.out V.out; have := (armB_iff X Y n0 n1 n2 W l0 l1 l2 h0 h1 h2).1 V.out; omega)
  have I0 := fun w => (ixD x1 y1 x2 y2 x3 y3 w).1
  have I1 := fun w => (ixD x1 y1 x2 y2 x3 y3 w).2.1
  have I2 := fun w => (ixD x1 y1 x2 y2 x3 y3 w).2.2
  go_enter Tryd.func21, Tryd.ntmps21
  go_upto_region 2 with fail
  obtain ⟨W0, hW⟩ : ∃ z, ((((w.alloc (.cells #[.int .i64 X, .int .i64 Y, .int .i64 n0, .int .i64 n1, .int .i64 n2, .int .i64 W, .int .i64 l0, .int .i64 l1, .int .i64 l2, .int .i64 h0, .int .i64 h1, .int .i64 h2] 27)).alloc (.cells #[.int .i64 q0, .int .i64 q1, .int .i64 q2] 25)).alloc (.cells #[.int .i64 0, .int .i64 0, .int .i64 0, .int .i64 0, .int .i64 0, .int .i64 0, .int .i64 0, .int .i64 0] 44)).alloc (.cells #[.int .i64 X, .int .i64 Y, .int .i64 0, .int .i64 0, .int .i64 0, .int .i64 0, .int .i64 0, .int .i64 0] 44)) = z := ⟨_, rfl⟩
  have HG : Hid (W0.heap[w.heap.size + 1 + 1 + 1]? = some (.cells #[.int .i64 X, .int .i64 Y, .int .i64 0, .int .i64 0, .int .i64 0, .int .i64 0, .int .i64 0, .int .i64 0] 44 (0, 0))) := Lib.hid (by rw [← hW]; exact blk_new _ _ _ (by simp))
  have HR : Hid (W0.heap[w.heap.size + 1 + 1]? = some (.cells #[.int .i64 0, .int .i64 0, .int .i64 0, .int .i64 0, .int .i64 0, .int .i64 0, .int .i64 0, .int .i64 0] 44 (0, 0))) := Lib.hid (by rw [← hW]; exact blk_alloc (blk_new _ _ _ (by simp)) _)
  have HQ : Hid (W0.heap[w.heap.size + 1]? = some (.cells #[.int .i64 q0, .int .i64 q1, .int .i64 q2] 25 (0, 0))) := Lib.hid (by rw [← hW]; exact blk_alloc (blk_alloc (blk_new _ _ _ (by simp)) _) _)
  have HA : Hid (W0.heap[w.heap.size]? = some (.cells #[.int .i64 X, .int .i64 Y, .int .i64 n0, .int .i64 n1, .int .i64 n2, .int .i64 W, .int .i64 l0, .int .i64 l1, .int .i64 l2, .int .i64 h0, .int .i64 h1, .int .i64 h2] 27 (0, 0))) := Lib.hid (by rw [← hW]; exact blk_alloc (blk_alloc (blk_alloc (blk_new _ _ _ rfl) _) _) _)
  have B : Hid (Below w.heap.size w W0) := Lib.hid (by rw [← hW]; go_grown)
  have T : Hid (Tab W0) := Lib.hid (by rw [← hW]; repeat (first | exact hT | apply Tab.alloc))
  have S0 : Hid (W0.heap.size = w.heap.size + 1 + 1 + 1 + 1) := Lib.hid (by rw [← hW]; simp)
  rw [hW]
  clear hW hT
  generalize hg : w.heap.size + 1 + 1 + 1 = g at *
  generalize hr : w.heap.size + 1 + 1 = r at *
  generalize hq : w.heap.size + 1 = q at *
  obtain ⟨b, hb⟩ : ∃ b, W0.heap.size = b := ⟨_, rfl⟩
  have m1 : b ≠ g := by have := S0.out; omega
  have m2 : g ≠ b := fun h => m1 h.symm
  have m3 : g ≠ r := by omega
  have m4 : r ≠ g := fun h => m3 h.symm
  have mab : w.heap.size ≠ b := by have := S0.out; omega
  have mga : g ≠ w.heap.size := by omega
  have mrb : r ≠ b := by have := S0.out; omega
  have NE := Lib.hid (show (b ≠ g ∧ b ≠ r ∧ b ≠ q ∧ b ≠ w.heap.size) ∧ (g ≠ r ∧ g ≠ w.heap.size) ∧ w.heap.size ≤ b ∧ w.heap.size ≤ g ∧ w.heap.size ≤ r by have := S0.out; omega)
  clear hg hr hq S0
  have c0 := blk_cell HA.out 0 _ rfl
  have c1 := blk_cell HA.out 1 _ rfl
  have c2 := blk_cell HA.out 2 _ rfl
  have c3 := blk_cell HA.out 3 _ rfl
  have c4 := blk_cell HA.out 4 _ rfl
  have c5 := blk_cell HA.out 5 _ rfl
  have c6 := blk_cell HA.out 6 _ rfl
  have c7 := blk_cell HA.out 7 _ rfl
  have c8 := blk_cell HA.out 8 _ rfl
  have c9 := blk_cell HA.out 9 _ rfl
  have c10 := blk_cell HA.out 10 _ rfl
  have c11 := blk_cell HA.out 11 _ rfl
  have d0 := blk_cell HQ.out 0 _ rfl
  have d1 := blk_cell HQ.out 1 _ rfl
  have d2 := blk_cell HQ.out 2 _ rfl
  go_wp2_with fail
  refine (walk_is X Y _).mono ?_
  rintro e w1 ⟨rfl, hw⟩
  subst hw
  rw [hb]
  have HB : Hid ((W0.alloc (.cells #[.int .i64 X, .int .i64 Y] 23)).heap[b]? = some (.cells #[.int .i64 X, .int .i64 Y] 23 (0, 0))) := Lib.hid (blk_new _ _ _ hb)
  replace HG := Lib.hid (blk_alloc HG.out (.cells #[.int .i64 X, .int .i64 Y] 23))
  replace HR := Lib.hid (blk_alloc HR.out (.cells #[.int .i64 X, .int .i64 Y] 23))
  replace HA := Lib.hid (blk_alloc HA.out (.cells #[.int .i64 X, .int .i64 Y] 23))
  replace HQ := Lib.hid (blk_alloc HQ.out (.cells #[.int .i64 X, .int .i64 Y] 23))
  replace B : Hid (Below w.heap.size w (W0.alloc (.cells #[.int .i64 X, .int .i64 Y] 23))) := Lib.hid (belA B.out _)
  replace T := Lib.hid (T.out.alloc (.cells #[.int .i64 X, .int .i64 Y] 23))
  clear c0 c1 c2 c3 c4 c5 c6 c7 c8 c9 c10 c11 d0 d1 d2
  generalize (W0.alloc (.cells #[.int .i64 X, .int .i64 Y] 23)) = W1 at *
  have c0 := blk_cell HA.out 0 _ rfl
  have c1 := blk_cell HA.out 1 _ rfl
  have c2 := blk_cell HA.out 2 _ rfl
  have c3 := blk_cell HA.out 3 _ rfl
  have c4 := blk_cell HA.out 4 _ rfl
  have c5 := blk_cell HA.out 5 _ rfl
  have c6 := blk_cell HA.out 6 _ rfl
  have c7 := blk_cell HA.out 7 _ rfl
  have c8 := blk_cell HA.out 8 _ rfl
  have c9 := blk_cell HA.out 9 _ rfl
  have c10 := blk_cell HA.out 10 _ rfl
  have c11 := blk_cell HA.out 11 _ rfl
  have d0 := blk_cell HQ.out 0 _ rfl
  have d1 := blk_cell HQ.out 1 _ rfl
  have d2 := blk_cell HQ.out 2 _ rfl
  go_wp2_with fail
  refine (ldirs_is X Y n0 n1 n2 W l0 l1 l2 h0 h1 h2 q0 q1 q2 x1 y1 x2 y2 x3 y3 _ T.out k0 k1 k2 (Lib.hid P.out.e1) (Lib.hid P.out.e2) (Lib.hid P.out.e3)).mono ?_
  rintro e V0 ⟨rfl, hb0⟩
  replace HA := Lib.hid (blk_call HA.out hb0)
  replace HG := Lib.hid (blk_call HG.out hb0)
  replace HB := Lib.hid (blk_call HB.out hb0)
  replace HR := Lib.hid (blk_call HR.out hb0)
  replace B := Lib.hid (belT B.out hb0)
  clear hb0 HQ T c0 c1 c2 c3 c4 c5 c6 c7 c8 c9 c10 c11 d0 d1 d2
  go_wp2_with fail
  refine wp_loop_rounds 4 ?_
  rw [rounds_succ]
  go_wp2_with fail
  have HD : Hid ((V0.alloc (.cells #[.int .i64 x1, .int .i64 y1, .int .i64 1] 29)).heap[V0.heap.size]? = some (.cells #[.int .i64 x1, .int .i64 y1, .int .i64 1] 29 (0, 0))) := Lib.hid (blk_new _ _ _ rfl)
  replace HA := Lib.hid (blk_alloc HA.out (.cells #[.int .i64 x1, .int .i64 y1, .int .i64 1] 29))
  replace HG := Lib.hid (blk_alloc HG.out (.cells #[.int .i64 x1, .int .i64 y1, .int .i64 1] 29))
  replace HB := Lib.hid (blk_alloc HB.out (.cells #[.int .i64 x1, .int .i64 y1, .int .i64 1] 29))
  replace HR := Lib.hid (blk_alloc HR.out (.cells #[.int .i64 x1, .int .i64 y1, .int .i64 1] 29))
  replace B := Lib.hid (belA B.out (.cells #[.int .i64 x1, .int .i64 y1, .int .i64 1] 29))
  generalize hz : V0.heap.size = z0 at *
  generalize (V0.alloc (.cells #[.int .i64 x1, .int .i64 y1, .int .i64 1] 29)) = U0 at *
  clear hz
  apply wp_fix (R := fun wx => Hid (wx.heap[w.heap.size]? = some (.cells #[.int .i64 X, .int .i64 Y, .int .i64 n0, .int .i64 n1, .int .i64 n2, .int .i64 W, .int .i64 l0, .int .i64 l1, .int .i64 l2, .int .i64 h0, .int .i64 h1, .int .i64 h2] 27 (0, 0))) ∧ Hid (wx.heap[g]? = some (.cells #[.int .i64 X, .int .i64 Y, .int .i64 a1, .int .i64 b1, .int .i64 0, .int .i64 0, .int .i64 0, .int .i64 0] 44 (0, 0))) ∧ Hid (wx.heap[b]? = some (.cells #[.int .i64 a1, .int .i64 b1] 23 (0, 0))) ∧ Hid (wx.heap[r]? = some (.cells #[.int .i64 0, .int .i64 0, .int .i64 0, .int .i64 0, .int .i64 0, .int .i64 0, .int .i64 0, .int .i64 0] 44 (0, 0))) ∧ Hid (Below w.heap.size w wx))
  case h =>
    have c0 := blk_cell HA.out 2 _ rfl
    have d0 := blk_cell HD.out 0 _ rfl
    have c1 := blk_cell HA.out 3 _ rfl
    have d1 := blk_cell HD.out 1 _ rfl
    have c2 := blk_cell HA.out 4 _ rfl
    have d2 := blk_cell HD.out 2 _ rfl
    go_region_with (go_at_call 52; refine (fwd_is x1 y1 1 n0 X Y (n0 * u1) (n0 * v1) a1 b1 b _ D1 N0.out Hu1 Hv1 (Lib.hid P.out.g1.1) (Lib.hid P.out.g1.2) (by have := R.out; omega) (by have := R.out; omega) (show Hid (U0.drew.heap[b]? = _) from HB)).mono ?_; rintro e w9 ⟨rfl, bx0, hb9⟩; have bx := undrewX bx0; have HG9 := Lib.hid (belx_blk HG.out m2 bx); have g0 := blk_cell HG9.out 2 _ rfl; have g1 := blk_cell HG9.out 3 _ rfl; have g2 := blk_fz HG9.out 2; have g3 := blk_fz HG9.out 3)
    all_goals exact ⟨rfl, Lib.hid (blk_other (blk_other (belx_blk HA.out mab bx) mga _) mga _), Lib.hid (blk_set (blk_set HG9.out _) _), Lib.hid (blk_other (blk_other hb9 m2 _) m2 _), Lib.hid (blk_other (blk_other (belx_blk HR.out mrb bx) m3 _) m3 _), Lib.hid (belS (belS (B.out.trans (bx.bel NE.out.2.2.1 B.out.size)) NE.out.2.2.2.1 _) NE.out.2.2.2.1 _)⟩
  case k =>
  clear HA HG HB HR HD B
  rintro V1 ⟨HA, HG, HB, HR, B⟩
  go_wp2_with fail
  rw [rounds_succ]
  go_wp2_with fail
  have HD : Hid ((V1.alloc (.cells #[.int .i64 x2, .int .i64 y2, .int .i64 2] 29)).heap[V1.heap.size]? = some (.cells #[.int .i64 x2, .int .i64 y2, .int .i64 2] 29 (0, 0))) := Lib.hid (blk_new _ _ _ rfl)
  replace HA := Lib.hid (blk_alloc HA.out (.cells #[.int .i64 x2, .int .i64 y2, .int .i64 2] 29))
  replace HG := Lib.hid (blk_alloc HG.out (.cells #[.int .i64 x2, .int .i64 y2, .int .i64 2] 29))
  replace HB := Lib.hid (blk_alloc HB.out (.cells #[.int .i64 x2, .int .i64 y2, .int .i64 2] 29))
  replace HR := Lib.hid (blk_alloc HR.out (.cells #[.int .i64 x2, .int .i64 y2, .int .i64 2] 29))
  replace B := Lib.hid (belA B.out (.cells #[.int .i64 x2, .int .i64 y2, .int .i64 2] 29))
  generalize hz : V1.heap.size = z1 at *
  generalize (V1.alloc (.cells #[.int .i64 x2, .int .i64 y2, .int .i64 2] 29)) = U1 at *
  clear hz
  apply wp_fix (R := fun wx => Hid (wx.heap[w.heap.size]? = some (.cells #[.int .i64 X, .int .i64 Y, .int .i64 n0, .int .i64 n1, .int .i64 n2, .int .i64 W, .int .i64 l0, .int .i64 l1, .int .i64 l2, .int .i64 h0, .int .i64 h1, .int .i64 h2] 27 (0, 0))) ∧ Hid (wx.heap[g]? = some (.cells #[.int .i64 X, .int .i64 Y, .int .i64 a1, .int .i64 b1, .int .i64 a2, .int .i64 b2, .int .i64 0, .int .i64 0] 44 (0, 0))) ∧ Hid (wx.heap[b]? = some (.cells #[.int .i64 a2, .int .i64 b2] 23 (0, 0))) ∧ Hid (wx.heap[r]? = some (.cells #[.int .i64 0, .int .i64 0, .int .i64 0, .int .i64 0, .int .i64 0, .int .i64 0, .int .i64 0, .int .i64 0] 44 (0, 0))) ∧ Hid (Below w.heap.size w wx))
  case h =>
    have c0 := blk_cell HA.out 2 _ rfl
    have d0 := blk_cell HD.out 0 _ rfl
    have c1 := blk_cell HA.out 3 _ rfl
    have d1 := blk_cell HD.out 1 _ rfl
    have c2 := blk_cell HA.out 4 _ rfl
    have d2 := blk_cell HD.out 2 _ rfl
    go_region_with (go_at_call 52; refine (fwd_is x2 y2 2 n1 a1 b1 (n1 * u2) (n1 * v2) a2 b2 b _ D2 N1.out Hu2 Hv2 (Lib.hid P.out.g2.1) (Lib.hid P.out.g2.2) (by have := R.out; omega) (by have := R.out; omega) (show Hid (U1.drew.heap[b]? = _) from HB)).mono ?_; rintro e w9 ⟨rfl, bx0, hb9⟩; have bx := undrewX bx0; have HG9 := Lib.hid (belx_blk HG.out m2 bx); have g0 := blk_cell HG9.out 4 _ rfl; have g1 := blk_cell HG9.out 5 _ rfl; have g2 := blk_fz HG9.out 4; have g3 := blk_fz HG9.out 5)
    all_goals exact ⟨rfl, Lib.hid (blk_other (blk_other (belx_blk HA.out mab bx) mga _) mga _), Lib.hid (blk_set (blk_set HG9.out _) _), Lib.hid (blk_other (blk_other hb9 m2 _) m2 _), Lib.hid (blk_other (blk_other (belx_blk HR.out mrb bx) m3 _) m3 _), Lib.hid (belS (belS (B.out.trans (bx.bel NE.out.2.2.1 B.out.size)) NE.out.2.2.2.1 _) NE.out.2.2.2.1 _)⟩
  case k =>
  clear HA HG HB HR HD B
  rintro V2 ⟨HA, HG, HB, HR, B⟩
  go_wp2_with fail
  rw [rounds_succ]
  go_wp2_with fail
  have HD : Hid ((V2.alloc (.cells #[.int .i64 x3, .int .i64 y3, .int .i64 3] 29)).heap[V2.heap.size]? = some (.cells #[.int .i64 x3, .int .i64 y3, .int .i64 3] 29 (0, 0))) := Lib.hid (blk_new _ _ _ rfl)
  replace HA := Lib.hid (blk_alloc HA.out (.cells #[.int .i64 x3, .int .i64 y3, .int .i64 3] 29))
  replace HG := Lib.hid (blk_alloc HG.out (.cells #[.int .i64 x3, .int .i64 y3, .int .i64 3] 29))
  replace HB := Lib.hid (blk_alloc HB.out (.cells #[.int .i64 x3, .int .i64 y3, .int .i64 3] 29))
  replace HR := Lib.hid (blk_alloc HR.out (.cells #[.int .i64 x3, .int .i64 y3, .int .i64 3] 29))
  replace B := Lib.hid (belA B.out (.cells #[.int .i64 x3, .int .i64 y3, .int .i64 3] 29))
  generalize hz : V2.heap.size = z2 at *
  generalize (V2.alloc (.cells #[.int .i64 x3, .int .i64 y3, .int .i64 3] 29)) = U2 at *
  clear hz
  apply wp_fix (R := fun wx => Hid (wx.heap[w.heap.size]? = some (.cells #[.int .i64 X, .int .i64 Y, .int .i64 n0, .int .i64 n1, .int .i64 n2, .int .i64 W, .int .i64 l0, .int .i64 l1, .int .i64 l2, .int .i64 h0, .int .i64 h1, .int .i64 h2] 27 (0, 0))) ∧ Hid (wx.heap[g]? = some (.cells #[.int .i64 X, .int .i64 Y, .int .i64 a1, .int .i64 b1, .int .i64 a2, .int .i64 b2, .int .i64 a3, .int .i64 b3] 44 (0, 0))) ∧ Hid (wx.heap[b]? = some (.cells #[.int .i64 a3, .int .i64 b3] 23 (0, 0))) ∧ Hid (wx.heap[r]? = some (.cells #[.int .i64 0, .int .i64 0, .int .i64 0, .int .i64 0, .int .i64 0, .int .i64 0, .int .i64 0, .int .i64 0] 44 (0, 0))) ∧ Hid (Below w.heap.size w wx))
  case h =>
    have c0 := blk_cell HA.out 2 _ rfl
    have d0 := blk_cell HD.out 0 _ rfl
    have c1 := blk_cell HA.out 3 _ rfl
    have d1 := blk_cell HD.out 1 _ rfl
    have c2 := blk_cell HA.out 4 _ rfl
    have d2 := blk_cell HD.out 2 _ rfl
    go_region_with (go_at_call 52; refine (fwd_is x3 y3 3 n2 a2 b2 (n2 * u3) (n2 * v3) a3 b3 b _ D3 N2.out Hu3 Hv3 (Lib.hid P.out.g3.1) (Lib.hid P.out.g3.2) (by have := R.out; omega) (by have := R.out; omega) (show Hid (U2.drew.heap[b]? = _) from HB)).mono ?_; rintro e w9 ⟨rfl, bx0, hb9⟩; have bx := undrewX bx0; have HG9 := Lib.hid (belx_blk HG.out m2 bx); have g0 := blk_cell HG9.out 6 _ rfl; have g1 := blk_cell HG9.out 7 _ rfl; have g2 := blk_fz HG9.out 6; have g3 := blk_fz HG9.out 7)
    all_goals exact ⟨rfl, Lib.hid (blk_other (blk_other (belx_blk HA.out mab bx) mga _) mga _), Lib.hid (blk_set (blk_set HG9.out _) _), Lib.hid (blk_other (blk_other hb9 m2 _) m2 _), Lib.hid (blk_other (blk_other (belx_blk HR.out mrb bx) m3 _) m3 _), Lib.hid (belS (belS (B.out.trans (bx.bel NE.out.2.2.1 B.out.size)) NE.out.2.2.2.1 _) NE.out.2.2.2.1 _)⟩
  case k =>
  clear HA HG HB HR HD B
  rintro V3 ⟨HA, HG, HB, HR, B⟩
  go_wp2_with fail
  rw [rounds_succ]
  have e0 := blk_cell HG.out 0 _ rfl
  have r0 := blk_cell HR.out 0 _ rfl
  have j0 := blk_fz HR.out 0
  have e1 := blk_cell HG.out 1 _ rfl
  have r1 := blk_cell HR.out 1 _ rfl
  have j1 := blk_fz HR.out 1
  have e2 := blk_cell HG.out 2 _ rfl
  have r2 := blk_cell HR.out 2 _ rfl
  have j2 := blk_fz HR.out 2
  have e3 := blk_cell HG.out 3 _ rfl
  have r3 := blk_cell HR.out 3 _ rfl
  have j3 := blk_fz HR.out 3
  have e4 := blk_cell HG.out 4 _ rfl
  have r4 := blk_cell HR.out 4 _ rfl
  have j4 := blk_fz HR.out 4
  have e5 := blk_cell HG.out 5 _ rfl
  have r5 := blk_cell HR.out 5 _ rfl
  have j5 := blk_fz HR.out 5
  have e6 := blk_cell HG.out 6 _ rfl
  have r6 := blk_cell HR.out 6 _ rfl
  have j6 := blk_fz HR.out 6
  have e7 := blk_cell HG.out 7 _ rfl
  have r7 := blk_cell HR.out 7 _ rfl
  have j7 := blk_fz HR.out 7
  go_wp2_with fail
  clear e0 r0 j0
  clear e1 r1 j1
  clear e2 r2 j2
  clear e3 r3 j3
  clear e4 r4 j4
  clear e5 r5 j5
  clear e6 r6 j6
  clear e7 r7 j7
  have HZ0 : Hid (((((V3.setCell ⟨r, 0, none⟩ (.int .i64 X)).setCell ⟨r, 1, none⟩ (.int .i64 Y)).setCell ⟨r, 2, none⟩ (.int .i64 a1)).setCell ⟨r, 3, none⟩ (.int .i64 b1)).heap[r]? = some (.cells #[.int .i64 X, .int .i64 Y, .int .i64 a1, .int .i64 b1, .int .i64 0, .int .i64 0, .int .i64 0, .int .i64 0] 44 (0, 0))) := Lib.hid (blk_set (blk_set (blk_set (blk_set HR.out _) _) _) _)
  have HZ1 : Hid (((((((((V3.setCell ⟨r, 0, none⟩ (.int .i64 X)).setCell ⟨r, 1, none⟩ (.int .i64 Y)).setCell ⟨r, 2, none⟩ (.int .i64 a1)).setCell ⟨r, 3, none⟩ (.int .i64 b1)).setCell ⟨r, 4, none⟩ (.int .i64 a2)).setCell ⟨r, 5, none⟩ (.int .i64 b2)).setCell ⟨r, 6, none⟩ (.int .i64 a3)).setCell ⟨r, 7, none⟩ (.int .i64 b3)).heap[r]? = some (.cells #[.int .i64 X, .int .i64 Y, .int .i64 a1, .int .i64 b1, .int .i64 a2, .int .i64 b2, .int .i64 a3, .int .i64 b3] 44 (0, 0))) := Lib.hid (blk_set (blk_set (blk_set (blk_set HZ0.out _) _) _) _)
  replace B : Hid (Below w.heap.size w ((((((((V3.setCell ⟨r, 0, none⟩ (.int .i64 X)).setCell ⟨r, 1, none⟩ (.int .i64 Y)).setCell ⟨r, 2, none⟩ (.int .i64 a1)).setCell ⟨r, 3, none⟩ (.int .i64 b1)).setCell ⟨r, 4, none⟩ (.int .i64 a2)).setCell ⟨r, 5, none⟩ (.int .i64 b2)).setCell ⟨r, 6, none⟩ (.int .i64 a3)).setCell ⟨r, 7, none⟩ (.int .i64 b3))) := Lib.hid (belS (belS (belS (belS (belS (belS (belS (belS B.out NE.out.2.2.2.2 _) NE.out.2.2.2.2 _) NE.out.2.2.2.2 _) NE.out.2.2.2.2 _) NE.out.2.2.2.2 _) NE.out.2.2.2.2 _) NE.out.2.2.2.2 _) NE.out.2.2.2.2 _)
  generalize ((((((((V3.setCell ⟨r, 0, none⟩ (.int .i64 X)).setCell ⟨r, 1, none⟩ (.int .i64 Y)).setCell ⟨r, 2, none⟩ (.int .i64 a1)).setCell ⟨r, 3, none⟩ (.int .i64 b1)).setCell ⟨r, 4, none⟩ (.int .i64 a2)).setCell ⟨r, 5, none⟩ (.int .i64 b2)).setCell ⟨r, 6, none⟩ (.int .i64 a3)).setCell ⟨r, 7, none⟩ (.int .i64 b3)) = W4 at *
  clear HZ0
  have r0 := blk_cell HZ1.out 0 _ rfl
  have r1 := blk_cell HZ1.out 1 _ rfl
  have r2 := blk_cell HZ1.out 2 _ rfl
  have r3 := blk_cell HZ1.out 3 _ rfl
  have r4 := blk_cell HZ1.out 4 _ rfl
  have r5 := blk_cell HZ1.out 5 _ rfl
  have r6 := blk_cell HZ1.out 6 _ rfl
  have r7 := blk_cell HZ1.out 7 _ rfl
  refine bodyPost_ret (v := .agg #[.int .i64 X, .int .i64 Y, .int .i64 a1, .int .i64 b1, .int .i64 a2, .int .i64 b2, .int .i64 a3, .int .i64 b3]) (by simp [results, Tryd.results21, go_sem, r0, r1, r2, r3, r4, r5, r6, r7]) rfl ?_
  exact ⟨rfl, B.out⟩
end Go.Proofs.YtceejjamngplkaaDoor
