/- Helpers, merged: what the law reaches. -/
import Derived.Test.YtalhkcmlacppjaaDoorSc2
namespace Go.Proofs.YtalhkcmlacppjaaDoor
open Go.ChangeShapes Go.WideShapes Go.ChangeAt Go.RowKit
set_option linter.unusedVariables false
set_option linter.unusedSimpArgs false
set_option maxRecDepth 100000

theorem prow_far {w : World} {g r j : Nat} {l : List (Int × Int)} (h : PRow w (some ⟨g, 0, none⟩) l) (hne : r ≠ g) (v : Value) : PRow (w.setCell ⟨r, j, none⟩ v) (some ⟨g, 0, none⟩) l := fun i hi => by
  obtain ⟨b, o, e, c, d⟩ := h i hi
  cases e
  exact ⟨_, _, rfl, (World.cell?_setCell_far _ _ _ _ hne).trans c, (World.cell?_setCell_far _ _ _ _ hne).trans d⟩
theorem prow_notslice {w : World} {g r : Nat} {p : Int × Int} {l : List (Int × Int)} {x y : Value} {T : TypeId} {ao : Option Addr} {n c : Nat} (h : PRow w (some ⟨g, 0, none⟩) (p :: l)) (hr : w.heap[r]? = some (.cells #[.slice ao n c, x, y] T (0, 0))) : r ≠ g := fun e => by
  subst e
  obtain ⟨b, o, e, c1, _⟩ := h 0 (by simp)
  cases e
  have := blk_cell hr 0 _ rfl
  rw [show (0 : Nat) + 0 * 2 = 0 from rfl, this] at c1
  cases c1
theorem eval_tmp {T : Array Value} {D : List Deferred} {t : Nat} {v : Value} (h : T[t]? = some v) : Act.eval ⟨T, D⟩ (.tmp t) = v := by simp [Act.eval, h]
theorem wp_build_to {P : Program} {o : Oper} {a : Act} {w : World} {K : Act → World → Prop} {Q : Exit → Act → World → Prop} (t : TypeId) (parts : Array (Nat × Operand)) (ho : o.op = .build t parts) (cells : Array Value)
    (hc : P.built t (parts.map fun (i, x) => (i, a.eval x)).toList = some cells) (h : K (a.put o.dst (.agg cells)) w) : o.wp P a w K Q :=
  wp_build t parts ho (by rw [hc]; rfl) (by rw [hc]; exact h)
section
variable {F : Fence} {n0 : Nat} {P : Program} {ops : Array Oper} {Q : Exit → Act → World → Prop} {a : Act} {w : World}
theorem below_setRow7 {B g : Nat} {w w' : World} (h : Below B w w') (hg : B ≤ g) (cs : Array Value) : Below B w (w'.setRow g cs) :=
  ⟨h.os, h.tape, h.output, by rw [setRow_size]; exact h.size, fun k hk => (setRow_other w' g k cs (by omega)).trans (h.block k hk)⟩
theorem tail_store (hF : F.fn = fun _ => True) (hd : F.depth = none) (ha : F.alive = false) {i0 : Nat} {rest : List Nat} {o : Oper} (hio : ops[i0]? = some o) (hgd : o.guard = none) (ty : TypeId) (x y : Operand) (ho : o.op = .store ty x y) (hdst : o.dst = none)
    (g : Nat) (cells : Array Value) (hx : a.eval x = .pointer (some ⟨g, 0, none⟩)) (hy : a.eval y = .agg cells) (t : TypeId) (old : Array Value) (hg : w.heap[g]? = some (.cells old t (0, 0))) (hi : (P.info? ty).map (·.size) = some cells.size)
    (hold : old.size = cells.size) (h1 : cells.all (·.oneCell') = true) (h : wpOpsIn F n0 P ops Q rest a (w.setRow g cells)) : wpOpsIn F n0 P ops Q (i0 :: rest) a w := by
  rw [wpOpsIn_cons]
  unfold wpOpIn
  simp only [hio]
  rw [if_pos (by simp [Region.wanted, hgd])]
  exact op_in hF hd ha (by rw [ho]; intro c e; cases e) (wp_store_row ty x y ho g cells hx hy t old hg hi hold h1 (by rw [hdst]; exact h))
end
def bodL (cx cy ex ey uu vv : Int) : List (Int × Int) := [(cx + vv, cy - uu), (ex + vv, ey - uu), (ex - vv, ey + uu), (cx - vv, cy + uu)]
theorem corn_of {cx cy ex ey uu vv : Int} (h : ∀ p ∈ bodL cx cy ex ey uu vv, (-1000000000000 ≤ p.1 ∧ p.1 ≤ 1000000000000) ∧ -1000000000000 ≤ p.2 ∧ p.2 ≤ 1000000000000) : Corn cx cy ex ey uu vv (cx + vv) (cy - uu) (ex + vv) (ey - uu) (ex - vv) (ey + uu) (cx - vv) (cy + uu) := by
  refine ⟨by omega, rfl, by omega, rfl, by omega, rfl, by omega, rfl, ?_⟩
  unfold bodL at h
  simp only [List.forall_mem_cons] at h ⊢
  exact ⟨h.1.1, h.1.2, h.2.1.1, h.2.1.2, h.2.2.1.1, h.2.2.1.2, h.2.2.2.1.1, h.2.2.2.1.2, fun x hx => absurd hx List.not_mem_nil⟩
section
variable {X Y n0 n1 n2 W l0 l1 l2 h0 h1 h2 q0 q1 q2 x1 x2 x3 y1 y2 y3 u1 u2 u3 v1 v2 v3 a1 a2 a3 b1 b2 b3 : Int}
theorem pose_corn (P : Pose X Y n0 n1 n2 q0 q1 q2 x1 x2 x3 y1 y2 y3 u1 u2 u3 v1 v2 v3 a1 a2 a3 b1 b2 b3) (V : armB X Y n0 n1 n2 W l0 l1 l2 h0 h1 h2 = true) : (∀ p ∈ bodL X Y a1 b1 (W * u1) (W * v1), InV p.1 ∧ InV p.2) ∧ (∀ p ∈ bodL a1 b1 a2 b2 (W * u2) (W * v2), InV p.1 ∧ InV p.2) ∧ (∀ p ∈ bodL a2 b2 a3 b3 (W * u3) (W * v3), InV p.1 ∧ InV p.2) ∧ ∀ x ∈ [W * u1, W * v1, W * u2, W * v2, W * u3, W * v3], -20000000 ≤ x ∧ x ≤ 20000000 := by
  have v := (armB_iff X Y n0 n1 n2 W l0 l1 l2 h0 h1 h2).1 V
  obtain ⟨_, m1, m2, m3⟩ := pose_len P
  have r1 := unit_bd m1
  have r2 := unit_bd m2
  have r3 := unit_bd m3
  have t1 := far_bdI (n := W) (by omega) r1.1
  have t2 := far_bdI (n := W) (by omega) r1.2
  have t3 := far_bdI (n := W) (by omega) r2.1
  have t4 := far_bdI (n := W) (by omega) r2.2
  have t5 := far_bdI (n := W) (by omega) r3.1
  have t6 := far_bdI (n := W) (by omega) r3.2
  obtain ⟨B0, B1, B2, B3⟩ := pose_bd P V
  have W0 : 1 ≤ W ∧ W ≤ 4 := by omega
  clear v
  unfold bodL InV
  simp only [List.forall_mem_cons]
  refine ⟨⟨?_, ?_, ?_, ?_, fun x hx => absurd hx List.not_mem_nil⟩, ⟨?_, ?_, ?_, ?_, fun x hx => absurd hx List.not_mem_nil⟩, ⟨?_, ?_, ?_, ?_, fun x hx => absurd hx List.not_mem_nil⟩, ?_, ?_, ?_, ?_, ?_, ?_, fun x hx => absurd hx List.not_mem_nil⟩ <;> first | omega | (simp only; omega)
end

set_option maxHeartbeats 4000000 in
theorem links_is (X Y n0 n1 n2 W l0 l1 l2 h0 h1 h2 : Int) (q0 q1 q2 : Int) (x1 x2 x3 y1 y2 y3 u1 u2 u3 v1 v2 v3 a1 a2 a3 b1 b2 b3 : Int) (L0 L1 L2 : List (Int × Int)) (w : World) (hT : Tab w) (k0 : -1000 ≤ q0 ∧ q0 ≤ 1000) (k1 : -1000 ≤ q1 ∧ q1 ≤ 1000) (k2 : -1000 ≤ q2 ∧ q2 ≤ 1000) (V : Hid (armB X Y n0 n1 n2 W l0 l1 l2 h0 h1 h2 = true)) (P : Hid (Pose X Y n0 n1 n2 q0 q1 q2 x1 x2 x3 y1 y2 y3 u1 u2 u3 v1 v2 v3 a1 a2 a3 b1 b2 b3))
    (E0 : Hid (bodL X Y a1 b1 (W * u1) (W * v1) = L0)) (E1 : Hid (bodL a1 b1 a2 b2 (W * u2) (W * v2) = L1)) (E2 : Hid (bodL a2 b2 a3 b3 (W * u3) (W * v3) = L2)) :
    Calls Tryd.prog 16 #[.agg #[.int .i64 X, .int .i64 Y, .int .i64 n0, .int .i64 n1, .int .i64 n2, .int .i64 W, .int .i64 l0, .int .i64 l1, .int .i64 l2, .int .i64 h0, .int .i64 h1, .int .i64 h2], .agg #[.int .i64 q0, .int .i64 q1, .int .i64 q2]] w fun e w' => (∃ g0 g1 g2, e = .returned (.agg #[.slice (some ⟨g0, 0, none⟩) 4 4, .slice (some ⟨g1, 0, none⟩) 4 4, .slice (some ⟨g2, 0, none⟩) 4 4]) ∧ PRow w' (some ⟨g0, 0, none⟩) L0 ∧ PRow w' (some ⟨g1, 0, none⟩) L1 ∧ PRow w' (some ⟨g2, 0, none⟩) L2) ∧ Below w.heap.size w w' := by
  have WB : Hid (-200 ≤ W ∧ W ≤ 200) := Lib.hid (by have := (armB_iff X Y n0 n1 n2 W l0 l1 l2 h0 h1 h2).1 V.out; omega)
  have PC := Lib.hid (pose_corn P.out V.out)
  have big : ∀ {l : List (Int × Int)}, (∀ p ∈ l, InV p.1 ∧ InV p.2) → ∀ p ∈ l, (-1000000000000 ≤ p.1 ∧ p.1 ≤ 1000000000000) ∧ -1000000000000 ≤ p.2 ∧ p.2 ≤ 1000000000000 := fun h p hp => by have := h p hp; unfold InV at this; omega
  have C0 := Lib.hid (corn_of (big PC.out.1))
  have C1 := Lib.hid (corn_of (big PC.out.2.1))
  have C2 := Lib.hid (corn_of (big PC.out.2.2.1))
  clear big
  have Hu1 : Hid (W * 16 * p65 (3 - 1) * x1 = W * u1) := Lib.hid (by rw [← P.out.f1.1, show p65 (3 - 1) = 4225 by decide]; grind)
  have Hv1 : Hid (W * 16 * p65 (3 - 1) * y1 = W * v1) := Lib.hid (by rw [← P.out.f1.2, show p65 (3 - 1) = 4225 by decide]; grind)
  have M1 : -1000000000000 ≤ W * v1 ∧ W * v1 ≤ 1000000000000 := by have := PC.out.2.2.2 (W * v1) (by simp); omega
  have D1 : Hid (vdB x1 y1 1 = true) := Lib.hid (vd_one q0 x1 y1 (Lib.hid P.out.e1))
  have Hu2 : Hid (W * 16 * p65 (3 - 2) * x2 = W * u2) := Lib.hid (by rw [← P.out.f2.1, show p65 (3 - 2) = 65 by decide]; grind)
  have Hv2 : Hid (W * 16 * p65 (3 - 2) * y2 = W * v2) := Lib.hid (by rw [← P.out.f2.2, show p65 (3 - 2) = 65 by decide]; grind)
  have M2 : -1000000000000 ≤ W * v2 ∧ W * v2 ≤ 1000000000000 := by have := PC.out.2.2.2 (W * v2) (by simp); omega
  have D2 : Hid (vdB x2 y2 2 = true) := Lib.hid (vd_two (x1, y1) q1 x2 y2 1 2 D1.out (by omega) rfl (Lib.hid P.out.e2))
  have Hu3 : Hid (W * 16 * p65 (3 - 3) * x3 = W * u3) := Lib.hid (by rw [← P.out.f3.1, show p65 (3 - 3) = 1 by decide]; grind)
  have Hv3 : Hid (W * 16 * p65 (3 - 3) * y3 = W * v3) := Lib.hid (by rw [← P.out.f3.2, show p65 (3 - 3) = 1 by decide]; grind)
  have M3 : -1000000000000 ≤ W * v3 ∧ W * v3 ≤ 1000000000000 := by have := PC.out.2.2.2 (W * v3) (by simp); omega
  have D3 : Hid (vdB x3 y3 3 = true) := Lib.hid (vd_two (x2, y2) q2 x3 y3 2 3 D2.out (by omega) rfl (Lib.hid P.out.e3))
  go_enter Tryd.func16, Tryd.ntmps16
  go_upto_region 1 with fail
  obtain ⟨W0, hW0⟩ : ∃ z, (((w.alloc (.cells #[.int .i64 X, .int .i64 Y, .int .i64 n0, .int .i64 n1, .int .i64 n2, .int .i64 W, .int .i64 l0, .int .i64 l1, .int .i64 l2, .int .i64 h0, .int .i64 h1, .int .i64 h2] 27)).alloc (.cells #[.int .i64 q0, .int .i64 q1, .int .i64 q2] 25)).alloc (.cells #[.slice none 0 0, .slice none 0 0, .slice none 0 0] 35)) = z := ⟨_, rfl⟩
  have HR : Hid (W0.heap[w.heap.size + 1 + 1]? = some (.cells #[.slice none 0 0, .slice none 0 0, .slice none 0 0] 35 (0, 0))) := Lib.hid (by rw [← hW0]; exact blk_new _ _ _ (by simp))
  have HQ : Hid (W0.heap[w.heap.size + 1]? = some (.cells #[.int .i64 q0, .int .i64 q1, .int .i64 q2] 25 (0, 0))) := Lib.hid (by rw [← hW0]; exact blk_alloc (blk_new _ _ _ (by simp)) _)
  have HA : Hid (W0.heap[w.heap.size]? = some (.cells #[.int .i64 X, .int .i64 Y, .int .i64 n0, .int .i64 n1, .int .i64 n2, .int .i64 W, .int .i64 l0, .int .i64 l1, .int .i64 l2, .int .i64 h0, .int .i64 h1, .int .i64 h2] 27 (0, 0))) := Lib.hid (by rw [← hW0]; exact blk_alloc (blk_alloc (blk_new _ _ _ rfl) _) _)
  have B : Hid (Below w.heap.size w W0) := Lib.hid (by rw [← hW0]; go_grown)
  have TT : Hid (Tab W0) := Lib.hid (by rw [← hW0]; repeat (first | exact hT | apply Tab.alloc))
  rw [hW0]
  clear hW0 hT
  generalize hr : w.heap.size + 1 + 1 = r at *
  generalize hq : w.heap.size + 1 = q at *
  obtain ⟨a, ha⟩ : ∃ a, w.heap.size = a := ⟨_, rfl⟩
  have NR : Hid (w.heap.size ≤ r) := Lib.hid (by omega)
  have NZ : Hid (r < W0.heap.size) := Lib.hid (blk_lt HR.out)
  rw [ha] at HA ⊢
  clear hr hq
  obtain ⟨sp, hsp⟩ : ∃ sp : ToldS, sp = [none, none, none, none, none, some (newS W0.heap.size #[.int .i64 0, .int .i64 0, .int .i64 0, .int .i64 0, .int .i64 0, .int .i64 0, .int .i64 0, .int .i64 0, .int .i64 0, .int .i64 0, .int .i64 0, .int .i64 0, .int .i64 0, .int .i64 0, .int .i64 0, .int .i64 0, .int .i64 0, .int .i64 0, .int .i64 0, .int .i64 0, .int .i64 0, .int .i64 0, .int .i64 0, .int .i64 0, .int .i64 0, .int .i64 0, .int .i64 0, .int .i64 0, .int .i64 0] 65), some (eqS (.agg #[.int .i64 X, .int .i64 Y, .int .i64 n0, .int .i64 n1, .int .i64 n2, .int .i64 W, .int .i64 l0, .int .i64 l1, .int .i64 l2, .int .i64 h0, .int .i64 h1, .int .i64 h2])), some (eqS (.agg #[.int .i64 X, .int .i64 Y, .int .i64 n0, .int .i64 n1, .int .i64 n2, .int .i64 W, .int .i64 l0, .int .i64 l1, .int .i64 l2, .int .i64 h0, .int .i64 h1, .int .i64 h2])), some (eqS (.agg #[.int .i64 q0, .int .i64 q1, .int .i64 q2])), some (eqS (.agg #[.int .i64 x1, .int .i64 y1, .int .i64 1, .int .i64 x2, .int .i64 y2, .int .i64 2, .int .i64 x3, .int .i64 y3, .int .i64 3])), some (eqS (.agg #[.int .i64 X, .int .i64 Y, .int .i64 n0, .int .i64 n1, .int .i64 n2, .int .i64 W, .int .i64 l0, .int .i64 l1, .int .i64 l2, .int .i64 h0, .int .i64 h1, .int .i64 h2])), some (eqS (.agg #[.int .i64 q0, .int .i64 q1, .int .i64 q2])), some (eqS (.agg #[.int .i64 X, .int .i64 Y, .int .i64 a1, .int .i64 b1, .int .i64 a2, .int .i64 b2, .int .i64 a3, .int .i64 b3])), some (eqS (.agg #[.int .i64 X, .int .i64 Y, .int .i64 n0, .int .i64 n1, .int .i64 n2, .int .i64 W, .int .i64 l0, .int .i64 l1, .int .i64 l2, .int .i64 h0, .int .i64 h1, .int .i64 h2, .int .i64 x1, .int .i64 y1, .int .i64 1, .int .i64 x2, .int .i64 y2, .int .i64 2, .int .i64 x3, .int .i64 y3, .int .i64 3, .int .i64 X, .int .i64 Y, .int .i64 a1, .int .i64 b1, .int .i64 a2, .int .i64 b2, .int .i64 a3, .int .i64 b3]))] := ⟨_, rfl⟩
  have s5 : sp.getD 5 none = some (newS W0.heap.size #[.int .i64 0, .int .i64 0, .int .i64 0, .int .i64 0, .int .i64 0, .int .i64 0, .int .i64 0, .int .i64 0, .int .i64 0, .int .i64 0, .int .i64 0, .int .i64 0, .int .i64 0, .int .i64 0, .int .i64 0, .int .i64 0, .int .i64 0, .int .i64 0, .int .i64 0, .int .i64 0, .int .i64 0, .int .i64 0, .int .i64 0, .int .i64 0, .int .i64 0, .int .i64 0, .int .i64 0, .int .i64 0, .int .i64 0] 65) := by rw [hsp]; rfl
  have s6 : sp.getD 6 none = some (eqS (.agg #[.int .i64 X, .int .i64 Y, .int .i64 n0, .int .i64 n1, .int .i64 n2, .int .i64 W, .int .i64 l0, .int .i64 l1, .int .i64 l2, .int .i64 h0, .int .i64 h1, .int .i64 h2])) := by rw [hsp]; rfl
  have s7 : sp.getD 7 none = some (eqS (.agg #[.int .i64 X, .int .i64 Y, .int .i64 n0, .int .i64 n1, .int .i64 n2, .int .i64 W, .int .i64 l0, .int .i64 l1, .int .i64 l2, .int .i64 h0, .int .i64 h1, .int .i64 h2])) := by rw [hsp]; rfl
  have s8 : sp.getD 8 none = some (eqS (.agg #[.int .i64 q0, .int .i64 q1, .int .i64 q2])) := by rw [hsp]; rfl
  have s9 : sp.getD 9 none = some (eqS (.agg #[.int .i64 x1, .int .i64 y1, .int .i64 1, .int .i64 x2, .int .i64 y2, .int .i64 2, .int .i64 x3, .int .i64 y3, .int .i64 3])) := by rw [hsp]; rfl
  have s10 : sp.getD 10 none = some (eqS (.agg #[.int .i64 X, .int .i64 Y, .int .i64 n0, .int .i64 n1, .int .i64 n2, .int .i64 W, .int .i64 l0, .int .i64 l1, .int .i64 l2, .int .i64 h0, .int .i64 h1, .int .i64 h2])) := by rw [hsp]; rfl
  have s11 : sp.getD 11 none = some (eqS (.agg #[.int .i64 q0, .int .i64 q1, .int .i64 q2])) := by rw [hsp]; rfl
  have s12 : sp.getD 12 none = some (eqS (.agg #[.int .i64 X, .int .i64 Y, .int .i64 a1, .int .i64 b1, .int .i64 a2, .int .i64 b2, .int .i64 a3, .int .i64 b3])) := by rw [hsp]; rfl
  have s13 : sp.getD 13 none = some (eqS (.agg #[.int .i64 X, .int .i64 Y, .int .i64 n0, .int .i64 n1, .int .i64 n2, .int .i64 W, .int .i64 l0, .int .i64 l1, .int .i64 l2, .int .i64 h0, .int .i64 h1, .int .i64 h2, .int .i64 x1, .int .i64 y1, .int .i64 1, .int .i64 x2, .int .i64 y2, .int .i64 2, .int .i64 x3, .int .i64 y3, .int .i64 3, .int .i64 X, .int .i64 Y, .int .i64 a1, .int .i64 b1, .int .i64 a2, .int .i64 b2, .int .i64 a3, .int .i64 b3])) := by rw [hsp]; rfl
  clear hsp
  refine (wpIn_wide (n := 0)).1 (region_headR (RtS sp) (rtS_keep sp) 9 rfl rfl rfl (by kernel_rfl) (by decide) (by kernel_rfl) (by kernel_rfl) (by kernel_rfl) ?_ ?_)
  · intro Q'; show ObsR _ _ _ _ _ _ _ _ (List.take _ _); simp only [List.take_succ_cons, List.take_zero]
    refine obsR_cons ?_ ?_
    · intro T wx K hB hF hD hK
      have g2 : T[2]? = some (.pointer (some ⟨a, 0, none⟩)) := hF 2 (freeM_of (by kernel_rfl))
      refine ob_yes (wanted_none rfl) ?_
      clear hF hD
      exact wp_load_row 27 (.tmp 2) rfl a (eval_tmp g2) _ _ _ _ (blk_call HA.out hB) Tryd.underlying27 rfl (by kernel_rfl) (hK _ _ (Below.refl _ _) (rt_eqS s6))
    refine obsR_cons ?_ ?_
    · intro T wx K hB hF hD hK
      have g2 : T[2]? = some (.pointer (some ⟨a, 0, none⟩)) := hF 2 (freeM_of (by kernel_rfl))
      refine ob_yes (wanted_none rfl) ?_
      clear hF hD
      exact wp_load_row 27 (.tmp 2) rfl a (eval_tmp g2) _ _ _ _ (blk_call HA.out hB) Tryd.underlying27 rfl (by kernel_rfl) (hK _ _ (Below.refl _ _) (rt_eqS s7))
    refine obsR_cons ?_ ?_
    · intro T wx K hB hF hD hK
      have g3 : T[3]? = some (.pointer (some ⟨q, 0, none⟩)) := hF 3 (freeM_of (by kernel_rfl))
      refine ob_yes (wanted_none rfl) ?_
      clear hF hD
      exact wp_load_row 25 (.tmp 3) rfl q (eval_tmp g3) _ _ _ _ (blk_call HQ.out hB) Tryd.underlying25 rfl (by kernel_rfl) (hK _ _ (Below.refl _ _) (rt_eqS s8))
    refine obsR_cons ?_ ?_
    · intro T wx K hB hF hD hK
      have g7 := get_eqS (hD 1 7 (by simp [Region.binds]) (by kernel_rfl)) s7
      have g8 := get_eqS (hD 2 8 (by simp [Region.binds]) (by kernel_rfl)) s8
      refine ob_yes (wanted_none rfl) ?_
      clear hF hD
      go_simp
      refine (ldirs_is X Y n0 n1 n2 W l0 l1 l2 h0 h1 h2 q0 q1 q2 x1 y1 x2 y2 x3 y3 _ (TT.out.below hB) k0 k1 k2 (Lib.hid P.out.e1) (Lib.hid P.out.e2) (Lib.hid P.out.e3)).mono ?_; rintro e w9 ⟨rfl, hb⟩
      exact hK _ _ hb (rt_eqS s9)
    refine obsR_cons ?_ ?_
    · intro T wx K hB hF hD hK
      have g2 : T[2]? = some (.pointer (some ⟨a, 0, none⟩)) := hF 2 (freeM_of (by kernel_rfl))
      refine ob_yes (wanted_none rfl) ?_
      clear hF hD
      exact wp_load_row 27 (.tmp 2) rfl a (eval_tmp g2) _ _ _ _ (blk_call HA.out hB) Tryd.underlying27 rfl (by kernel_rfl) (hK _ _ (Below.refl _ _) (rt_eqS s10))
    refine obsR_cons ?_ ?_
    · intro T wx K hB hF hD hK
      have g3 : T[3]? = some (.pointer (some ⟨q, 0, none⟩)) := hF 3 (freeM_of (by kernel_rfl))
      refine ob_yes (wanted_none rfl) ?_
      clear hF hD
      exact wp_load_row 25 (.tmp 3) rfl q (eval_tmp g3) _ _ _ _ (blk_call HQ.out hB) Tryd.underlying25 rfl (by kernel_rfl) (hK _ _ (Below.refl _ _) (rt_eqS s11))
    refine obsR_cons ?_ ?_
    · intro T wx K hB hF hD hK
      have g10 := get_eqS (hD 4 10 (by simp [Region.binds]) (by kernel_rfl)) s10
      have g11 := get_eqS (hD 5 11 (by simp [Region.binds]) (by kernel_rfl)) s11
      refine ob_yes (wanted_none rfl) ?_
      clear hF hD
      go_simp
      refine (jpts_is X Y n0 n1 n2 W l0 l1 l2 h0 h1 h2 q0 q1 q2 x1 x2 x3 y1 y2 y3 u1 u2 u3 v1 v2 v3 a1 a2 a3 b1 b2 b3 _ (TT.out.below hB) k0 k1 k2 V P).mono ?_; rintro e w9 ⟨rfl, hb⟩
      exact hK _ _ hb (rt_eqS s12)
    refine obsR_cons ?_ ?_
    · intro T wx K hB hF hD hK
      have g6 := get_eqS (hD 0 6 (by simp [Region.binds]) (by kernel_rfl)) s6
      have g9 := get_eqS (hD 3 9 (by simp [Region.binds]) (by kernel_rfl)) s9
      have g12 := get_eqS (hD 6 12 (by simp [Region.binds]) (by kernel_rfl)) s12
      refine ob_yes (wanted_none rfl) ?_
      clear hF hD
      refine wp_build_to 65 #[(0, .tmp 6), (1, .tmp 9), (2, .tmp 12)] rfl #[.int .i64 X, .int .i64 Y, .int .i64 n0, .int .i64 n1, .int .i64 n2, .int .i64 W, .int .i64 l0, .int .i64 l1, .int .i64 l2, .int .i64 h0, .int .i64 h1, .int .i64 h2, .int .i64 x1, .int .i64 y1, .int .i64 1, .int .i64 x2, .int .i64 y2, .int .i64 2, .int .i64 x3, .int .i64 y3, .int .i64 3, .int .i64 X, .int .i64 Y, .int .i64 a1, .int .i64 b1, .int .i64 a2, .int .i64 b2, .int .i64 a3, .int .i64 b3] ?_ (hK _ _ (Below.refl _ _) (rt_eqS s13))
      simp only [List.map_toArray, List.map_cons, List.map_nil, eval_tmp g6, eval_tmp g9, eval_tmp g12]
      kernel_rfl
    refine obsR_cons ?_ ?_
    · intro T wx K hB hF hD hK
      refine ob_yes (wanted_none rfl) ?_
      clear hF hD
      go_simp
      exact hK _ _ (belA (Below.refl _ _) _) (rt_S s5 ⟨_, rfl, hB.size, blk_new _ _ _ rfl⟩)
    exact obsR_nil
  · intro T9 w8 hb8 hF hs hD
    have g6 := get_eqS (hD 0 6 (by decide) (by kernel_rfl)) s6
    have g7 := get_eqS (hD 1 7 (by decide) (by kernel_rfl)) s7
    have g8 := get_eqS (hD 2 8 (by decide) (by kernel_rfl)) s8
    have g9 := get_eqS (hD 3 9 (by decide) (by kernel_rfl)) s9
    have g10 := get_eqS (hD 4 10 (by decide) (by kernel_rfl)) s10
    have g11 := get_eqS (hD 5 11 (by decide) (by kernel_rfl)) s11
    have g12 := get_eqS (hD 6 12 (by decide) (by kernel_rfl)) s12
    have g13 := get_eqS (hD 7 13 (by decide) (by kernel_rfl)) s13
    obtain ⟨v5, g5, p5⟩ := getS (hD 8 5 (by decide) (by kernel_rfl)) s5
    have hT := conc [(6, .agg #[.int .i64 X, .int .i64 Y, .int .i64 n0, .int .i64 n1, .int .i64 n2, .int .i64 W, .int .i64 l0, .int .i64 l1, .int .i64 l2, .int .i64 h0, .int .i64 h1, .int .i64 h2]), (7, .agg #[.int .i64 X, .int .i64 Y, .int .i64 n0, .int .i64 n1, .int .i64 n2, .int .i64 W, .int .i64 l0, .int .i64 l1, .int .i64 l2, .int .i64 h0, .int .i64 h1, .int .i64 h2]), (8, .agg #[.int .i64 q0, .int .i64 q1, .int .i64 q2]), (9, .agg #[.int .i64 x1, .int .i64 y1, .int .i64 1, .int .i64 x2, .int .i64 y2, .int .i64 2, .int .i64 x3, .int .i64 y3, .int .i64 3]), (10, .agg #[.int .i64 X, .int .i64 Y, .int .i64 n0, .int .i64 n1, .int .i64 n2, .int .i64 W, .int .i64 l0, .int .i64 l1, .int .i64 l2, .int .i64 h0, .int .i64 h1, .int .i64 h2]), (11, .agg #[.int .i64 q0, .int .i64 q1, .int .i64 q2]), (12, .agg #[.int .i64 X, .int .i64 Y, .int .i64 a1, .int .i64 b1, .int .i64 a2, .int .i64 b2, .int .i64 a3, .int .i64 b3]), (13, .agg #[.int .i64 X, .int .i64 Y, .int .i64 n0, .int .i64 n1, .int .i64 n2, .int .i64 W, .int .i64 l0, .int .i64 l1, .int .i64 l2, .int .i64 h0, .int .i64 h1, .int .i64 h2, .int .i64 x1, .int .i64 y1, .int .i64 1, .int .i64 x2, .int .i64 y2, .int .i64 2, .int .i64 x3, .int .i64 y3, .int .i64 3, .int .i64 X, .int .i64 Y, .int .i64 a1, .int .i64 b1, .int .i64 a2, .int .i64 b2, .int .i64 a3, .int .i64 b3]), (5, v5)] hs hF (by simp only [List.forall_mem_cons]; exact ⟨g6, g7, g8, g9, g10, g11, g12, g13, g5, fun p hp => absurd hp List.not_mem_nil⟩) (by kernel_rfl)
    simp only [List.foldl, List.setIfInBounds_toArray, List.set_cons_succ, List.set_cons_zero] at hT
    subst hT
    clear hF hD hs g6 g7 g8 g9 g10 g11 g12 g13 g5 s5 s6 s7 s8 s9 s10 s11 s12 s13
    show wpOpsIn _ _ _ _ _ [9] _ _
    obtain ⟨s, rfl, hs, h5⟩ := p5
    refine tail_store rfl rfl rfl rfl rfl 65 (.tmp 5) (.tmp 13) rfl rfl s #[.int .i64 X, .int .i64 Y, .int .i64 n0, .int .i64 n1, .int .i64 n2, .int .i64 W, .int .i64 l0, .int .i64 l1, .int .i64 l2, .int .i64 h0, .int .i64 h1, .int .i64 h2, .int .i64 x1, .int .i64 y1, .int .i64 1, .int .i64 x2, .int .i64 y2, .int .i64 2, .int .i64 x3, .int .i64 y3, .int .i64 3, .int .i64 X, .int .i64 Y, .int .i64 a1, .int .i64 b1, .int .i64 a2, .int .i64 b2, .int .i64 a3, .int .i64 b3] rfl rfl _ _ h5 (by kernel_rfl) rfl (by kernel_rfl) ?_
    have hsr : s ≠ r := by have := NZ.out; omega
    have hsw : w.heap.size ≤ s := by have := B.out.size; omega
    have HP1 := Lib.hid (setRow_heap w8 s _ #[.int .i64 X, .int .i64 Y, .int .i64 n0, .int .i64 n1, .int .i64 n2, .int .i64 W, .int .i64 l0, .int .i64 l1, .int .i64 l2, .int .i64 h0, .int .i64 h1, .int .i64 h2, .int .i64 x1, .int .i64 y1, .int .i64 1, .int .i64 x2, .int .i64 y2, .int .i64 2, .int .i64 x3, .int .i64 y3, .int .i64 3, .int .i64 X, .int .i64 Y, .int .i64 a1, .int .i64 b1, .int .i64 a2, .int .i64 b2, .int .i64 a3, .int .i64 b3] _ _ h5)
    have HR1 := Lib.hid ((setRow_other w8 s r #[.int .i64 X, .int .i64 Y, .int .i64 n0, .int .i64 n1, .int .i64 n2, .int .i64 W, .int .i64 l0, .int .i64 l1, .int .i64 l2, .int .i64 h0, .int .i64 h1, .int .i64 h2, .int .i64 x1, .int .i64 y1, .int .i64 1, .int .i64 x2, .int .i64 y2, .int .i64 2, .int .i64 x3, .int .i64 y3, .int .i64 3, .int .i64 X, .int .i64 Y, .int .i64 a1, .int .i64 b1, .int .i64 a2, .int .i64 b2, .int .i64 a3, .int .i64 b3] (fun h => hsr h.symm)).trans (blk_call HR.out hb8))
    have B1 := Lib.hid (below_setRow7 (belT B.out hb8) hsw #[.int .i64 X, .int .i64 Y, .int .i64 n0, .int .i64 n1, .int .i64 n2, .int .i64 W, .int .i64 l0, .int .i64 l1, .int .i64 l2, .int .i64 h0, .int .i64 h1, .int .i64 h2, .int .i64 x1, .int .i64 y1, .int .i64 1, .int .i64 x2, .int .i64 y2, .int .i64 2, .int .i64 x3, .int .i64 y3, .int .i64 3, .int .i64 X, .int .i64 Y, .int .i64 a1, .int .i64 b1, .int .i64 a2, .int .i64 b2, .int .i64 a3, .int .i64 b3])
    have TT1 := Lib.hid (Tab.below TT.out (below_setRow7 hb8 hs #[.int .i64 X, .int .i64 Y, .int .i64 n0, .int .i64 n1, .int .i64 n2, .int .i64 W, .int .i64 l0, .int .i64 l1, .int .i64 l2, .int .i64 h0, .int .i64 h1, .int .i64 h2, .int .i64 x1, .int .i64 y1, .int .i64 1, .int .i64 x2, .int .i64 y2, .int .i64 2, .int .i64 x3, .int .i64 y3, .int .i64 3, .int .i64 X, .int .i64 Y, .int .i64 a1, .int .i64 b1, .int .i64 a2, .int .i64 b2, .int .i64 a3, .int .i64 b3]))
    simp only [wpOpsIn]
    generalize w8.setRow s #[.int .i64 X, .int .i64 Y, .int .i64 n0, .int .i64 n1, .int .i64 n2, .int .i64 W, .int .i64 l0, .int .i64 l1, .int .i64 l2, .int .i64 h0, .int .i64 h1, .int .i64 h2, .int .i64 x1, .int .i64 y1, .int .i64 1, .int .i64 x2, .int .i64 y2, .int .i64 2, .int .i64 x3, .int .i64 y3, .int .i64 3, .int .i64 X, .int .i64 Y, .int .i64 a1, .int .i64 b1, .int .i64 a2, .int .i64 b2, .int .i64 a3, .int .i64 b3] = W1 at *
    clear hb8 hs h5 HR HA HQ B TT
    go_upto_region 2 with fail
    obtain ⟨sp, hsp⟩ : ∃ sp : ToldS, sp = [none, none, none, none, none, none, none, none, none, none, none, none, none, none, some (eqS (.agg #[.int .i64 X, .int .i64 Y, .int .i64 n0, .int .i64 n1, .int .i64 n2, .int .i64 W, .int .i64 l0, .int .i64 l1, .int .i64 l2, .int .i64 h0, .int .i64 h1, .int .i64 h2, .int .i64 x1, .int .i64 y1, .int .i64 1, .int .i64 x2, .int .i64 y2, .int .i64 2, .int .i64 x3, .int .i64 y3, .int .i64 3, .int .i64 X, .int .i64 Y, .int .i64 a1, .int .i64 b1, .int .i64 a2, .int .i64 b2, .int .i64 a3, .int .i64 b3])), some (row4 L0), some (eqS (.agg #[.int .i64 X, .int .i64 Y, .int .i64 n0, .int .i64 n1, .int .i64 n2, .int .i64 W, .int .i64 l0, .int .i64 l1, .int .i64 l2, .int .i64 h0, .int .i64 h1, .int .i64 h2, .int .i64 x1, .int .i64 y1, .int .i64 1, .int .i64 x2, .int .i64 y2, .int .i64 2, .int .i64 x3, .int .i64 y3, .int .i64 3, .int .i64 X, .int .i64 Y, .int .i64 a1, .int .i64 b1, .int .i64 a2, .int .i64 b2, .int .i64 a3, .int .i64 b3])), some (row4 L1), some (eqS (.agg #[.int .i64 X, .int .i64 Y, .int .i64 n0, .int .i64 n1, .int .i64 n2, .int .i64 W, .int .i64 l0, .int .i64 l1, .int .i64 l2, .int .i64 h0, .int .i64 h1, .int .i64 h2, .int .i64 x1, .int .i64 y1, .int .i64 1, .int .i64 x2, .int .i64 y2, .int .i64 2, .int .i64 x3, .int .i64 y3, .int .i64 3, .int .i64 X, .int .i64 Y, .int .i64 a1, .int .i64 b1, .int .i64 a2, .int .i64 b2, .int .i64 a3, .int .i64 b3])), some (row4 L2)] := ⟨_, rfl⟩
    have s14 : sp.getD 14 none = some (eqS (.agg #[.int .i64 X, .int .i64 Y, .int .i64 n0, .int .i64 n1, .int .i64 n2, .int .i64 W, .int .i64 l0, .int .i64 l1, .int .i64 l2, .int .i64 h0, .int .i64 h1, .int .i64 h2, .int .i64 x1, .int .i64 y1, .int .i64 1, .int .i64 x2, .int .i64 y2, .int .i64 2, .int .i64 x3, .int .i64 y3, .int .i64 3, .int .i64 X, .int .i64 Y, .int .i64 a1, .int .i64 b1, .int .i64 a2, .int .i64 b2, .int .i64 a3, .int .i64 b3])) := by rw [hsp]; rfl
    have s15 : sp.getD 15 none = some (row4 L0) := by rw [hsp]; rfl
    have s16 : sp.getD 16 none = some (eqS (.agg #[.int .i64 X, .int .i64 Y, .int .i64 n0, .int .i64 n1, .int .i64 n2, .int .i64 W, .int .i64 l0, .int .i64 l1, .int .i64 l2, .int .i64 h0, .int .i64 h1, .int .i64 h2, .int .i64 x1, .int .i64 y1, .int .i64 1, .int .i64 x2, .int .i64 y2, .int .i64 2, .int .i64 x3, .int .i64 y3, .int .i64 3, .int .i64 X, .int .i64 Y, .int .i64 a1, .int .i64 b1, .int .i64 a2, .int .i64 b2, .int .i64 a3, .int .i64 b3])) := by rw [hsp]; rfl
    have s17 : sp.getD 17 none = some (row4 L1) := by rw [hsp]; rfl
    have s18 : sp.getD 18 none = some (eqS (.agg #[.int .i64 X, .int .i64 Y, .int .i64 n0, .int .i64 n1, .int .i64 n2, .int .i64 W, .int .i64 l0, .int .i64 l1, .int .i64 l2, .int .i64 h0, .int .i64 h1, .int .i64 h2, .int .i64 x1, .int .i64 y1, .int .i64 1, .int .i64 x2, .int .i64 y2, .int .i64 2, .int .i64 x3, .int .i64 y3, .int .i64 3, .int .i64 X, .int .i64 Y, .int .i64 a1, .int .i64 b1, .int .i64 a2, .int .i64 b2, .int .i64 a3, .int .i64 b3])) := by rw [hsp]; rfl
    have s19 : sp.getD 19 none = some (row4 L2) := by rw [hsp]; rfl
    clear hsp
    refine (wpIn_wide (n := 0)).1 (region_headR (RtS sp) (rtS_keep sp) 6 rfl rfl rfl (by kernel_rfl) (by decide) (by kernel_rfl) (by kernel_rfl) (by kernel_rfl) ?_ ?_)
    · intro Q'; show ObsR _ _ _ _ _ _ _ _ (List.take _ _); simp only [List.take_succ_cons, List.take_zero]
      refine obsR_cons ?_ ?_
      · intro T wx K hB hF hD hK
        have g5 : T[5]? = some (.pointer (some ⟨s, 0, none⟩)) := hF 5 (freeM_of (by kernel_rfl))
        refine ob_yes (wanted_none rfl) ?_
        clear hF hD
        exact wp_load_row 65 (.tmp 5) rfl s (eval_tmp g5) _ _ _ _ (blk_call HP1.out hB) Tryd.underlying65 rfl (by kernel_rfl) (hK _ _ (Below.refl _ _) (rt_eqS s14))
      refine obsR_cons ?_ ?_
      · intro T wx K hB hF hD hK
        have g14 := get_eqS (hD 0 14 (by simp [Region.binds]) (by kernel_rfl)) s14
        refine ob_yes (wanted_none rfl) ?_
        clear hF hD
        go_simp
        refine (body_is X Y n0 n1 n2 W l0 l1 l2 h0 h1 h2 x1 x2 x3 y1 y2 y3 u1 u2 u3 v1 v2 v3 a1 a2 a3 b1 b2 b3 0 1 x1 y1 X Y a1 b1 (W * u1) (W * v1) (X + W * v1) (Y - W * u1) (a1 + W * v1) (b1 - W * u1) (a1 - W * v1) (b1 + W * u1) (X - W * v1) (Y + W * u1) 12 21 23 _ (Lib.hid (Or.inl ⟨rfl, rfl, rfl, rfl, rfl, rfl, rfl, rfl⟩)) D1 WB.out Hu1 Hv1 C0 M1).mono ?_; rintro e w9 ⟨⟨g9, rfl, pr⟩, hb⟩
        exact hK _ _ hb (rt_S s15 ⟨g9, rfl, E0.out ▸ pr⟩)
      refine obsR_cons ?_ ?_
      · intro T wx K hB hF hD hK
        have g5 : T[5]? = some (.pointer (some ⟨s, 0, none⟩)) := hF 5 (freeM_of (by kernel_rfl))
        refine ob_yes (wanted_none rfl) ?_
        clear hF hD
        exact wp_load_row 65 (.tmp 5) rfl s (eval_tmp g5) _ _ _ _ (blk_call HP1.out hB) Tryd.underlying65 rfl (by kernel_rfl) (hK _ _ (Below.refl _ _) (rt_eqS s16))
      refine obsR_cons ?_ ?_
      · intro T wx K hB hF hD hK
        have g16 := get_eqS (hD 2 16 (by simp [Region.binds]) (by kernel_rfl)) s16
        refine ob_yes (wanted_none rfl) ?_
        clear hF hD
        go_simp
        refine (body_is X Y n0 n1 n2 W l0 l1 l2 h0 h1 h2 x1 x2 x3 y1 y2 y3 u1 u2 u3 v1 v2 v3 a1 a2 a3 b1 b2 b3 1 2 x2 y2 a1 b1 a2 b2 (W * u2) (W * v2) (a1 + W * v2) (b1 - W * u2) (a2 + W * v2) (b2 - W * u2) (a2 - W * v2) (b2 + W * u2) (a1 - W * v2) (b1 + W * u2) 15 23 25 _ (Lib.hid (Or.inr (Or.inl ⟨rfl, rfl, rfl, rfl, rfl, rfl, rfl, rfl⟩))) D2 WB.out Hu2 Hv2 C1 M2).mono ?_; rintro e w9 ⟨⟨g9, rfl, pr⟩, hb⟩
        exact hK _ _ hb (rt_S s17 ⟨g9, rfl, E1.out ▸ pr⟩)
      refine obsR_cons ?_ ?_
      · intro T wx K hB hF hD hK
        have g5 : T[5]? = some (.pointer (some ⟨s, 0, none⟩)) := hF 5 (freeM_of (by kernel_rfl))
        refine ob_yes (wanted_none rfl) ?_
        clear hF hD
        exact wp_load_row 65 (.tmp 5) rfl s (eval_tmp g5) _ _ _ _ (blk_call HP1.out hB) Tryd.underlying65 rfl (by kernel_rfl) (hK _ _ (Below.refl _ _) (rt_eqS s18))
      refine obsR_cons ?_ ?_
      · intro T wx K hB hF hD hK
        have g18 := get_eqS (hD 4 18 (by simp [Region.binds]) (by kernel_rfl)) s18
        refine ob_yes (wanted_none rfl) ?_
        clear hF hD
        go_simp
        refine (body_is X Y n0 n1 n2 W l0 l1 l2 h0 h1 h2 x1 x2 x3 y1 y2 y3 u1 u2 u3 v1 v2 v3 a1 a2 a3 b1 b2 b3 2 3 x3 y3 a2 b2 a3 b3 (W * u3) (W * v3) (a2 + W * v3) (b2 - W * u3) (a3 + W * v3) (b3 - W * u3) (a3 - W * v3) (b3 + W * u3) (a2 - W * v3) (b2 + W * u3) 18 25 27 _ (Lib.hid (Or.inr (Or.inr ⟨rfl, rfl, rfl, rfl, rfl, rfl, rfl, rfl⟩))) D3 WB.out Hu3 Hv3 C2 M3).mono ?_; rintro e w9 ⟨⟨g9, rfl, pr⟩, hb⟩
        exact hK _ _ hb (rt_S s19 ⟨g9, rfl, E2.out ▸ pr⟩)
      exact obsR_nil
    · intro T9 w8 hb8 hF hs hD
      have g14 := get_eqS (hD 0 14 (by decide) (by kernel_rfl)) s14
      obtain ⟨v15, g15, p15⟩ := getS (hD 1 15 (by decide) (by kernel_rfl)) s15
      have g16 := get_eqS (hD 2 16 (by decide) (by kernel_rfl)) s16
      obtain ⟨v17, g17, p17⟩ := getS (hD 3 17 (by decide) (by kernel_rfl)) s17
      have g18 := get_eqS (hD 4 18 (by decide) (by kernel_rfl)) s18
      obtain ⟨v19, g19, p19⟩ := getS (hD 5 19 (by decide) (by kernel_rfl)) s19
      have hT := conc [(14, .agg #[.int .i64 X, .int .i64 Y, .int .i64 n0, .int .i64 n1, .int .i64 n2, .int .i64 W, .int .i64 l0, .int .i64 l1, .int .i64 l2, .int .i64 h0, .int .i64 h1, .int .i64 h2, .int .i64 x1, .int .i64 y1, .int .i64 1, .int .i64 x2, .int .i64 y2, .int .i64 2, .int .i64 x3, .int .i64 y3, .int .i64 3, .int .i64 X, .int .i64 Y, .int .i64 a1, .int .i64 b1, .int .i64 a2, .int .i64 b2, .int .i64 a3, .int .i64 b3]), (15, v15), (16, .agg #[.int .i64 X, .int .i64 Y, .int .i64 n0, .int .i64 n1, .int .i64 n2, .int .i64 W, .int .i64 l0, .int .i64 l1, .int .i64 l2, .int .i64 h0, .int .i64 h1, .int .i64 h2, .int .i64 x1, .int .i64 y1, .int .i64 1, .int .i64 x2, .int .i64 y2, .int .i64 2, .int .i64 x3, .int .i64 y3, .int .i64 3, .int .i64 X, .int .i64 Y, .int .i64 a1, .int .i64 b1, .int .i64 a2, .int .i64 b2, .int .i64 a3, .int .i64 b3]), (17, v17), (18, .agg #[.int .i64 X, .int .i64 Y, .int .i64 n0, .int .i64 n1, .int .i64 n2, .int .i64 W, .int .i64 l0, .int .i64 l1, .int .i64 l2, .int .i64 h0, .int .i64 h1, .int .i64 h2, .int .i64 x1, .int .i64 y1, .int .i64 1, .int .i64 x2, .int .i64 y2, .int .i64 2, .int .i64 x3, .int .i64 y3, .int .i64 3, .int .i64 X, .int .i64 Y, .int .i64 a1, .int .i64 b1, .int .i64 a2, .int .i64 b2, .int .i64 a3, .int .i64 b3]), (19, v19)] hs hF (by simp only [List.forall_mem_cons]; exact ⟨g14, g15, g16, g17, g18, g19, fun p hp => absurd hp List.not_mem_nil⟩) (by kernel_rfl)
      simp only [List.foldl, List.setIfInBounds_toArray, List.set_cons_succ, List.set_cons_zero] at hT
      subst hT
      clear hF hD hs g14 g15 g16 g17 g18 g19 s14 s15 s16 s17 s18 s19
      show wpOpsIn _ _ _ _ _ [6, 7] _ _
      obtain ⟨g0, rfl, pr0⟩ := p15
      obtain ⟨g1, rfl, pr1⟩ := p17
      obtain ⟨g2, rfl, pr2⟩ := p19
      have R0 := Lib.hid (blk_call HR1.out hb8)
      have PR0 := Lib.hid pr0
      have PR1 := Lib.hid pr1
      have PR2 := Lib.hid pr2
      have B2 := Lib.hid (belT B1.out hb8)
      have r0 := blk_cell R0.out 0 _ rfl
      have r1 := blk_cell R0.out 1 _ rfl
      have r2 := blk_cell R0.out 2 _ rfl
      have r3 := blk_fz R0.out 0
      have r4 := blk_fz R0.out 1
      have r5 := blk_fz R0.out 2
      clear pr0 pr1 pr2
      simp only [wpOpsIn]
      go_simp
      clear r0 r1 r2 r3 r4 r5
      have n0' : r ≠ g0 := prow_notslice (E0.out ▸ PR0.out) R0.out
      have n1' : r ≠ g1 := prow_notslice (E1.out ▸ PR1.out) R0.out
      have n2' : r ≠ g2 := prow_notslice (E2.out ▸ PR2.out) R0.out
      have B3 := Lib.hid (belS (p := ⟨r, 2, none⟩) (belS (p := ⟨r, 1, none⟩) (belS (p := ⟨r, 0, none⟩) B2.out NR.out (.slice (some ⟨g0, 0, none⟩) 4 4)) NR.out (.slice (some ⟨g1, 0, none⟩) 4 4)) NR.out (.slice (some ⟨g2, 0, none⟩) 4 4))
      have Q0 := Lib.hid (prow_far (j := 2) (prow_far (j := 1) (prow_far (j := 0) PR0.out n0' (.slice (some ⟨g0, 0, none⟩) 4 4)) n0' (.slice (some ⟨g1, 0, none⟩) 4 4)) n0' (.slice (some ⟨g2, 0, none⟩) 4 4))
      have Q1 := Lib.hid (prow_far (j := 2) (prow_far (j := 1) (prow_far (j := 0) PR1.out n1' (.slice (some ⟨g0, 0, none⟩) 4 4)) n1' (.slice (some ⟨g1, 0, none⟩) 4 4)) n1' (.slice (some ⟨g2, 0, none⟩) 4 4))
      have Q2 := Lib.hid (prow_far (j := 2) (prow_far (j := 1) (prow_far (j := 0) PR2.out n2' (.slice (some ⟨g0, 0, none⟩) 4 4)) n2' (.slice (some ⟨g1, 0, none⟩) 4 4)) n2' (.slice (some ⟨g2, 0, none⟩) 4 4))
      have HZ := Lib.hid (blk_set (j := 2) (blk_set (j := 1) (blk_set (j := 0) R0.out (.slice (some ⟨g0, 0, none⟩) 4 4)) (.slice (some ⟨g1, 0, none⟩) 4 4)) (.slice (some ⟨g2, 0, none⟩) 4 4))
      generalize (((w8.setCell ⟨r, 0, none⟩ (.slice (some ⟨g0, 0, none⟩) 4 4)).setCell ⟨r, 1, none⟩ (.slice (some ⟨g1, 0, none⟩) 4 4)).setCell ⟨r, 2, none⟩ (.slice (some ⟨g2, 0, none⟩) 4 4)) = W2 at *
      have r0 := blk_cell HZ.out 0 _ rfl
      have r1 := blk_cell HZ.out 1 _ rfl
      have r2 := blk_cell HZ.out 2 _ rfl
      go_wp2_with fail
      refine bodyPost_ret (v := .agg #[.slice (some ⟨g0, 0, none⟩) 4 4, .slice (some ⟨g1, 0, none⟩) 4 4, .slice (some ⟨g2, 0, none⟩) 4 4]) (by simp [results, Tryd.results16, go_sem, r0, r1, r2]) rfl ?_
      exact ⟨⟨g0, g1, g2, rfl, Q0.out, Q1.out, Q2.out⟩, B3.out⟩
end Go.Proofs.YtalhkcmlacppjaaDoor

namespace Go.Proofs.YtalhkcmlacppjaaDoor
open Go.ChangeShapes Go.WideShapes Go.ChangeAt Go.RowKit
set_option linter.unusedVariables false
set_option linter.unusedSimpArgs false
set_option maxRecDepth 100000

/-- A joint value within limits, out of an arbitrary number. -/
def jq (l h r : Int) : Int := l + r.tmod (h - l + 1)
theorem jq_bd {l h r : Int} (hl : l ≤ h) (hr : 0 ≤ r) : (0 ≤ r.tmod (h - l + 1) ∧ r.tmod (h - l + 1) ≤ h - l) ∧ l ≤ jq l h r ∧ jq l h r ≤ h := by
  have e : r.tmod (h - l + 1) = r % (h - l + 1) := Int.tmod_eq_emod_of_nonneg hr
  have a := Int.emod_nonneg r (show h - l + 1 ≠ 0 by omega)
  have b := Int.emod_lt_of_pos r (show 0 < h - l + 1 by omega)
  unfold jq
  rw [e]
  omega
theorem one_is (w : World) : Calls Tryd.prog 34 #[] w fun e w' => e = .returned (.agg #[.int .i64 0, .int .i64 0, .int .i64 1, .int .i64 1, .int .i64 1, .int .i64 1, .int .i64 (-17), .int .i64 (-17), .int .i64 (-17), .int .i64 18, .int .i64 18, .int .i64 18]) ∧ Below w.heap.size w w' := by
  go_enter Tryd.func34, Tryd.ntmps34
  go_wp2
  go_returns
  exact ⟨rfl, by go_grown⟩
def farI (a b c d : Int) : Int := (a - c).tdiv 16 * (a - c).tdiv 16 + (b - d).tdiv 16 * (b - d).tdiv 16
theorem tdiv16 {x : Int} (h : -2000000000 ≤ x ∧ x ≤ 2000000000) : -125000000 ≤ x.tdiv 16 ∧ x.tdiv 16 ≤ 125000000 := by
  rw [Int.tdiv_eq_ediv]
  have : (16 : Int).sign = 1 := rfl
  split <;> omega
theorem wrapi (n : Int) (h : -1000000000 ≤ n ∧ n ≤ 1000000000) : IntKind.i64.wrap n = n := by rw [IntKind.wrap_i64]; omega
set_option maxHeartbeats 1000000 in
theorem lfar_is (a b c d n : Int) (w : World) (hn : Hid (farI a b c d = n)) (ha : -1000000000 ≤ a ∧ a ≤ 1000000000) (hb : -1000000000 ≤ b ∧ b ≤ 1000000000) (hc : -1000000000 ≤ c ∧ c ≤ 1000000000) (hd : -1000000000 ≤ d ∧ d ≤ 1000000000) :
    Calls Tryd.prog 25 #[.agg #[.int .i64 a, .int .i64 b], .agg #[.int .i64 c, .int .i64 d]] w fun e w' => e = .returned (.int .i64 n) ∧ Below w.heap.size w w' := by
  have hx := tdiv16 (x := a - c) (by omega)
  have hy := tdiv16 (x := b - d) (by omega)
  obtain ⟨x, ex⟩ : ∃ x, (a - c).tdiv 16 = x := ⟨_, rfl⟩
  obtain ⟨y, ey⟩ : ∃ y, (b - d).tdiv 16 = y := ⟨_, rfl⟩
  rw [ex] at hx
  rw [ey] at hy
  have mx := mul_bd2 (B := 125000000) (C := 125000000) hx hx
  have my := mul_bd2 (B := 125000000) (C := 125000000) hy hy
  have E : Hid (x * x + y * y = n) := Lib.hid (by rw [← hn.out, ← ex, ← ey]; rfl)
  go_enter Tryd.func25, Tryd.ntmps25
  go_wp2_with fail
  go_quiet (fail)
  go_wp2_with fail
  go_ret
  exact ⟨ret_int E.out, by (repeat (with_reducible refine below_drewN ?_ _)); go_grown⟩

set_option maxHeartbeats 4000000 in
theorem joint_is (X Y n0 n1 n2 W l0 l1 l2 h0 h1 h2 : Int) (r0 r1 r2 : Int) (w : World) (V : Hid (armB X Y n0 n1 n2 W l0 l1 l2 h0 h1 h2 = true)) (hr0 : 0 ≤ r0 ∧ r0 ≤ 255) (hr1 : 0 ≤ r1 ∧ r1 ≤ 255) (hr2 : 0 ≤ r2 ∧ r2 ≤ 255) :
    Calls Tryd.prog 15 #[.agg #[.int .i64 X, .int .i64 Y, .int .i64 n0, .int .i64 n1, .int .i64 n2, .int .i64 W, .int .i64 l0, .int .i64 l1, .int .i64 l2, .int .i64 h0, .int .i64 h1, .int .i64 h2], .agg #[.int .u8 r0, .int .u8 r1, .int .u8 r2]] w fun e w' => e = .returned (.agg #[.int .i64 (jq l0 h0 r0), .int .i64 (jq l1 h1 r1), .int .i64 (jq l2 h2 r2)]) ∧ Below w.heap.size w w' := by
  have v := ((armB_iff X Y n0 n1 n2 W l0 l1 l2 h0 h1 h2).1 V.out).2.1
  obtain ⟨⟨v1, v2, v3⟩, ⟨v4, v5, v6⟩, v7, v8, v9⟩ := v
  clear V
  obtain ⟨⟨j1, j2⟩, -⟩ := jq_bd v2 hr0.1
  obtain ⟨⟨j3, j4⟩, -⟩ := jq_bd v5 hr1.1
  obtain ⟨⟨j5, j6⟩, -⟩ := jq_bd v8 hr2.1
  have z0 : ¬ h0 - l0 + 1 = 0 := by omega
  have z1 : ¬ h1 - l1 + 1 = 0 := by omega
  have z2 : ¬ h2 - l2 + 1 = 0 := by omega
  go_enter Tryd.func15, Tryd.ntmps15
  go_upto_region 2 with fail
  obtain ⟨W0, hW0⟩ : ∃ z, ((((w.alloc (.cells #[.int .i64 X, .int .i64 Y, .int .i64 n0, .int .i64 n1, .int .i64 n2, .int .i64 W, .int .i64 l0, .int .i64 l1, .int .i64 l2, .int .i64 h0, .int .i64 h1, .int .i64 h2] 27)).alloc (.cells #[.int .u8 r0, .int .u8 r1, .int .u8 r2] 28)).alloc (.cells #[.int .i64 0, .int .i64 0, .int .i64 0] 25)).alloc (.cells #[.int .i64 0, .int .i64 0, .int .i64 0] 25)) = z := ⟨_, rfl⟩
  have HJ : Hid (W0.heap[w.heap.size + 1 + 1 + 1]? = some (.cells #[.int .i64 0, .int .i64 0, .int .i64 0] 25 (0, 0))) := Lib.hid (by rw [← hW0]; exact blk_new _ _ _ (by simp))
  have HS : Hid (W0.heap[w.heap.size + 1 + 1]? = some (.cells #[.int .i64 0, .int .i64 0, .int .i64 0] 25 (0, 0))) := Lib.hid (by rw [← hW0]; exact blk_alloc (blk_new _ _ _ (by simp)) _)
  have HR : Hid (W0.heap[w.heap.size + 1]? = some (.cells #[.int .u8 r0, .int .u8 r1, .int .u8 r2] 28 (0, 0))) := Lib.hid (by rw [← hW0]; exact blk_alloc (blk_alloc (blk_new _ _ _ (by simp)) _) _)
  have HA : Hid (W0.heap[w.heap.size]? = some (.cells #[.int .i64 X, .int .i64 Y, .int .i64 n0, .int .i64 n1, .int .i64 n2, .int .i64 W, .int .i64 l0, .int .i64 l1, .int .i64 l2, .int .i64 h0, .int .i64 h1, .int .i64 h2] 27 (0, 0))) := Lib.hid (by rw [← hW0]; exact blk_alloc (blk_alloc (blk_alloc (blk_new _ _ _ rfl) _) _) _)
  have B : Hid (Below w.heap.size w W0) := Lib.hid (by rw [← hW0]; go_grown)
  rw [hW0]
  clear hW0
  obtain ⟨a, ha⟩ : ∃ a, w.heap.size = a := ⟨_, rfl⟩
  generalize hj : w.heap.size + 1 + 1 + 1 = j at *
  generalize hs : w.heap.size + 1 + 1 = s at *
  generalize hr : w.heap.size + 1 = r at *
  have NE : Hid ((w.heap.size ≤ j ∧ w.heap.size ≤ s) ∧ j ≠ a ∧ j ≠ r ∧ j ≠ s) := Lib.hid (by omega)
  rw [ha] at HA ⊢
  clear hj hs hr
  go_wp2_with fail
  refine wp_loop_rounds 4 ?_
  rw [rounds_succ]
  go_wp2_with fail
  obtain ⟨sp, hsp⟩ : ∃ sp : ToldS, sp = [none, none, none, none, none, none, none, none, none, none, none, none, some (eqS (.int .i64 0)), some (eqS (.int .i64 0)), some (eqS (.pointer (some ⟨a, 6, none⟩))), some (eqS (.pointer (some ⟨a, 6, none⟩))), some (eqS (.int .i64 l0)), some (eqS (.int .i64 0)), some (eqS (.pointer (some ⟨r, 0, none⟩))), some (eqS (.int .u8 r0)), some (eqS (.int .i64 r0)), some (eqS (.int .i64 0)), some (eqS (.pointer (some ⟨a, 9, none⟩))), some (eqS (.pointer (some ⟨a, 9, none⟩))), some (eqS (.int .i64 h0)), some (eqS (.int .i64 0)), some (eqS (.pointer (some ⟨a, 6, none⟩))), some (eqS (.pointer (some ⟨a, 6, none⟩))), some (eqS (.int .i64 l0)), some (eqS (.int .i64 (h0 - l0))), some (eqS (.int .i64 (h0 - l0 + 1))), some (eqS (.int .i64 (r0.tmod (h0 - l0 + 1)))), some (eqS (.int .i64 (l0 + r0.tmod (h0 - l0 + 1)))), some (eqS (.pointer (some ⟨j, 0, none⟩)))] := ⟨_, rfl⟩
  have s12 : sp.getD 12 none = some (eqS (.int .i64 0)) := by rw [hsp]; rfl
  have s13 : sp.getD 13 none = some (eqS (.int .i64 0)) := by rw [hsp]; rfl
  have s14 : sp.getD 14 none = some (eqS (.pointer (some ⟨a, 6, none⟩))) := by rw [hsp]; rfl
  have s15 : sp.getD 15 none = some (eqS (.pointer (some ⟨a, 6, none⟩))) := by rw [hsp]; rfl
  have s16 : sp.getD 16 none = some (eqS (.int .i64 l0)) := by rw [hsp]; rfl
  have s17 : sp.getD 17 none = some (eqS (.int .i64 0)) := by rw [hsp]; rfl
  have s18 : sp.getD 18 none = some (eqS (.pointer (some ⟨r, 0, none⟩))) := by rw [hsp]; rfl
  have s19 : sp.getD 19 none = some (eqS (.int .u8 r0)) := by rw [hsp]; rfl
  have s20 : sp.getD 20 none = some (eqS (.int .i64 r0)) := by rw [hsp]; rfl
  have s21 : sp.getD 21 none = some (eqS (.int .i64 0)) := by rw [hsp]; rfl
  have s22 : sp.getD 22 none = some (eqS (.pointer (some ⟨a, 9, none⟩))) := by rw [hsp]; rfl
  have s23 : sp.getD 23 none = some (eqS (.pointer (some ⟨a, 9, none⟩))) := by rw [hsp]; rfl
  have s24 : sp.getD 24 none = some (eqS (.int .i64 h0)) := by rw [hsp]; rfl
  have s25 : sp.getD 25 none = some (eqS (.int .i64 0)) := by rw [hsp]; rfl
  have s26 : sp.getD 26 none = some (eqS (.pointer (some ⟨a, 6, none⟩))) := by rw [hsp]; rfl
  have s27 : sp.getD 27 none = some (eqS (.pointer (some ⟨a, 6, none⟩))) := by rw [hsp]; rfl
  have s28 : sp.getD 28 none = some (eqS (.int .i64 l0)) := by rw [hsp]; rfl
  have s29 : sp.getD 29 none = some (eqS (.int .i64 (h0 - l0))) := by rw [hsp]; rfl
  have s30 : sp.getD 30 none = some (eqS (.int .i64 (h0 - l0 + 1))) := by rw [hsp]; rfl
  have s31 : sp.getD 31 none = some (eqS (.int .i64 (r0.tmod (h0 - l0 + 1)))) := by rw [hsp]; rfl
  have s32 : sp.getD 32 none = some (eqS (.int .i64 (l0 + r0.tmod (h0 - l0 + 1)))) := by rw [hsp]; rfl
  have s33 : sp.getD 33 none = some (eqS (.pointer (some ⟨j, 0, none⟩))) := by rw [hsp]; rfl
  clear hsp
  refine (wpIn_wide (n := 0)).1 (region_headR (RtS sp) (rtS_keep sp) 22 rfl rfl rfl (by kernel_rfl) (by decide) (by kernel_rfl) (by kernel_rfl) (by kernel_rfl) ?_ ?_)
  · intro Q'; show ObsR _ _ _ _ _ _ _ _ (List.take _ _); simp only [List.take_succ_cons, List.take_zero]
    refine obsR_cons ?_ ?_
    · intro T wx K hB hF hD hK
      have g6 : T[6]? = some (.int .i64 0) := hF 6 (freeM_of (by kernel_rfl))
      refine ob_yes (wanted_none rfl) ?_
      clear hF hD
      go_simp
      exact hK _ _ (Below.refl _ _) (rt_eqS s12)
    refine obsR_cons ?_ ?_
    · intro T wx K hB hF hD hK
      have g6 : T[6]? = some (.int .i64 0) := hF 6 (freeM_of (by kernel_rfl))
      refine ob_yes (wanted_none rfl) ?_
      clear hF hD
      go_simp
      exact hK _ _ (Below.refl _ _) (rt_eqS s13)
    refine obsR_cons ?_ ?_
    · intro T wx K hB hF hD hK
      have g2 : T[2]? = some (.pointer (some ⟨a, 0, none⟩)) := hF 2 (freeM_of (by kernel_rfl))
      refine ob_yes (wanted_none rfl) ?_
      clear hF hD
      go_simp
      exact hK _ _ (Below.refl _ _) (rt_eqS s14)
    refine obsR_cons ?_ ?_
    · intro T wx K hB hF hD hK
      have g14 := get_eqS (hD 2 14 (by simp [Region.binds]) (by kernel_rfl)) s14
      have g13 := get_eqS (hD 1 13 (by simp [Region.binds]) (by kernel_rfl)) s13
      refine ob_yes (wanted_none rfl) ?_
      clear hF hD
      go_simp
      exact hK _ _ (Below.refl _ _) (rt_eqS s15)
    refine obsR_cons ?_ ?_
    · intro T wx K hB hF hD hK
      have g15 := get_eqS (hD 3 15 (by simp [Region.binds]) (by kernel_rfl)) s15
      refine ob_yes (wanted_none rfl) ?_
      clear hF hD
      have c0 := blk_cell (blk_call HA.out hB) 6 _ rfl
      go_simp
      exact hK _ _ (Below.refl _ _) (rt_eqS s16)
    refine obsR_cons ?_ ?_
    · intro T wx K hB hF hD hK
      have g6 : T[6]? = some (.int .i64 0) := hF 6 (freeM_of (by kernel_rfl))
      refine ob_yes (wanted_none rfl) ?_
      clear hF hD
      go_simp
      exact hK _ _ (Below.refl _ _) (rt_eqS s17)
    refine obsR_cons ?_ ?_
    · intro T wx K hB hF hD hK
      have g3 : T[3]? = some (.pointer (some ⟨r, 0, none⟩)) := hF 3 (freeM_of (by kernel_rfl))
      have g17 := get_eqS (hD 5 17 (by simp [Region.binds]) (by kernel_rfl)) s17
      refine ob_yes (wanted_none rfl) ?_
      clear hF hD
      go_simp
      exact hK _ _ (Below.refl _ _) (rt_eqS s18)
    refine obsR_cons ?_ ?_
    · intro T wx K hB hF hD hK
      have g18 := get_eqS (hD 6 18 (by simp [Region.binds]) (by kernel_rfl)) s18
      refine ob_yes (wanted_none rfl) ?_
      clear hF hD
      have c0 := blk_cell (blk_call HR.out hB) 0 _ rfl
      go_simp
      exact hK _ _ (Below.refl _ _) (rt_eqS s19)
    refine obsR_cons ?_ ?_
    · intro T wx K hB hF hD hK
      have g19 := get_eqS (hD 7 19 (by simp [Region.binds]) (by kernel_rfl)) s19
      refine ob_yes (wanted_none rfl) ?_
      clear hF hD
      go_simp
      rw [wrapi _ (by omega)]
      exact hK _ _ (Below.refl _ _) (rt_eqS s20)
    refine obsR_cons ?_ ?_
    · intro T wx K hB hF hD hK
      have g6 : T[6]? = some (.int .i64 0) := hF 6 (freeM_of (by kernel_rfl))
      refine ob_yes (wanted_none rfl) ?_
      clear hF hD
      go_simp
      exact hK _ _ (Below.refl _ _) (rt_eqS s21)
    refine obsR_cons ?_ ?_
    · intro T wx K hB hF hD hK
      have g2 : T[2]? = some (.pointer (some ⟨a, 0, none⟩)) := hF 2 (freeM_of (by kernel_rfl))
      refine ob_yes (wanted_none rfl) ?_
      clear hF hD
      go_simp
      exact hK _ _ (Below.refl _ _) (rt_eqS s22)
    refine obsR_cons ?_ ?_
    · intro T wx K hB hF hD hK
      have g22 := get_eqS (hD 10 22 (by simp [Region.binds]) (by kernel_rfl)) s22
      have g21 := get_eqS (hD 9 21 (by simp [Region.binds]) (by kernel_rfl)) s21
      refine ob_yes (wanted_none rfl) ?_
      clear hF hD
      go_simp
      exact hK _ _ (Below.refl _ _) (rt_eqS s23)
    refine obsR_cons ?_ ?_
    · intro T wx K hB hF hD hK
      have g23 := get_eqS (hD 11 23 (by simp [Region.binds]) (by kernel_rfl)) s23
      refine ob_yes (wanted_none rfl) ?_
      clear hF hD
      have c0 := blk_cell (blk_call HA.out hB) 9 _ rfl
      go_simp
      exact hK _ _ (Below.refl _ _) (rt_eqS s24)
    refine obsR_cons ?_ ?_
    · intro T wx K hB hF hD hK
      have g6 : T[6]? = some (.int .i64 0) := hF 6 (freeM_of (by kernel_rfl))
      refine ob_yes (wanted_none rfl) ?_
      clear hF hD
      go_simp
      exact hK _ _ (Below.refl _ _) (rt_eqS s25)
    refine obsR_cons ?_ ?_
    · intro T wx K hB hF hD hK
      have g2 : T[2]? = some (.pointer (some ⟨a, 0, none⟩)) := hF 2 (freeM_of (by kernel_rfl))
      refine ob_yes (wanted_none rfl) ?_
      clear hF hD
      go_simp
      exact hK _ _ (Below.refl _ _) (rt_eqS s26)
    refine obsR_cons ?_ ?_
    · intro T wx K hB hF hD hK
      have g26 := get_eqS (hD 14 26 (by simp [Region.binds]) (by kernel_rfl)) s26
      have g25 := get_eqS (hD 13 25 (by simp [Region.binds]) (by kernel_rfl)) s25
      refine ob_yes (wanted_none rfl) ?_
      clear hF hD
      go_simp
      exact hK _ _ (Below.refl _ _) (rt_eqS s27)
    refine obsR_cons ?_ ?_
    · intro T wx K hB hF hD hK
      have g27 := get_eqS (hD 15 27 (by simp [Region.binds]) (by kernel_rfl)) s27
      refine ob_yes (wanted_none rfl) ?_
      clear hF hD
      have c0 := blk_cell (blk_call HA.out hB) 6 _ rfl
      go_simp
      exact hK _ _ (Below.refl _ _) (rt_eqS s28)
    refine obsR_cons ?_ ?_
    · intro T wx K hB hF hD hK
      have g24 := get_eqS (hD 12 24 (by simp [Region.binds]) (by kernel_rfl)) s24
      have g28 := get_eqS (hD 16 28 (by simp [Region.binds]) (by kernel_rfl)) s28
      refine ob_yes (wanted_none rfl) ?_
      clear hF hD
      go_simp
      rw [wrapi _ (by omega)]
      exact hK _ _ (Below.refl _ _) (rt_eqS s29)
    refine obsR_cons ?_ ?_
    · intro T wx K hB hF hD hK
      have g29 := get_eqS (hD 17 29 (by simp [Region.binds]) (by kernel_rfl)) s29
      refine ob_yes (wanted_none rfl) ?_
      clear hF hD
      go_simp
      rw [wrapi _ (by omega)]
      exact hK _ _ (Below.refl _ _) (rt_eqS s30)
    refine obsR_cons ?_ ?_
    · intro T wx K hB hF hD hK
      have g20 := get_eqS (hD 8 20 (by simp [Region.binds]) (by kernel_rfl)) s20
      have g30 := get_eqS (hD 18 30 (by simp [Region.binds]) (by kernel_rfl)) s30
      refine ob_yes (wanted_none rfl) ?_
      clear hF hD
      go_simp
      exact hK _ _ (Below.refl _ _) (rt_eqS s31)
    refine obsR_cons ?_ ?_
    · intro T wx K hB hF hD hK
      have g16 := get_eqS (hD 4 16 (by simp [Region.binds]) (by kernel_rfl)) s16
      have g31 := get_eqS (hD 19 31 (by simp [Region.binds]) (by kernel_rfl)) s31
      refine ob_yes (wanted_none rfl) ?_
      clear hF hD
      go_simp
      rw [wrapi _ (by omega)]
      exact hK _ _ (Below.refl _ _) (rt_eqS s32)
    refine obsR_cons ?_ ?_
    · intro T wx K hB hF hD hK
      have g5 : T[5]? = some (.pointer (some ⟨j, 0, none⟩)) := hF 5 (freeM_of (by kernel_rfl))
      have g12 := get_eqS (hD 0 12 (by simp [Region.binds]) (by kernel_rfl)) s12
      refine ob_yes (wanted_none rfl) ?_
      clear hF hD
      go_simp
      exact hK _ _ (Below.refl _ _) (rt_eqS s33)
    exact obsR_nil
  · intro T w8 hb hF hs hD
    have g12 := get_eqS (hD 0 12 (by decide) (by kernel_rfl)) s12
    have g13 := get_eqS (hD 1 13 (by decide) (by kernel_rfl)) s13
    have g14 := get_eqS (hD 2 14 (by decide) (by kernel_rfl)) s14
    have g15 := get_eqS (hD 3 15 (by decide) (by kernel_rfl)) s15
    have g16 := get_eqS (hD 4 16 (by decide) (by kernel_rfl)) s16
    have g17 := get_eqS (hD 5 17 (by decide) (by kernel_rfl)) s17
    have g18 := get_eqS (hD 6 18 (by decide) (by kernel_rfl)) s18
    have g19 := get_eqS (hD 7 19 (by decide) (by kernel_rfl)) s19
    have g20 := get_eqS (hD 8 20 (by decide) (by kernel_rfl)) s20
    have g21 := get_eqS (hD 9 21 (by decide) (by kernel_rfl)) s21
    have g22 := get_eqS (hD 10 22 (by decide) (by kernel_rfl)) s22
    have g23 := get_eqS (hD 11 23 (by decide) (by kernel_rfl)) s23
    have g24 := get_eqS (hD 12 24 (by decide) (by kernel_rfl)) s24
    have g25 := get_eqS (hD 13 25 (by decide) (by kernel_rfl)) s25
    have g26 := get_eqS (hD 14 26 (by decide) (by kernel_rfl)) s26
    have g27 := get_eqS (hD 15 27 (by decide) (by kernel_rfl)) s27
    have g28 := get_eqS (hD 16 28 (by decide) (by kernel_rfl)) s28
    have g29 := get_eqS (hD 17 29 (by decide) (by kernel_rfl)) s29
    have g30 := get_eqS (hD 18 30 (by decide) (by kernel_rfl)) s30
    have g31 := get_eqS (hD 19 31 (by decide) (by kernel_rfl)) s31
    have g32 := get_eqS (hD 20 32 (by decide) (by kernel_rfl)) s32
    have g33 := get_eqS (hD 21 33 (by decide) (by kernel_rfl)) s33
    have hT := conc [(12, .int .i64 0), (13, .int .i64 0), (14, .pointer (some ⟨a, 6, none⟩)), (15, .pointer (some ⟨a, 6, none⟩)), (16, .int .i64 l0), (17, .int .i64 0), (18, .pointer (some ⟨r, 0, none⟩)), (19, .int .u8 r0), (20, .int .i64 r0), (21, .int .i64 0), (22, .pointer (some ⟨a, 9, none⟩)), (23, .pointer (some ⟨a, 9, none⟩)), (24, .int .i64 h0), (25, .int .i64 0), (26, .pointer (some ⟨a, 6, none⟩)), (27, .pointer (some ⟨a, 6, none⟩)), (28, .int .i64 l0), (29, .int .i64 (h0 - l0)), (30, .int .i64 (h0 - l0 + 1)), (31, .int .i64 (r0.tmod (h0 - l0 + 1))), (32, .int .i64 (l0 + r0.tmod (h0 - l0 + 1))), (33, .pointer (some ⟨j, 0, none⟩))] hs hF (by simp only [List.forall_mem_cons]; exact ⟨g12, g13, g14, g15, g16, g17, g18, g19, g20, g21, g22, g23, g24, g25, g26, g27, g28, g29, g30, g31, g32, g33, fun p hp => absurd hp List.not_mem_nil⟩) (by kernel_rfl)
    simp only [List.foldl, List.setIfInBounds_toArray, List.set_cons_succ, List.set_cons_zero] at hT
    subst hT
    clear hF hD hs g12 g13 g14 g15 g16 g17 g18 g19 g20 g21 g22 g23 g24 g25 g26 g27 g28 g29 g30 g31 g32 g33 s12 s13 s14 s15 s16 s17 s18 s19 s20 s21 s22 s23 s24 s25 s26 s27 s28 s29 s30 s31 s32 s33
    show wpOpsIn _ _ _ _ _ [22] _ _
    have f0 := blk_cell (blk_call HJ.out hb) 0 _ rfl
    have f1 := blk_fz (blk_call HJ.out hb) 0
    have J1 : Hid ((w8.setCell ⟨j, 0, none⟩ (.int .i64 (jq l0 h0 r0))).heap[j]? = some (.cells #[.int .i64 (jq l0 h0 r0), .int .i64 0, .int .i64 0] 25 (0, 0))) := Lib.hid (blk_set (blk_call HJ.out hb) _)
    have S1 := Lib.hid (blk_other (j := 0) (blk_call HS.out hb) NE.out.2.2.2 (.int .i64 (jq l0 h0 r0)))
    have R1 := Lib.hid (blk_other (j := 0) (blk_call HR.out hb) NE.out.2.2.1 (.int .i64 (jq l0 h0 r0)))
    have A1 := Lib.hid (blk_other (j := 0) (blk_call HA.out hb) NE.out.2.1 (.int .i64 (jq l0 h0 r0)))
    have B1 := Lib.hid (belS (p := ⟨j, 0, none⟩) (belT B.out hb) NE.out.1.1 (.int .i64 (jq l0 h0 r0)))
    clear hb HJ HS HR HA B
    simp only [wpOpsIn]
    go_simp
    clear f0 f1
    change Hid ((w8.setCell ⟨j, 0, none⟩ (.int .i64 (l0 + r0.tmod (h0 - l0 + 1)))).heap[j]? = _) at J1
    change Hid ((w8.setCell ⟨j, 0, none⟩ (.int .i64 (l0 + r0.tmod (h0 - l0 + 1)))).heap[s]? = _) at S1
    change Hid ((w8.setCell ⟨j, 0, none⟩ (.int .i64 (l0 + r0.tmod (h0 - l0 + 1)))).heap[r]? = _) at R1
    change Hid ((w8.setCell ⟨j, 0, none⟩ (.int .i64 (l0 + r0.tmod (h0 - l0 + 1)))).heap[a]? = _) at A1
    change Hid (Below w.heap.size w (w8.setCell ⟨j, 0, none⟩ (.int .i64 (l0 + r0.tmod (h0 - l0 + 1))))) at B1
    generalize (w8.setCell ⟨j, 0, none⟩ (.int .i64 (l0 + r0.tmod (h0 - l0 + 1)))) = W1 at *
    have HJ := J1
    have HS := S1
    have HR := R1
    have HA := A1
    have B := B1
    clear J1 S1 R1 A1 B1
    go_wp2_with fail
    rw [rounds_succ]
    go_wp2_with fail
    obtain ⟨sp, hsp⟩ : ∃ sp : ToldS, sp = [none, none, none, none, none, none, none, none, none, none, none, none, some (eqS (.int .i64 1)), some (eqS (.int .i64 1)), some (eqS (.pointer (some ⟨a, 6, none⟩))), some (eqS (.pointer (some ⟨a, 7, none⟩))), some (eqS (.int .i64 l1)), some (eqS (.int .i64 1)), some (eqS (.pointer (some ⟨r, 1, none⟩))), some (eqS (.int .u8 r1)), some (eqS (.int .i64 r1)), some (eqS (.int .i64 1)), some (eqS (.pointer (some ⟨a, 9, none⟩))), some (eqS (.pointer (some ⟨a, 10, none⟩))), some (eqS (.int .i64 h1)), some (eqS (.int .i64 1)), some (eqS (.pointer (some ⟨a, 6, none⟩))), some (eqS (.pointer (some ⟨a, 7, none⟩))), some (eqS (.int .i64 l1)), some (eqS (.int .i64 (h1 - l1))), some (eqS (.int .i64 (h1 - l1 + 1))), some (eqS (.int .i64 (r1.tmod (h1 - l1 + 1)))), some (eqS (.int .i64 (l1 + r1.tmod (h1 - l1 + 1)))), some (eqS (.pointer (some ⟨j, 1, none⟩)))] := ⟨_, rfl⟩
    have s12 : sp.getD 12 none = some (eqS (.int .i64 1)) := by rw [hsp]; rfl
    have s13 : sp.getD 13 none = some (eqS (.int .i64 1)) := by rw [hsp]; rfl
    have s14 : sp.getD 14 none = some (eqS (.pointer (some ⟨a, 6, none⟩))) := by rw [hsp]; rfl
    have s15 : sp.getD 15 none = some (eqS (.pointer (some ⟨a, 7, none⟩))) := by rw [hsp]; rfl
    have s16 : sp.getD 16 none = some (eqS (.int .i64 l1)) := by rw [hsp]; rfl
    have s17 : sp.getD 17 none = some (eqS (.int .i64 1)) := by rw [hsp]; rfl
    have s18 : sp.getD 18 none = some (eqS (.pointer (some ⟨r, 1, none⟩))) := by rw [hsp]; rfl
    have s19 : sp.getD 19 none = some (eqS (.int .u8 r1)) := by rw [hsp]; rfl
    have s20 : sp.getD 20 none = some (eqS (.int .i64 r1)) := by rw [hsp]; rfl
    have s21 : sp.getD 21 none = some (eqS (.int .i64 1)) := by rw [hsp]; rfl
    have s22 : sp.getD 22 none = some (eqS (.pointer (some ⟨a, 9, none⟩))) := by rw [hsp]; rfl
    have s23 : sp.getD 23 none = some (eqS (.pointer (some ⟨a, 10, none⟩))) := by rw [hsp]; rfl
    have s24 : sp.getD 24 none = some (eqS (.int .i64 h1)) := by rw [hsp]; rfl
    have s25 : sp.getD 25 none = some (eqS (.int .i64 1)) := by rw [hsp]; rfl
    have s26 : sp.getD 26 none = some (eqS (.pointer (some ⟨a, 6, none⟩))) := by rw [hsp]; rfl
    have s27 : sp.getD 27 none = some (eqS (.pointer (some ⟨a, 7, none⟩))) := by rw [hsp]; rfl
    have s28 : sp.getD 28 none = some (eqS (.int .i64 l1)) := by rw [hsp]; rfl
    have s29 : sp.getD 29 none = some (eqS (.int .i64 (h1 - l1))) := by rw [hsp]; rfl
    have s30 : sp.getD 30 none = some (eqS (.int .i64 (h1 - l1 + 1))) := by rw [hsp]; rfl
    have s31 : sp.getD 31 none = some (eqS (.int .i64 (r1.tmod (h1 - l1 + 1)))) := by rw [hsp]; rfl
    have s32 : sp.getD 32 none = some (eqS (.int .i64 (l1 + r1.tmod (h1 - l1 + 1)))) := by rw [hsp]; rfl
    have s33 : sp.getD 33 none = some (eqS (.pointer (some ⟨j, 1, none⟩))) := by rw [hsp]; rfl
    clear hsp
    refine (wpIn_wide (n := 0)).1 (region_headR (RtS sp) (rtS_keep sp) 22 rfl rfl rfl (by kernel_rfl) (by decide) (by kernel_rfl) (by kernel_rfl) (by kernel_rfl) ?_ ?_)
    · intro Q'; show ObsR _ _ _ _ _ _ _ _ (List.take _ _); simp only [List.take_succ_cons, List.take_zero]
      refine obsR_cons ?_ ?_
      · intro T wx K hB hF hD hK
        have g6 : T[6]? = some (.int .i64 1) := hF 6 (freeM_of (by kernel_rfl))
        refine ob_yes (wanted_none rfl) ?_
        clear hF hD
        go_simp
        exact hK _ _ (Below.refl _ _) (rt_eqS s12)
      refine obsR_cons ?_ ?_
      · intro T wx K hB hF hD hK
        have g6 : T[6]? = some (.int .i64 1) := hF 6 (freeM_of (by kernel_rfl))
        refine ob_yes (wanted_none rfl) ?_
        clear hF hD
        go_simp
        exact hK _ _ (Below.refl _ _) (rt_eqS s13)
      refine obsR_cons ?_ ?_
      · intro T wx K hB hF hD hK
        have g2 : T[2]? = some (.pointer (some ⟨a, 0, none⟩)) := hF 2 (freeM_of (by kernel_rfl))
        refine ob_yes (wanted_none rfl) ?_
        clear hF hD
        go_simp
        exact hK _ _ (Below.refl _ _) (rt_eqS s14)
      refine obsR_cons ?_ ?_
      · intro T wx K hB hF hD hK
        have g14 := get_eqS (hD 2 14 (by simp [Region.binds]) (by kernel_rfl)) s14
        have g13 := get_eqS (hD 1 13 (by simp [Region.binds]) (by kernel_rfl)) s13
        refine ob_yes (wanted_none rfl) ?_
        clear hF hD
        go_simp
        exact hK _ _ (Below.refl _ _) (rt_eqS s15)
      refine obsR_cons ?_ ?_
      · intro T wx K hB hF hD hK
        have g15 := get_eqS (hD 3 15 (by simp [Region.binds]) (by kernel_rfl)) s15
        refine ob_yes (wanted_none rfl) ?_
        clear hF hD
        have c0 := blk_cell (blk_call HA.out hB) 7 _ rfl
        go_simp
        exact hK _ _ (Below.refl _ _) (rt_eqS s16)
      refine obsR_cons ?_ ?_
      · intro T wx K hB hF hD hK
        have g6 : T[6]? = some (.int .i64 1) := hF 6 (freeM_of (by kernel_rfl))
        refine ob_yes (wanted_none rfl) ?_
        clear hF hD
        go_simp
        exact hK _ _ (Below.refl _ _) (rt_eqS s17)
      refine obsR_cons ?_ ?_
      · intro T wx K hB hF hD hK
        have g3 : T[3]? = some (.pointer (some ⟨r, 0, none⟩)) := hF 3 (freeM_of (by kernel_rfl))
        have g17 := get_eqS (hD 5 17 (by simp [Region.binds]) (by kernel_rfl)) s17
        refine ob_yes (wanted_none rfl) ?_
        clear hF hD
        go_simp
        exact hK _ _ (Below.refl _ _) (rt_eqS s18)
      refine obsR_cons ?_ ?_
      · intro T wx K hB hF hD hK
        have g18 := get_eqS (hD 6 18 (by simp [Region.binds]) (by kernel_rfl)) s18
        refine ob_yes (wanted_none rfl) ?_
        clear hF hD
        have c0 := blk_cell (blk_call HR.out hB) 1 _ rfl
        go_simp
        exact hK _ _ (Below.refl _ _) (rt_eqS s19)
      refine obsR_cons ?_ ?_
      · intro T wx K hB hF hD hK
        have g19 := get_eqS (hD 7 19 (by simp [Region.binds]) (by kernel_rfl)) s19
        refine ob_yes (wanted_none rfl) ?_
        clear hF hD
        go_simp
        rw [wrapi _ (by omega)]
        exact hK _ _ (Below.refl _ _) (rt_eqS s20)
      refine obsR_cons ?_ ?_
      · intro T wx K hB hF hD hK
        have g6 : T[6]? = some (.int .i64 1) := hF 6 (freeM_of (by kernel_rfl))
        refine ob_yes (wanted_none rfl) ?_
        clear hF hD
        go_simp
        exact hK _ _ (Below.refl _ _) (rt_eqS s21)
      refine obsR_cons ?_ ?_
      · intro T wx K hB hF hD hK
        have g2 : T[2]? = some (.pointer (some ⟨a, 0, none⟩)) := hF 2 (freeM_of (by kernel_rfl))
        refine ob_yes (wanted_none rfl) ?_
        clear hF hD
        go_simp
        exact hK _ _ (Below.refl _ _) (rt_eqS s22)
      refine obsR_cons ?_ ?_
      · intro T wx K hB hF hD hK
        have g22 := get_eqS (hD 10 22 (by simp [Region.binds]) (by kernel_rfl)) s22
        have g21 := get_eqS (hD 9 21 (by simp [Region.binds]) (by kernel_rfl)) s21
        refine ob_yes (wanted_none rfl) ?_
        clear hF hD
        go_simp
        exact hK _ _ (Below.refl _ _) (rt_eqS s23)
      refine obsR_cons ?_ ?_
      · intro T wx K hB hF hD hK
        have g23 := get_eqS (hD 11 23 (by simp [Region.binds]) (by kernel_rfl)) s23
        refine ob_yes (wanted_none rfl) ?_
        clear hF hD
        have c0 := blk_cell (blk_call HA.out hB) 10 _ rfl
        go_simp
        exact hK _ _ (Below.refl _ _) (rt_eqS s24)
      refine obsR_cons ?_ ?_
      · intro T wx K hB hF hD hK
        have g6 : T[6]? = some (.int .i64 1) := hF 6 (freeM_of (by kernel_rfl))
        refine ob_yes (wanted_none rfl) ?_
        clear hF hD
        go_simp
        exact hK _ _ (Below.refl _ _) (rt_eqS s25)
      refine obsR_cons ?_ ?_
      · intro T wx K hB hF hD hK
        have g2 : T[2]? = some (.pointer (some ⟨a, 0, none⟩)) := hF 2 (freeM_of (by kernel_rfl))
        refine ob_yes (wanted_none rfl) ?_
        clear hF hD
        go_simp
        exact hK _ _ (Below.refl _ _) (rt_eqS s26)
      refine obsR_cons ?_ ?_
      · intro T wx K hB hF hD hK
        have g26 := get_eqS (hD 14 26 (by simp [Region.binds]) (by kernel_rfl)) s26
        have g25 := get_eqS (hD 13 25 (by simp [Region.binds]) (by kernel_rfl)) s25
        refine ob_yes (wanted_none rfl) ?_
        clear hF hD
        go_simp
        exact hK _ _ (Below.refl _ _) (rt_eqS s27)
      refine obsR_cons ?_ ?_
      · intro T wx K hB hF hD hK
        have g27 := get_eqS (hD 15 27 (by simp [Region.binds]) (by kernel_rfl)) s27
        refine ob_yes (wanted_none rfl) ?_
        clear hF hD
        have c0 := blk_cell (blk_call HA.out hB) 7 _ rfl
        go_simp
        exact hK _ _ (Below.refl _ _) (rt_eqS s28)
      refine obsR_cons ?_ ?_
      · intro T wx K hB hF hD hK
        have g24 := get_eqS (hD 12 24 (by simp [Region.binds]) (by kernel_rfl)) s24
        have g28 := get_eqS (hD 16 28 (by simp [Region.binds]) (by kernel_rfl)) s28
        refine ob_yes (wanted_none rfl) ?_
        clear hF hD
        go_simp
        rw [wrapi _ (by omega)]
        exact hK _ _ (Below.refl _ _) (rt_eqS s29)
      refine obsR_cons ?_ ?_
      · intro T wx K hB hF hD hK
        have g29 := get_eqS (hD 17 29 (by simp [Region.binds]) (by kernel_rfl)) s29
        refine ob_yes (wanted_none rfl) ?_
        clear hF hD
        go_simp
        rw [wrapi _ (by omega)]
        exact hK _ _ (Below.refl _ _) (rt_eqS s30)
      refine obsR_cons ?_ ?_
      · intro T wx K hB hF hD hK
        have g20 := get_eqS (hD 8 20 (by simp [Region.binds]) (by kernel_rfl)) s20
        have g30 := get_eqS (hD 18 30 (by simp [Region.binds]) (by kernel_rfl)) s30
        refine ob_yes (wanted_none rfl) ?_
        clear hF hD
        go_simp
        exact hK _ _ (Below.refl _ _) (rt_eqS s31)
      refine obsR_cons ?_ ?_
      · intro T wx K hB hF hD hK
        have g16 := get_eqS (hD 4 16 (by simp [Region.binds]) (by kernel_rfl)) s16
        have g31 := get_eqS (hD 19 31 (by simp [Region.binds]) (by kernel_rfl)) s31
        refine ob_yes (wanted_none rfl) ?_
        clear hF hD
        go_simp
        rw [wrapi _ (by omega)]
        exact hK _ _ (Below.refl _ _) (rt_eqS s32)
      refine obsR_cons ?_ ?_
      · intro T wx K hB hF hD hK
        have g5 : T[5]? = some (.pointer (some ⟨j, 0, none⟩)) := hF 5 (freeM_of (by kernel_rfl))
        have g12 := get_eqS (hD 0 12 (by simp [Region.binds]) (by kernel_rfl)) s12
        refine ob_yes (wanted_none rfl) ?_
        clear hF hD
        go_simp
        exact hK _ _ (Below.refl _ _) (rt_eqS s33)
      exact obsR_nil
    · intro T w8 hb hF hs hD
      have g12 := get_eqS (hD 0 12 (by decide) (by kernel_rfl)) s12
      have g13 := get_eqS (hD 1 13 (by decide) (by kernel_rfl)) s13
      have g14 := get_eqS (hD 2 14 (by decide) (by kernel_rfl)) s14
      have g15 := get_eqS (hD 3 15 (by decide) (by kernel_rfl)) s15
      have g16 := get_eqS (hD 4 16 (by decide) (by kernel_rfl)) s16
      have g17 := get_eqS (hD 5 17 (by decide) (by kernel_rfl)) s17
      have g18 := get_eqS (hD 6 18 (by decide) (by kernel_rfl)) s18
      have g19 := get_eqS (hD 7 19 (by decide) (by kernel_rfl)) s19
      have g20 := get_eqS (hD 8 20 (by decide) (by kernel_rfl)) s20
      have g21 := get_eqS (hD 9 21 (by decide) (by kernel_rfl)) s21
      have g22 := get_eqS (hD 10 22 (by decide) (by kernel_rfl)) s22
      have g23 := get_eqS (hD 11 23 (by decide) (by kernel_rfl)) s23
      have g24 := get_eqS (hD 12 24 (by decide) (by kernel_rfl)) s24
      have g25 := get_eqS (hD 13 25 (by decide) (by kernel_rfl)) s25
      have g26 := get_eqS (hD 14 26 (by decide) (by kernel_rfl)) s26
      have g27 := get_eqS (hD 15 27 (by decide) (by kernel_rfl)) s27
      have g28 := get_eqS (hD 16 28 (by decide) (by kernel_rfl)) s28
      have g29 := get_eqS (hD 17 29 (by decide) (by kernel_rfl)) s29
      have g30 := get_eqS (hD 18 30 (by decide) (by kernel_rfl)) s30
      have g31 := get_eqS (hD 19 31 (by decide) (by kernel_rfl)) s31
      have g32 := get_eqS (hD 20 32 (by decide) (by kernel_rfl)) s32
      have g33 := get_eqS (hD 21 33 (by decide) (by kernel_rfl)) s33
      have hT := conc [(12, .int .i64 1), (13, .int .i64 1), (14, .pointer (some ⟨a, 6, none⟩)), (15, .pointer (some ⟨a, 7, none⟩)), (16, .int .i64 l1), (17, .int .i64 1), (18, .pointer (some ⟨r, 1, none⟩)), (19, .int .u8 r1), (20, .int .i64 r1), (21, .int .i64 1), (22, .pointer (some ⟨a, 9, none⟩)), (23, .pointer (some ⟨a, 10, none⟩)), (24, .int .i64 h1), (25, .int .i64 1), (26, .pointer (some ⟨a, 6, none⟩)), (27, .pointer (some ⟨a, 7, none⟩)), (28, .int .i64 l1), (29, .int .i64 (h1 - l1)), (30, .int .i64 (h1 - l1 + 1)), (31, .int .i64 (r1.tmod (h1 - l1 + 1))), (32, .int .i64 (l1 + r1.tmod (h1 - l1 + 1))), (33, .pointer (some ⟨j, 1, none⟩))] hs hF (by simp only [List.forall_mem_cons]; exact ⟨g12, g13, g14, g15, g16, g17, g18, g19, g20, g21, g22, g23, g24, g25, g26, g27, g28, g29, g30, g31, g32, g33, fun p hp => absurd hp List.not_mem_nil⟩) (by kernel_rfl)
      simp only [List.foldl, List.setIfInBounds_toArray, List.set_cons_succ, List.set_cons_zero] at hT
      subst hT
      clear hF hD hs g12 g13 g14 g15 g16 g17 g18 g19 g20 g21 g22 g23 g24 g25 g26 g27 g28 g29 g30 g31 g32 g33 s12 s13 s14 s15 s16 s17 s18 s19 s20 s21 s22 s23 s24 s25 s26 s27 s28 s29 s30 s31 s32 s33
      show wpOpsIn _ _ _ _ _ [22] _ _
      have f0 := blk_cell (blk_call HJ.out hb) 1 _ rfl
      have f1 := blk_fz (blk_call HJ.out hb) 1
      have J1 : Hid ((w8.setCell ⟨j, 1, none⟩ (.int .i64 (jq l1 h1 r1))).heap[j]? = some (.cells #[.int .i64 (jq l0 h0 r0), .int .i64 (jq l1 h1 r1), .int .i64 0] 25 (0, 0))) := Lib.hid (blk_set (blk_call HJ.out hb) _)
      have S1 := Lib.hid (blk_other (j := 1) (blk_call HS.out hb) NE.out.2.2.2 (.int .i64 (jq l1 h1 r1)))
      have R1 := Lib.hid (blk_other (j := 1) (blk_call HR.out hb) NE.out.2.2.1 (.int .i64 (jq l1 h1 r1)))
      have A1 := Lib.hid (blk_other (j := 1) (blk_call HA.out hb) NE.out.2.1 (.int .i64 (jq l1 h1 r1)))
      have B1 := Lib.hid (belS (p := ⟨j, 1, none⟩) (belT B.out hb) NE.out.1.1 (.int .i64 (jq l1 h1 r1)))
      clear hb HJ HS HR HA B
      simp only [wpOpsIn]
      go_simp
      clear f0 f1
      change Hid ((w8.setCell ⟨j, 1, none⟩ (.int .i64 (l1 + r1.tmod (h1 - l1 + 1)))).heap[j]? = _) at J1
      change Hid ((w8.setCell ⟨j, 1, none⟩ (.int .i64 (l1 + r1.tmod (h1 - l1 + 1)))).heap[s]? = _) at S1
      change Hid ((w8.setCell ⟨j, 1, none⟩ (.int .i64 (l1 + r1.tmod (h1 - l1 + 1)))).heap[r]? = _) at R1
      change Hid ((w8.setCell ⟨j, 1, none⟩ (.int .i64 (l1 + r1.tmod (h1 - l1 + 1)))).heap[a]? = _) at A1
      change Hid (Below w.heap.size w (w8.setCell ⟨j, 1, none⟩ (.int .i64 (l1 + r1.tmod (h1 - l1 + 1))))) at B1
      generalize (w8.setCell ⟨j, 1, none⟩ (.int .i64 (l1 + r1.tmod (h1 - l1 + 1)))) = W2 at *
      have HJ := J1
      have HS := S1
      have HR := R1
      have HA := A1
      have B := B1
      clear J1 S1 R1 A1 B1
      go_wp2_with fail
      rw [rounds_succ]
      go_wp2_with fail
      obtain ⟨sp, hsp⟩ : ∃ sp : ToldS, sp = [none, none, none, none, none, none, none, none, none, none, none, none, some (eqS (.int .i64 2)), some (eqS (.int .i64 2)), some (eqS (.pointer (some ⟨a, 6, none⟩))), some (eqS (.pointer (some ⟨a, 8, none⟩))), some (eqS (.int .i64 l2)), some (eqS (.int .i64 2)), some (eqS (.pointer (some ⟨r, 2, none⟩))), some (eqS (.int .u8 r2)), some (eqS (.int .i64 r2)), some (eqS (.int .i64 2)), some (eqS (.pointer (some ⟨a, 9, none⟩))), some (eqS (.pointer (some ⟨a, 11, none⟩))), some (eqS (.int .i64 h2)), some (eqS (.int .i64 2)), some (eqS (.pointer (some ⟨a, 6, none⟩))), some (eqS (.pointer (some ⟨a, 8, none⟩))), some (eqS (.int .i64 l2)), some (eqS (.int .i64 (h2 - l2))), some (eqS (.int .i64 (h2 - l2 + 1))), some (eqS (.int .i64 (r2.tmod (h2 - l2 + 1)))), some (eqS (.int .i64 (l2 + r2.tmod (h2 - l2 + 1)))), some (eqS (.pointer (some ⟨j, 2, none⟩)))] := ⟨_, rfl⟩
      have s12 : sp.getD 12 none = some (eqS (.int .i64 2)) := by rw [hsp]; rfl
      have s13 : sp.getD 13 none = some (eqS (.int .i64 2)) := by rw [hsp]; rfl
      have s14 : sp.getD 14 none = some (eqS (.pointer (some ⟨a, 6, none⟩))) := by rw [hsp]; rfl
      have s15 : sp.getD 15 none = some (eqS (.pointer (some ⟨a, 8, none⟩))) := by rw [hsp]; rfl
      have s16 : sp.getD 16 none = some (eqS (.int .i64 l2)) := by rw [hsp]; rfl
      have s17 : sp.getD 17 none = some (eqS (.int .i64 2)) := by rw [hsp]; rfl
      have s18 : sp.getD 18 none = some (eqS (.pointer (some ⟨r, 2, none⟩))) := by rw [hsp]; rfl
      have s19 : sp.getD 19 none = some (eqS (.int .u8 r2)) := by rw [hsp]; rfl
      have s20 : sp.getD 20 none = some (eqS (.int .i64 r2)) := by rw [hsp]; rfl
      have s21 : sp.getD 21 none = some (eqS (.int .i64 2)) := by rw [hsp]; rfl
      have s22 : sp.getD 22 none = some (eqS (.pointer (some ⟨a, 9, none⟩))) := by rw [hsp]; rfl
      have s23 : sp.getD 23 none = some (eqS (.pointer (some ⟨a, 11, none⟩))) := by rw [hsp]; rfl
      have s24 : sp.getD 24 none = some (eqS (.int .i64 h2)) := by rw [hsp]; rfl
      have s25 : sp.getD 25 none = some (eqS (.int .i64 2)) := by rw [hsp]; rfl
      have s26 : sp.getD 26 none = some (eqS (.pointer (some ⟨a, 6, none⟩))) := by rw [hsp]; rfl
      have s27 : sp.getD 27 none = some (eqS (.pointer (some ⟨a, 8, none⟩))) := by rw [hsp]; rfl
      have s28 : sp.getD 28 none = some (eqS (.int .i64 l2)) := by rw [hsp]; rfl
      have s29 : sp.getD 29 none = some (eqS (.int .i64 (h2 - l2))) := by rw [hsp]; rfl
      have s30 : sp.getD 30 none = some (eqS (.int .i64 (h2 - l2 + 1))) := by rw [hsp]; rfl
      have s31 : sp.getD 31 none = some (eqS (.int .i64 (r2.tmod (h2 - l2 + 1)))) := by rw [hsp]; rfl
      have s32 : sp.getD 32 none = some (eqS (.int .i64 (l2 + r2.tmod (h2 - l2 + 1)))) := by rw [hsp]; rfl
      have s33 : sp.getD 33 none = some (eqS (.pointer (some ⟨j, 2, none⟩))) := by rw [hsp]; rfl
      clear hsp
      refine (wpIn_wide (n := 0)).1 (region_headR (RtS sp) (rtS_keep sp) 22 rfl rfl rfl (by kernel_rfl) (by decide) (by kernel_rfl) (by kernel_rfl) (by kernel_rfl) ?_ ?_)
      · intro Q'; show ObsR _ _ _ _ _ _ _ _ (List.take _ _); simp only [List.take_succ_cons, List.take_zero]
        refine obsR_cons ?_ ?_
        · intro T wx K hB hF hD hK
          have g6 : T[6]? = some (.int .i64 2) := hF 6 (freeM_of (by kernel_rfl))
          refine ob_yes (wanted_none rfl) ?_
          clear hF hD
          go_simp
          exact hK _ _ (Below.refl _ _) (rt_eqS s12)
        refine obsR_cons ?_ ?_
        · intro T wx K hB hF hD hK
          have g6 : T[6]? = some (.int .i64 2) := hF 6 (freeM_of (by kernel_rfl))
          refine ob_yes (wanted_none rfl) ?_
          clear hF hD
          go_simp
          exact hK _ _ (Below.refl _ _) (rt_eqS s13)
        refine obsR_cons ?_ ?_
        · intro T wx K hB hF hD hK
          have g2 : T[2]? = some (.pointer (some ⟨a, 0, none⟩)) := hF 2 (freeM_of (by kernel_rfl))
          refine ob_yes (wanted_none rfl) ?_
          clear hF hD
          go_simp
          exact hK _ _ (Below.refl _ _) (rt_eqS s14)
        refine obsR_cons ?_ ?_
        · intro T wx K hB hF hD hK
          have g14 := get_eqS (hD 2 14 (by simp [Region.binds]) (by kernel_rfl)) s14
          have g13 := get_eqS (hD 1 13 (by simp [Region.binds]) (by kernel_rfl)) s13
          refine ob_yes (wanted_none rfl) ?_
          clear hF hD
          go_simp
          exact hK _ _ (Below.refl _ _) (rt_eqS s15)
        refine obsR_cons ?_ ?_
        · intro T wx K hB hF hD hK
          have g15 := get_eqS (hD 3 15 (by simp [Region.binds]) (by kernel_rfl)) s15
          refine ob_yes (wanted_none rfl) ?_
          clear hF hD
          have c0 := blk_cell (blk_call HA.out hB) 8 _ rfl
          go_simp
          exact hK _ _ (Below.refl _ _) (rt_eqS s16)
        refine obsR_cons ?_ ?_
        · intro T wx K hB hF hD hK
          have g6 : T[6]? = some (.int .i64 2) := hF 6 (freeM_of (by kernel_rfl))
          refine ob_yes (wanted_none rfl) ?_
          clear hF hD
          go_simp
          exact hK _ _ (Below.refl _ _) (rt_eqS s17)
        refine obsR_cons ?_ ?_
        · intro T wx K hB hF hD hK
          have g3 : T[3]? = some (.pointer (some ⟨r, 0, none⟩)) := hF 3 (freeM_of (by kernel_rfl))
          have g17 := get_eqS (hD 5 17 (by simp [Region.binds]) (by kernel_rfl)) s17
          refine ob_yes (wanted_none rfl) ?_
          clear hF hD
          go_simp
          exact hK _ _ (Below.refl _ _) (rt_eqS s18)
        refine obsR_cons ?_ ?_
        · intro T wx K hB hF hD hK
          have g18 := get_eqS (hD 6 18 (by simp [Region.binds]) (by kernel_rfl)) s18
          refine ob_yes (wanted_none rfl) ?_
          clear hF hD
          have c0 := blk_cell (blk_call HR.out hB) 2 _ rfl
          go_simp
          exact hK _ _ (Below.refl _ _) (rt_eqS s19)
        refine obsR_cons ?_ ?_
        · intro T wx K hB hF hD hK
          have g19 := get_eqS (hD 7 19 (by simp [Region.binds]) (by kernel_rfl)) s19
          refine ob_yes (wanted_none rfl) ?_
          clear hF hD
          go_simp
          rw [wrapi _ (by omega)]
          exact hK _ _ (Below.refl _ _) (rt_eqS s20)
        refine obsR_cons ?_ ?_
        · intro T wx K hB hF hD hK
          have g6 : T[6]? = some (.int .i64 2) := hF 6 (freeM_of (by kernel_rfl))
          refine ob_yes (wanted_none rfl) ?_
          clear hF hD
          go_simp
          exact hK _ _ (Below.refl _ _) (rt_eqS s21)
        refine obsR_cons ?_ ?_
        · intro T wx K hB hF hD hK
          have g2 : T[2]? = some (.pointer (some ⟨a, 0, none⟩)) := hF 2 (freeM_of (by kernel_rfl))
          refine ob_yes (wanted_none rfl) ?_
          clear hF hD
          go_simp
          exact hK _ _ (Below.refl _ _) (rt_eqS s22)
        refine obsR_cons ?_ ?_
        · intro T wx K hB hF hD hK
          have g22 := get_eqS (hD 10 22 (by simp [Region.binds]) (by kernel_rfl)) s22
          have g21 := get_eqS (hD 9 21 (by simp [Region.binds]) (by kernel_rfl)) s21
          refine ob_yes (wanted_none rfl) ?_
          clear hF hD
          go_simp
          exact hK _ _ (Below.refl _ _) (rt_eqS s23)
        refine obsR_cons ?_ ?_
        · intro T wx K hB hF hD hK
          have g23 := get_eqS (hD 11 23 (by simp [Region.binds]) (by kernel_rfl)) s23
          refine ob_yes (wanted_none rfl) ?_
          clear hF hD
          have c0 := blk_cell (blk_call HA.out hB) 11 _ rfl
          go_simp
          exact hK _ _ (Below.refl _ _) (rt_eqS s24)
        refine obsR_cons ?_ ?_
        · intro T wx K hB hF hD hK
          have g6 : T[6]? = some (.int .i64 2) := hF 6 (freeM_of (by kernel_rfl))
          refine ob_yes (wanted_none rfl) ?_
          clear hF hD
          go_simp
          exact hK _ _ (Below.refl _ _) (rt_eqS s25)
        refine obsR_cons ?_ ?_
        · intro T wx K hB hF hD hK
          have g2 : T[2]? = some (.pointer (some ⟨a, 0, none⟩)) := hF 2 (freeM_of (by kernel_rfl))
          refine ob_yes (wanted_none rfl) ?_
          clear hF hD
          go_simp
          exact hK _ _ (Below.refl _ _) (rt_eqS s26)
        refine obsR_cons ?_ ?_
        · intro T wx K hB hF hD hK
          have g26 := get_eqS (hD 14 26 (by simp [Region.binds]) (by kernel_rfl)) s26
          have g25 := get_eqS (hD 13 25 (by simp [Region.binds]) (by kernel_rfl)) s25
          refine ob_yes (wanted_none rfl) ?_
          clear hF hD
          go_simp
          exact hK _ _ (Below.refl _ _) (rt_eqS s27)
        refine obsR_cons ?_ ?_
        · intro T wx K hB hF hD hK
          have g27 := get_eqS (hD 15 27 (by simp [Region.binds]) (by kernel_rfl)) s27
          refine ob_yes (wanted_none rfl) ?_
          clear hF hD
          have c0 := blk_cell (blk_call HA.out hB) 8 _ rfl
          go_simp
          exact hK _ _ (Below.refl _ _) (rt_eqS s28)
        refine obsR_cons ?_ ?_
        · intro T wx K hB hF hD hK
          have g24 := get_eqS (hD 12 24 (by simp [Region.binds]) (by kernel_rfl)) s24
          have g28 := get_eqS (hD 16 28 (by simp [Region.binds]) (by kernel_rfl)) s28
          refine ob_yes (wanted_none rfl) ?_
          clear hF hD
          go_simp
          rw [wrapi _ (by omega)]
          exact hK _ _ (Below.refl _ _) (rt_eqS s29)
        refine obsR_cons ?_ ?_
        · intro T wx K hB hF hD hK
          have g29 := get_eqS (hD 17 29 (by simp [Region.binds]) (by kernel_rfl)) s29
          refine ob_yes (wanted_none rfl) ?_
          clear hF hD
          go_simp
          rw [wrapi _ (by omega)]
          exact hK _ _ (Below.refl _ _) (rt_eqS s30)
        refine obsR_cons ?_ ?_
        · intro T wx K hB hF hD hK
          have g20 := get_eqS (hD 8 20 (by simp [Region.binds]) (by kernel_rfl)) s20
          have g30 := get_eqS (hD 18 30 (by simp [Region.binds]) (by kernel_rfl)) s30
          refine ob_yes (wanted_none rfl) ?_
          clear hF hD
          go_simp
          exact hK _ _ (Below.refl _ _) (rt_eqS s31)
        refine obsR_cons ?_ ?_
        · intro T wx K hB hF hD hK
          have g16 := get_eqS (hD 4 16 (by simp [Region.binds]) (by kernel_rfl)) s16
          have g31 := get_eqS (hD 19 31 (by simp [Region.binds]) (by kernel_rfl)) s31
          refine ob_yes (wanted_none rfl) ?_
          clear hF hD
          go_simp
          rw [wrapi _ (by omega)]
          exact hK _ _ (Below.refl _ _) (rt_eqS s32)
        refine obsR_cons ?_ ?_
        · intro T wx K hB hF hD hK
          have g5 : T[5]? = some (.pointer (some ⟨j, 0, none⟩)) := hF 5 (freeM_of (by kernel_rfl))
          have g12 := get_eqS (hD 0 12 (by simp [Region.binds]) (by kernel_rfl)) s12
          refine ob_yes (wanted_none rfl) ?_
          clear hF hD
          go_simp
          exact hK _ _ (Below.refl _ _) (rt_eqS s33)
        exact obsR_nil
      · intro T w8 hb hF hs hD
        have g12 := get_eqS (hD 0 12 (by decide) (by kernel_rfl)) s12
        have g13 := get_eqS (hD 1 13 (by decide) (by kernel_rfl)) s13
        have g14 := get_eqS (hD 2 14 (by decide) (by kernel_rfl)) s14
        have g15 := get_eqS (hD 3 15 (by decide) (by kernel_rfl)) s15
        have g16 := get_eqS (hD 4 16 (by decide) (by kernel_rfl)) s16
        have g17 := get_eqS (hD 5 17 (by decide) (by kernel_rfl)) s17
        have g18 := get_eqS (hD 6 18 (by decide) (by kernel_rfl)) s18
        have g19 := get_eqS (hD 7 19 (by decide) (by kernel_rfl)) s19
        have g20 := get_eqS (hD 8 20 (by decide) (by kernel_rfl)) s20
        have g21 := get_eqS (hD 9 21 (by decide) (by kernel_rfl)) s21
        have g22 := get_eqS (hD 10 22 (by decide) (by kernel_rfl)) s22
        have g23 := get_eqS (hD 11 23 (by decide) (by kernel_rfl)) s23
        have g24 := get_eqS (hD 12 24 (by decide) (by kernel_rfl)) s24
        have g25 := get_eqS (hD 13 25 (by decide) (by kernel_rfl)) s25
        have g26 := get_eqS (hD 14 26 (by decide) (by kernel_rfl)) s26
        have g27 := get_eqS (hD 15 27 (by decide) (by kernel_rfl)) s27
        have g28 := get_eqS (hD 16 28 (by decide) (by kernel_rfl)) s28
        have g29 := get_eqS (hD 17 29 (by decide) (by kernel_rfl)) s29
        have g30 := get_eqS (hD 18 30 (by decide) (by kernel_rfl)) s30
        have g31 := get_eqS (hD 19 31 (by decide) (by kernel_rfl)) s31
        have g32 := get_eqS (hD 20 32 (by decide) (by kernel_rfl)) s32
        have g33 := get_eqS (hD 21 33 (by decide) (by kernel_rfl)) s33
        have hT := conc [(12, .int .i64 2), (13, .int .i64 2), (14, .pointer (some ⟨a, 6, none⟩)), (15, .pointer (some ⟨a, 8, none⟩)), (16, .int .i64 l2), (17, .int .i64 2), (18, .pointer (some ⟨r, 2, none⟩)), (19, .int .u8 r2), (20, .int .i64 r2), (21, .int .i64 2), (22, .pointer (some ⟨a, 9, none⟩)), (23, .pointer (some ⟨a, 11, none⟩)), (24, .int .i64 h2), (25, .int .i64 2), (26, .pointer (some ⟨a, 6, none⟩)), (27, .pointer (some ⟨a, 8, none⟩)), (28, .int .i64 l2), (29, .int .i64 (h2 - l2)), (30, .int .i64 (h2 - l2 + 1)), (31, .int .i64 (r2.tmod (h2 - l2 + 1))), (32, .int .i64 (l2 + r2.tmod (h2 - l2 + 1))), (33, .pointer (some ⟨j, 2, none⟩))] hs hF (by simp only [List.forall_mem_cons]; exact ⟨g12, g13, g14, g15, g16, g17, g18, g19, g20, g21, g22, g23, g24, g25, g26, g27, g28, g29, g30, g31, g32, g33, fun p hp => absurd hp List.not_mem_nil⟩) (by kernel_rfl)
        simp only [List.foldl, List.setIfInBounds_toArray, List.set_cons_succ, List.set_cons_zero] at hT
        subst hT
        clear hF hD hs g12 g13 g14 g15 g16 g17 g18 g19 g20 g21 g22 g23 g24 g25 g26 g27 g28 g29 g30 g31 g32 g33 s12 s13 s14 s15 s16 s17 s18 s19 s20 s21 s22 s23 s24 s25 s26 s27 s28 s29 s30 s31 s32 s33
        show wpOpsIn _ _ _ _ _ [22] _ _
        have f0 := blk_cell (blk_call HJ.out hb) 2 _ rfl
        have f1 := blk_fz (blk_call HJ.out hb) 2
        have J1 : Hid ((w8.setCell ⟨j, 2, none⟩ (.int .i64 (jq l2 h2 r2))).heap[j]? = some (.cells #[.int .i64 (jq l0 h0 r0), .int .i64 (jq l1 h1 r1), .int .i64 (jq l2 h2 r2)] 25 (0, 0))) := Lib.hid (blk_set (blk_call HJ.out hb) _)
        have S1 := Lib.hid (blk_other (j := 2) (blk_call HS.out hb) NE.out.2.2.2 (.int .i64 (jq l2 h2 r2)))
        have R1 := Lib.hid (blk_other (j := 2) (blk_call HR.out hb) NE.out.2.2.1 (.int .i64 (jq l2 h2 r2)))
        have A1 := Lib.hid (blk_other (j := 2) (blk_call HA.out hb) NE.out.2.1 (.int .i64 (jq l2 h2 r2)))
        have B1 := Lib.hid (belS (p := ⟨j, 2, none⟩) (belT B.out hb) NE.out.1.1 (.int .i64 (jq l2 h2 r2)))
        clear hb HJ HS HR HA B
        simp only [wpOpsIn]
        go_simp
        clear f0 f1
        change Hid ((w8.setCell ⟨j, 2, none⟩ (.int .i64 (l2 + r2.tmod (h2 - l2 + 1)))).heap[j]? = _) at J1
        change Hid ((w8.setCell ⟨j, 2, none⟩ (.int .i64 (l2 + r2.tmod (h2 - l2 + 1)))).heap[s]? = _) at S1
        change Hid ((w8.setCell ⟨j, 2, none⟩ (.int .i64 (l2 + r2.tmod (h2 - l2 + 1)))).heap[r]? = _) at R1
        change Hid ((w8.setCell ⟨j, 2, none⟩ (.int .i64 (l2 + r2.tmod (h2 - l2 + 1)))).heap[a]? = _) at A1
        change Hid (Below w.heap.size w (w8.setCell ⟨j, 2, none⟩ (.int .i64 (l2 + r2.tmod (h2 - l2 + 1))))) at B1
        generalize (w8.setCell ⟨j, 2, none⟩ (.int .i64 (l2 + r2.tmod (h2 - l2 + 1)))) = W3 at *
        have HJ := J1
        have HS := S1
        have HR := R1
        have HA := A1
        have B := B1
        clear J1 S1 R1 A1 B1
        go_wp2_with fail
        rw [rounds_succ]
        have c0 := blk_cell HJ.out 0 _ rfl
        have d0 := blk_cell HS.out 0 _ rfl
        have e0 := blk_fz HS.out 0
        have c1 := blk_cell HJ.out 1 _ rfl
        have d1 := blk_cell HS.out 1 _ rfl
        have e1 := blk_fz HS.out 1
        have c2 := blk_cell HJ.out 2 _ rfl
        have d2 := blk_cell HS.out 2 _ rfl
        have e2 := blk_fz HS.out 2
        go_wp2_with fail
        clear c0 d0 e0
        clear c1 d1 e1
        clear c2 d2 e2
        have HZ : Hid ((((W3.setCell ⟨s, 0, none⟩ (.int .i64 (jq l0 h0 r0))).setCell ⟨s, 1, none⟩ (.int .i64 (jq l1 h1 r1))).setCell ⟨s, 2, none⟩ (.int .i64 (jq l2 h2 r2))).heap[s]? = some (.cells #[.int .i64 (jq l0 h0 r0), .int .i64 (jq l1 h1 r1), .int .i64 (jq l2 h2 r2)] 25 (0, 0))) := Lib.hid (blk_set (blk_set (blk_set HS.out _) _) _)
        replace B : Hid (Below w.heap.size w (((W3.setCell ⟨s, 0, none⟩ (.int .i64 (jq l0 h0 r0))).setCell ⟨s, 1, none⟩ (.int .i64 (jq l1 h1 r1))).setCell ⟨s, 2, none⟩ (.int .i64 (jq l2 h2 r2)))) := Lib.hid (belS (p := ⟨s, 2, none⟩) (belS (p := ⟨s, 1, none⟩) (belS (p := ⟨s, 0, none⟩) B.out NE.out.1.2 _) NE.out.1.2 _) NE.out.1.2 _)
        generalize (((W3.setCell ⟨s, 0, none⟩ (.int .i64 (jq l0 h0 r0))).setCell ⟨s, 1, none⟩ (.int .i64 (jq l1 h1 r1))).setCell ⟨s, 2, none⟩ (.int .i64 (jq l2 h2 r2))) = W4 at *
        have r0' := blk_cell HZ.out 0 _ rfl
        have r1' := blk_cell HZ.out 1 _ rfl
        have r2' := blk_cell HZ.out 2 _ rfl
        refine bodyPost_ret (v := .agg #[.int .i64 (jq l0 h0 r0), .int .i64 (jq l1 h1 r1), .int .i64 (jq l2 h2 r2)]) (by simp [results, Tryd.results15, go_sem, r0', r1', r2']) rfl ?_
        exact ⟨rfl, B.out⟩
end Go.Proofs.YtalhkcmlacppjaaDoor

namespace Go.Proofs.YtalhkcmlacppjaaDoor
open Go.ChangeShapes Go.WideShapes Go.ChangeAt Go.RowKit
set_option linter.unusedVariables false
set_option linter.unusedSimpArgs false
set_option maxRecDepth 100000

def fitB (l0 l1 l2 h0 h1 h2 q0 q1 q2 : Int) : Bool := decide ((l0 ≤ q0 ∧ q0 ≤ h0) ∧ (l1 ≤ q1 ∧ q1 ≤ h1) ∧ l2 ≤ q2 ∧ q2 ≤ h2)
theorem btw_q (x a b : Int) (t : Bool) (w : World) (h : Hid (decide (a ≤ x ∧ x ≤ b) = t)) :
    Calls Tryd.prog 40 #[.int .i64 x, .int .i64 a, .int .i64 b] w fun e w' => e = .returned (.bool t) ∧ w' = w :=
  (btw_is x a b t w h).mono fun e w' h => ⟨h.1, h.2.symm⟩
set_option maxHeartbeats 1000000 in
theorem inlim_any (X Y n0 n1 n2 W l0 l1 l2 h0 h1 h2 : Int) (q0 q1 q2 : Int) (w : World) :
    Calls Tryd.prog 13 #[.agg #[.int .i64 X, .int .i64 Y, .int .i64 n0, .int .i64 n1, .int .i64 n2, .int .i64 W, .int .i64 l0, .int .i64 l1, .int .i64 l2, .int .i64 h0, .int .i64 h1, .int .i64 h2], .agg #[.int .i64 q0, .int .i64 q1, .int .i64 q2]] w fun e w' => e = .returned (.bool (fitB l0 l1 l2 h0 h1 h2 q0 q1 q2)) ∧ Below w.heap.size w w' := by
  have I0 := fun w => (ixJ q0 q1 q2 w).1
  have I1 := fun w => (ixJ q0 q1 q2 w).2.1
  have I2 := fun w => (ixJ q0 q1 q2 w).2.2
  by_cases k0 : l0 ≤ q0 ∧ q0 ≤ h0
  rotate_left
  · have K0 : Hid (decide (l0 ≤ q0 ∧ q0 ≤ h0) = false) := Lib.hid (decide_eq_false k0)
    have E : Hid (fitB l0 l1 l2 h0 h1 h2 q0 q1 q2 = false) := Lib.hid (decide_eq_false (fun h => k0 (by first | exact h.1 | exact h.2.1 | exact h.2.2)))
    clear k0
    go_enter Tryd.func13, Tryd.ntmps13
    go_upto_region 1 with fail
    obtain ⟨W0, hW0⟩ : ∃ x, ((w.alloc (.cells #[.int .i64 X, .int .i64 Y, .int .i64 n0, .int .i64 n1, .int .i64 n2, .int .i64 W, .int .i64 l0, .int .i64 l1, .int .i64 l2, .int .i64 h0, .int .i64 h1, .int .i64 h2] 27)).alloc (.cells #[.int .i64 q0, .int .i64 q1, .int .i64 q2] 25)) = x := ⟨_, rfl⟩
    have B : Hid (Below w.heap.size w W0) := Lib.hid (by rw [← hW0]; go_grown)
    have Z : Hid (w.heap.size + 2 ≤ W0.heap.size) := Lib.hid (by rw [← hW0]; simp)
    have c6 : W0.cell? ⟨w.heap.size, 6, none⟩ = some (.int .i64 l0) := by rw [← hW0]; simp
    have c7 : W0.cell? ⟨w.heap.size, 7, none⟩ = some (.int .i64 l1) := by rw [← hW0]; simp
    have c8 : W0.cell? ⟨w.heap.size, 8, none⟩ = some (.int .i64 l2) := by rw [← hW0]; simp
    have c9 : W0.cell? ⟨w.heap.size, 9, none⟩ = some (.int .i64 h0) := by rw [← hW0]; simp
    have c10 : W0.cell? ⟨w.heap.size, 10, none⟩ = some (.int .i64 h1) := by rw [← hW0]; simp
    have c11 : W0.cell? ⟨w.heap.size, 11, none⟩ = some (.int .i64 h2) := by rw [← hW0]; simp
    have d0 : W0.cell? ⟨w.heap.size + 1, 0, none⟩ = some (.int .i64 q0) := by rw [← hW0]; simp
    have d1 : W0.cell? ⟨w.heap.size + 1, 1, none⟩ = some (.int .i64 q1) := by rw [← hW0]; simp
    have d2 : W0.cell? ⟨w.heap.size + 1, 2, none⟩ = some (.int .i64 q2) := by rw [← hW0]; simp
    rw [hW0]
    clear hW0
    go_wp2_with fail
    refine wp_loop_rounds 4 ?_
    rw [rounds_succ]
    go_wp2_with fail
    go_quiet ((go_at_call 40; refine Calls.quiet_of_same (btw_q _ _ _ _ _ K0)))
    obtain ⟨W1, hW⟩ : ∃ x, W0.drewN nq = x := ⟨_, rfl⟩
    rw [hW]
    replace c6 : W1.cell? ⟨w.heap.size, 6, none⟩ = some (.int .i64 l0) := by rw [← hW]; exact c6
    replace c7 : W1.cell? ⟨w.heap.size, 7, none⟩ = some (.int .i64 l1) := by rw [← hW]; exact c7
    replace c8 : W1.cell? ⟨w.heap.size, 8, none⟩ = some (.int .i64 l2) := by rw [← hW]; exact c8
    replace c9 : W1.cell? ⟨w.heap.size, 9, none⟩ = some (.int .i64 h0) := by rw [← hW]; exact c9
    replace c10 : W1.cell? ⟨w.heap.size, 10, none⟩ = some (.int .i64 h1) := by rw [← hW]; exact c10
    replace c11 : W1.cell? ⟨w.heap.size, 11, none⟩ = some (.int .i64 h2) := by rw [← hW]; exact c11
    replace d0 : W1.cell? ⟨w.heap.size + 1, 0, none⟩ = some (.int .i64 q0) := by rw [← hW]; exact d0
    replace d1 : W1.cell? ⟨w.heap.size + 1, 1, none⟩ = some (.int .i64 q1) := by rw [← hW]; exact d1
    replace d2 : W1.cell? ⟨w.heap.size + 1, 2, none⟩ = some (.int .i64 q2) := by rw [← hW]; exact d2
    replace B : Hid (Below w.heap.size w W1) := Lib.hid (by rw [← hW]; exact below_drewN B.out _)
    replace Z : Hid (w.heap.size + 2 ≤ W1.heap.size) := Lib.hid (by rw [← hW]; exact Z.out)
    clear hW
    go_wp2_with fail
    go_ret
    exact ⟨ret_bool (by rw [E.out]), B.out⟩
  have K0 : Hid (decide (l0 ≤ q0 ∧ q0 ≤ h0) = true) := Lib.hid (decide_eq_true k0)
  by_cases k1 : l1 ≤ q1 ∧ q1 ≤ h1
  rotate_left
  · have K1 : Hid (decide (l1 ≤ q1 ∧ q1 ≤ h1) = false) := Lib.hid (decide_eq_false k1)
    have E : Hid (fitB l0 l1 l2 h0 h1 h2 q0 q1 q2 = false) := Lib.hid (decide_eq_false (fun h => k1 (by first | exact h.1 | exact h.2.1 | exact h.2.2)))
    clear k1
    go_enter Tryd.func13, Tryd.ntmps13
    go_upto_region 1 with fail
    obtain ⟨W0, hW0⟩ : ∃ x, ((w.alloc (.cells #[.int .i64 X, .int .i64 Y, .int .i64 n0, .int .i64 n1, .int .i64 n2, .int .i64 W, .int .i64 l0, .int .i64 l1, .int .i64 l2, .int .i64 h0, .int .i64 h1, .int .i64 h2] 27)).alloc (.cells #[.int .i64 q0, .int .i64 q1, .int .i64 q2] 25)) = x := ⟨_, rfl⟩
    have B : Hid (Below w.heap.size w W0) := Lib.hid (by rw [← hW0]; go_grown)
    have Z : Hid (w.heap.size + 2 ≤ W0.heap.size) := Lib.hid (by rw [← hW0]; simp)
    have c6 : W0.cell? ⟨w.heap.size, 6, none⟩ = some (.int .i64 l0) := by rw [← hW0]; simp
    have c7 : W0.cell? ⟨w.heap.size, 7, none⟩ = some (.int .i64 l1) := by rw [← hW0]; simp
    have c8 : W0.cell? ⟨w.heap.size, 8, none⟩ = some (.int .i64 l2) := by rw [← hW0]; simp
    have c9 : W0.cell? ⟨w.heap.size, 9, none⟩ = some (.int .i64 h0) := by rw [← hW0]; simp
    have c10 : W0.cell? ⟨w.heap.size, 10, none⟩ = some (.int .i64 h1) := by rw [← hW0]; simp
    have c11 : W0.cell? ⟨w.heap.size, 11, none⟩ = some (.int .i64 h2) := by rw [← hW0]; simp
    have d0 : W0.cell? ⟨w.heap.size + 1, 0, none⟩ = some (.int .i64 q0) := by rw [← hW0]; simp
    have d1 : W0.cell? ⟨w.heap.size + 1, 1, none⟩ = some (.int .i64 q1) := by rw [← hW0]; simp
    have d2 : W0.cell? ⟨w.heap.size + 1, 2, none⟩ = some (.int .i64 q2) := by rw [← hW0]; simp
    rw [hW0]
    clear hW0
    go_wp2_with fail
    refine wp_loop_rounds 4 ?_
    rw [rounds_succ]
    go_wp2_with fail
    go_quiet ((go_at_call 40; refine Calls.quiet_of_same (btw_q _ _ _ _ _ K0)))
    obtain ⟨W1, hW⟩ : ∃ x, W0.drewN nq = x := ⟨_, rfl⟩
    rw [hW]
    replace c6 : W1.cell? ⟨w.heap.size, 6, none⟩ = some (.int .i64 l0) := by rw [← hW]; exact c6
    replace c7 : W1.cell? ⟨w.heap.size, 7, none⟩ = some (.int .i64 l1) := by rw [← hW]; exact c7
    replace c8 : W1.cell? ⟨w.heap.size, 8, none⟩ = some (.int .i64 l2) := by rw [← hW]; exact c8
    replace c9 : W1.cell? ⟨w.heap.size, 9, none⟩ = some (.int .i64 h0) := by rw [← hW]; exact c9
    replace c10 : W1.cell? ⟨w.heap.size, 10, none⟩ = some (.int .i64 h1) := by rw [← hW]; exact c10
    replace c11 : W1.cell? ⟨w.heap.size, 11, none⟩ = some (.int .i64 h2) := by rw [← hW]; exact c11
    replace d0 : W1.cell? ⟨w.heap.size + 1, 0, none⟩ = some (.int .i64 q0) := by rw [← hW]; exact d0
    replace d1 : W1.cell? ⟨w.heap.size + 1, 1, none⟩ = some (.int .i64 q1) := by rw [← hW]; exact d1
    replace d2 : W1.cell? ⟨w.heap.size + 1, 2, none⟩ = some (.int .i64 q2) := by rw [← hW]; exact d2
    replace B : Hid (Below w.heap.size w W1) := Lib.hid (by rw [← hW]; exact below_drewN B.out _)
    replace Z : Hid (w.heap.size + 2 ≤ W1.heap.size) := Lib.hid (by rw [← hW]; exact Z.out)
    clear hW
    go_wp2_with fail
    rw [rounds_succ]
    go_wp2_with fail
    go_quiet ((go_at_call 40; refine Calls.quiet_of_same (btw_q _ _ _ _ _ K1)))
    obtain ⟨W2, hW⟩ : ∃ x, W1.drewN nq = x := ⟨_, rfl⟩
    rw [hW]
    replace c6 : W2.cell? ⟨w.heap.size, 6, none⟩ = some (.int .i64 l0) := by rw [← hW]; exact c6
    replace c7 : W2.cell? ⟨w.heap.size, 7, none⟩ = some (.int .i64 l1) := by rw [← hW]; exact c7
    replace c8 : W2.cell? ⟨w.heap.size, 8, none⟩ = some (.int .i64 l2) := by rw [← hW]; exact c8
    replace c9 : W2.cell? ⟨w.heap.size, 9, none⟩ = some (.int .i64 h0) := by rw [← hW]; exact c9
    replace c10 : W2.cell? ⟨w.heap.size, 10, none⟩ = some (.int .i64 h1) := by rw [← hW]; exact c10
    replace c11 : W2.cell? ⟨w.heap.size, 11, none⟩ = some (.int .i64 h2) := by rw [← hW]; exact c11
    replace d0 : W2.cell? ⟨w.heap.size + 1, 0, none⟩ = some (.int .i64 q0) := by rw [← hW]; exact d0
    replace d1 : W2.cell? ⟨w.heap.size + 1, 1, none⟩ = some (.int .i64 q1) := by rw [← hW]; exact d1
    replace d2 : W2.cell? ⟨w.heap.size + 1, 2, none⟩ = some (.int .i64 q2) := by rw [← hW]; exact d2
    replace B : Hid (Below w.heap.size w W2) := Lib.hid (by rw [← hW]; exact below_drewN B.out _)
    replace Z : Hid (w.heap.size + 2 ≤ W2.heap.size) := Lib.hid (by rw [← hW]; exact Z.out)
    clear hW
    go_wp2_with fail
    go_ret
    exact ⟨ret_bool (by rw [E.out]), B.out⟩
  have K1 : Hid (decide (l1 ≤ q1 ∧ q1 ≤ h1) = true) := Lib.hid (decide_eq_true k1)
  by_cases k2 : l2 ≤ q2 ∧ q2 ≤ h2
  rotate_left
  · have K2 : Hid (decide (l2 ≤ q2 ∧ q2 ≤ h2) = false) := Lib.hid (decide_eq_false k2)
    have E : Hid (fitB l0 l1 l2 h0 h1 h2 q0 q1 q2 = false) := Lib.hid (decide_eq_false (fun h => k2 (by first | exact h.1 | exact h.2.1 | exact h.2.2)))
    clear k2
    go_enter Tryd.func13, Tryd.ntmps13
    go_upto_region 1 with fail
    obtain ⟨W0, hW0⟩ : ∃ x, ((w.alloc (.cells #[.int .i64 X, .int .i64 Y, .int .i64 n0, .int .i64 n1, .int .i64 n2, .int .i64 W, .int .i64 l0, .int .i64 l1, .int .i64 l2, .int .i64 h0, .int .i64 h1, .int .i64 h2] 27)).alloc (.cells #[.int .i64 q0, .int .i64 q1, .int .i64 q2] 25)) = x := ⟨_, rfl⟩
    have B : Hid (Below w.heap.size w W0) := Lib.hid (by rw [← hW0]; go_grown)
    have Z : Hid (w.heap.size + 2 ≤ W0.heap.size) := Lib.hid (by rw [← hW0]; simp)
    have c6 : W0.cell? ⟨w.heap.size, 6, none⟩ = some (.int .i64 l0) := by rw [← hW0]; simp
    have c7 : W0.cell? ⟨w.heap.size, 7, none⟩ = some (.int .i64 l1) := by rw [← hW0]; simp
    have c8 : W0.cell? ⟨w.heap.size, 8, none⟩ = some (.int .i64 l2) := by rw [← hW0]; simp
    have c9 : W0.cell? ⟨w.heap.size, 9, none⟩ = some (.int .i64 h0) := by rw [← hW0]; simp
    have c10 : W0.cell? ⟨w.heap.size, 10, none⟩ = some (.int .i64 h1) := by rw [← hW0]; simp
    have c11 : W0.cell? ⟨w.heap.size, 11, none⟩ = some (.int .i64 h2) := by rw [← hW0]; simp
    have d0 : W0.cell? ⟨w.heap.size + 1, 0, none⟩ = some (.int .i64 q0) := by rw [← hW0]; simp
    have d1 : W0.cell? ⟨w.heap.size + 1, 1, none⟩ = some (.int .i64 q1) := by rw [← hW0]; simp
    have d2 : W0.cell? ⟨w.heap.size + 1, 2, none⟩ = some (.int .i64 q2) := by rw [← hW0]; simp
    rw [hW0]
    clear hW0
    go_wp2_with fail
    refine wp_loop_rounds 4 ?_
    rw [rounds_succ]
    go_wp2_with fail
    go_quiet ((go_at_call 40; refine Calls.quiet_of_same (btw_q _ _ _ _ _ K0)))
    obtain ⟨W1, hW⟩ : ∃ x, W0.drewN nq = x := ⟨_, rfl⟩
    rw [hW]
    replace c6 : W1.cell? ⟨w.heap.size, 6, none⟩ = some (.int .i64 l0) := by rw [← hW]; exact c6
    replace c7 : W1.cell? ⟨w.heap.size, 7, none⟩ = some (.int .i64 l1) := by rw [← hW]; exact c7
    replace c8 : W1.cell? ⟨w.heap.size, 8, none⟩ = some (.int .i64 l2) := by rw [← hW]; exact c8
    replace c9 : W1.cell? ⟨w.heap.size, 9, none⟩ = some (.int .i64 h0) := by rw [← hW]; exact c9
    replace c10 : W1.cell? ⟨w.heap.size, 10, none⟩ = some (.int .i64 h1) := by rw [← hW]; exact c10
    replace c11 : W1.cell? ⟨w.heap.size, 11, none⟩ = some (.int .i64 h2) := by rw [← hW]; exact c11
    replace d0 : W1.cell? ⟨w.heap.size + 1, 0, none⟩ = some (.int .i64 q0) := by rw [← hW]; exact d0
    replace d1 : W1.cell? ⟨w.heap.size + 1, 1, none⟩ = some (.int .i64 q1) := by rw [← hW]; exact d1
    replace d2 : W1.cell? ⟨w.heap.size + 1, 2, none⟩ = some (.int .i64 q2) := by rw [← hW]; exact d2
    replace B : Hid (Below w.heap.size w W1) := Lib.hid (by rw [← hW]; exact below_drewN B.out _)
    replace Z : Hid (w.heap.size + 2 ≤ W1.heap.size) := Lib.hid (by rw [← hW]; exact Z.out)
    clear hW
    go_wp2_with fail
    rw [rounds_succ]
    go_wp2_with fail
    go_quiet ((go_at_call 40; refine Calls.quiet_of_same (btw_q _ _ _ _ _ K1)))
    obtain ⟨W2, hW⟩ : ∃ x, W1.drewN nq = x := ⟨_, rfl⟩
    rw [hW]
    replace c6 : W2.cell? ⟨w.heap.size, 6, none⟩ = some (.int .i64 l0) := by rw [← hW]; exact c6
    replace c7 : W2.cell? ⟨w.heap.size, 7, none⟩ = some (.int .i64 l1) := by rw [← hW]; exact c7
    replace c8 : W2.cell? ⟨w.heap.size, 8, none⟩ = some (.int .i64 l2) := by rw [← hW]; exact c8
    replace c9 : W2.cell? ⟨w.heap.size, 9, none⟩ = some (.int .i64 h0) := by rw [← hW]; exact c9
    replace c10 : W2.cell? ⟨w.heap.size, 10, none⟩ = some (.int .i64 h1) := by rw [← hW]; exact c10
    replace c11 : W2.cell? ⟨w.heap.size, 11, none⟩ = some (.int .i64 h2) := by rw [← hW]; exact c11
    replace d0 : W2.cell? ⟨w.heap.size + 1, 0, none⟩ = some (.int .i64 q0) := by rw [← hW]; exact d0
    replace d1 : W2.cell? ⟨w.heap.size + 1, 1, none⟩ = some (.int .i64 q1) := by rw [← hW]; exact d1
    replace d2 : W2.cell? ⟨w.heap.size + 1, 2, none⟩ = some (.int .i64 q2) := by rw [← hW]; exact d2
    replace B : Hid (Below w.heap.size w W2) := Lib.hid (by rw [← hW]; exact below_drewN B.out _)
    replace Z : Hid (w.heap.size + 2 ≤ W2.heap.size) := Lib.hid (by rw [← hW]; exact Z.out)
    clear hW
    go_wp2_with fail
    rw [rounds_succ]
    go_wp2_with fail
    go_quiet ((go_at_call 40; refine Calls.quiet_of_same (btw_q _ _ _ _ _ K2)))
    obtain ⟨W3, hW⟩ : ∃ x, W2.drewN nq = x := ⟨_, rfl⟩
    rw [hW]
    replace c6 : W3.cell? ⟨w.heap.size, 6, none⟩ = some (.int .i64 l0) := by rw [← hW]; exact c6
    replace c7 : W3.cell? ⟨w.heap.size, 7, none⟩ = some (.int .i64 l1) := by rw [← hW]; exact c7
    replace c8 : W3.cell? ⟨w.heap.size, 8, none⟩ = some (.int .i64 l2) := by rw [← hW]; exact c8
    replace c9 : W3.cell? ⟨w.heap.size, 9, none⟩ = some (.int .i64 h0) := by rw [← hW]; exact c9
    replace c10 : W3.cell? ⟨w.heap.size, 10, none⟩ = some (.int .i64 h1) := by rw [← hW]; exact c10
    replace c11 : W3.cell? ⟨w.heap.size, 11, none⟩ = some (.int .i64 h2) := by rw [← hW]; exact c11
    replace d0 : W3.cell? ⟨w.heap.size + 1, 0, none⟩ = some (.int .i64 q0) := by rw [← hW]; exact d0
    replace d1 : W3.cell? ⟨w.heap.size + 1, 1, none⟩ = some (.int .i64 q1) := by rw [← hW]; exact d1
    replace d2 : W3.cell? ⟨w.heap.size + 1, 2, none⟩ = some (.int .i64 q2) := by rw [← hW]; exact d2
    replace B : Hid (Below w.heap.size w W3) := Lib.hid (by rw [← hW]; exact below_drewN B.out _)
    replace Z : Hid (w.heap.size + 2 ≤ W3.heap.size) := Lib.hid (by rw [← hW]; exact Z.out)
    clear hW
    go_wp2_with fail
    go_ret
    exact ⟨ret_bool (by rw [E.out]), B.out⟩
  have K2 : Hid (decide (l2 ≤ q2 ∧ q2 ≤ h2) = true) := Lib.hid (decide_eq_true k2)
  have E : Hid (fitB l0 l1 l2 h0 h1 h2 q0 q1 q2 = true) := Lib.hid (decide_eq_true ⟨k0, k1, k2⟩)
  clear k0 k1 k2
  go_enter Tryd.func13, Tryd.ntmps13
  go_upto_region 1 with fail
  obtain ⟨W0, hW0⟩ : ∃ x, ((w.alloc (.cells #[.int .i64 X, .int .i64 Y, .int .i64 n0, .int .i64 n1, .int .i64 n2, .int .i64 W, .int .i64 l0, .int .i64 l1, .int .i64 l2, .int .i64 h0, .int .i64 h1, .int .i64 h2] 27)).alloc (.cells #[.int .i64 q0, .int .i64 q1, .int .i64 q2] 25)) = x := ⟨_, rfl⟩
  have B : Hid (Below w.heap.size w W0) := Lib.hid (by rw [← hW0]; go_grown)
  have Z : Hid (w.heap.size + 2 ≤ W0.heap.size) := Lib.hid (by rw [← hW0]; simp)
  have c6 : W0.cell? ⟨w.heap.size, 6, none⟩ = some (.int .i64 l0) := by rw [← hW0]; simp
  have c7 : W0.cell? ⟨w.heap.size, 7, none⟩ = some (.int .i64 l1) := by rw [← hW0]; simp
  have c8 : W0.cell? ⟨w.heap.size, 8, none⟩ = some (.int .i64 l2) := by rw [← hW0]; simp
  have c9 : W0.cell? ⟨w.heap.size, 9, none⟩ = some (.int .i64 h0) := by rw [← hW0]; simp
  have c10 : W0.cell? ⟨w.heap.size, 10, none⟩ = some (.int .i64 h1) := by rw [← hW0]; simp
  have c11 : W0.cell? ⟨w.heap.size, 11, none⟩ = some (.int .i64 h2) := by rw [← hW0]; simp
  have d0 : W0.cell? ⟨w.heap.size + 1, 0, none⟩ = some (.int .i64 q0) := by rw [← hW0]; simp
  have d1 : W0.cell? ⟨w.heap.size + 1, 1, none⟩ = some (.int .i64 q1) := by rw [← hW0]; simp
  have d2 : W0.cell? ⟨w.heap.size + 1, 2, none⟩ = some (.int .i64 q2) := by rw [← hW0]; simp
  rw [hW0]
  clear hW0
  go_wp2_with fail
  refine wp_loop_rounds 4 ?_
  rw [rounds_succ]
  go_wp2_with fail
  go_quiet ((go_at_call 40; refine Calls.quiet_of_same (btw_q _ _ _ _ _ K0)))
  obtain ⟨W1, hW⟩ : ∃ x, W0.drewN nq = x := ⟨_, rfl⟩
  rw [hW]
  replace c6 : W1.cell? ⟨w.heap.size, 6, none⟩ = some (.int .i64 l0) := by rw [← hW]; exact c6
  replace c7 : W1.cell? ⟨w.heap.size, 7, none⟩ = some (.int .i64 l1) := by rw [← hW]; exact c7
  replace c8 : W1.cell? ⟨w.heap.size, 8, none⟩ = some (.int .i64 l2) := by rw [← hW]; exact c8
  replace c9 : W1.cell? ⟨w.heap.size, 9, none⟩ = some (.int .i64 h0) := by rw [← hW]; exact c9
  replace c10 : W1.cell? ⟨w.heap.size, 10, none⟩ = some (.int .i64 h1) := by rw [← hW]; exact c10
  replace c11 : W1.cell? ⟨w.heap.size, 11, none⟩ = some (.int .i64 h2) := by rw [← hW]; exact c11
  replace d0 : W1.cell? ⟨w.heap.size + 1, 0, none⟩ = some (.int .i64 q0) := by rw [← hW]; exact d0
  replace d1 : W1.cell? ⟨w.heap.size + 1, 1, none⟩ = some (.int .i64 q1) := by rw [← hW]; exact d1
  replace d2 : W1.cell? ⟨w.heap.size + 1, 2, none⟩ = some (.int .i64 q2) := by rw [← hW]; exact d2
  replace B : Hid (Below w.heap.size w W1) := Lib.hid (by rw [← hW]; exact below_drewN B.out _)
  replace Z : Hid (w.heap.size + 2 ≤ W1.heap.size) := Lib.hid (by rw [← hW]; exact Z.out)
  clear hW
  go_wp2_with fail
  rw [rounds_succ]
  go_wp2_with fail
  go_quiet ((go_at_call 40; refine Calls.quiet_of_same (btw_q _ _ _ _ _ K1)))
  obtain ⟨W2, hW⟩ : ∃ x, W1.drewN nq = x := ⟨_, rfl⟩
  rw [hW]
  replace c6 : W2.cell? ⟨w.heap.size, 6, none⟩ = some (.int .i64 l0) := by rw [← hW]; exact c6
  replace c7 : W2.cell? ⟨w.heap.size, 7, none⟩ = some (.int .i64 l1) := by rw [← hW]; exact c7
  replace c8 : W2.cell? ⟨w.heap.size, 8, none⟩ = some (.int .i64 l2) := by rw [← hW]; exact c8
  replace c9 : W2.cell? ⟨w.heap.size, 9, none⟩ = some (.int .i64 h0) := by rw [← hW]; exact c9
  replace c10 : W2.cell? ⟨w.heap.size, 10, none⟩ = some (.int .i64 h1) := by rw [← hW]; exact c10
  replace c11 : W2.cell? ⟨w.heap.size, 11, none⟩ = some (.int .i64 h2) := by rw [← hW]; exact c11
  replace d0 : W2.cell? ⟨w.heap.size + 1, 0, none⟩ = some (.int .i64 q0) := by rw [← hW]; exact d0
  replace d1 : W2.cell? ⟨w.heap.size + 1, 1, none⟩ = some (.int .i64 q1) := by rw [← hW]; exact d1
  replace d2 : W2.cell? ⟨w.heap.size + 1, 2, none⟩ = some (.int .i64 q2) := by rw [← hW]; exact d2
  replace B : Hid (Below w.heap.size w W2) := Lib.hid (by rw [← hW]; exact below_drewN B.out _)
  replace Z : Hid (w.heap.size + 2 ≤ W2.heap.size) := Lib.hid (by rw [← hW]; exact Z.out)
  clear hW
  go_wp2_with fail
  rw [rounds_succ]
  go_wp2_with fail
  go_quiet ((go_at_call 40; refine Calls.quiet_of_same (btw_q _ _ _ _ _ K2)))
  obtain ⟨W3, hW⟩ : ∃ x, W2.drewN nq = x := ⟨_, rfl⟩
  rw [hW]
  replace c6 : W3.cell? ⟨w.heap.size, 6, none⟩ = some (.int .i64 l0) := by rw [← hW]; exact c6
  replace c7 : W3.cell? ⟨w.heap.size, 7, none⟩ = some (.int .i64 l1) := by rw [← hW]; exact c7
  replace c8 : W3.cell? ⟨w.heap.size, 8, none⟩ = some (.int .i64 l2) := by rw [← hW]; exact c8
  replace c9 : W3.cell? ⟨w.heap.size, 9, none⟩ = some (.int .i64 h0) := by rw [← hW]; exact c9
  replace c10 : W3.cell? ⟨w.heap.size, 10, none⟩ = some (.int .i64 h1) := by rw [← hW]; exact c10
  replace c11 : W3.cell? ⟨w.heap.size, 11, none⟩ = some (.int .i64 h2) := by rw [← hW]; exact c11
  replace d0 : W3.cell? ⟨w.heap.size + 1, 0, none⟩ = some (.int .i64 q0) := by rw [← hW]; exact d0
  replace d1 : W3.cell? ⟨w.heap.size + 1, 1, none⟩ = some (.int .i64 q1) := by rw [← hW]; exact d1
  replace d2 : W3.cell? ⟨w.heap.size + 1, 2, none⟩ = some (.int .i64 q2) := by rw [← hW]; exact d2
  replace B : Hid (Below w.heap.size w W3) := Lib.hid (by rw [← hW]; exact below_drewN B.out _)
  replace Z : Hid (w.heap.size + 2 ≤ W3.heap.size) := Lib.hid (by rw [← hW]; exact Z.out)
  clear hW
  go_wp2_with fail
  rw [rounds_succ]
  go_wp2_with fail
  go_ret
  exact ⟨ret_bool (by rw [E.out]), B.out⟩
theorem inlim_is (X Y n0 n1 n2 W l0 l1 l2 h0 h1 h2 : Int) (q0 q1 q2 : Int) (t : Bool) (w : World) (h : Hid (fitB l0 l1 l2 h0 h1 h2 q0 q1 q2 = t)) :
    Calls Tryd.prog 13 #[.agg #[.int .i64 X, .int .i64 Y, .int .i64 n0, .int .i64 n1, .int .i64 n2, .int .i64 W, .int .i64 l0, .int .i64 l1, .int .i64 l2, .int .i64 h0, .int .i64 h1, .int .i64 h2], .agg #[.int .i64 q0, .int .i64 q1, .int .i64 q2]] w fun e w' => e = .returned (.bool t) ∧ Below w.heap.size w w' := by
  rw [← h.out]
  exact inlim_any X Y n0 n1 n2 W l0 l1 l2 h0 h1 h2 q0 q1 q2 w
end Go.Proofs.YtalhkcmlacppjaaDoor

namespace Go.Proofs.YtalhkcmlacppjaaDoor
open Go.ChangeShapes Go.WideShapes Go.ChangeAt Go.RowKit
set_option linter.unusedVariables false
set_option linter.unusedSimpArgs false
set_option maxRecDepth 100000
set_option maxHeartbeats 2000000 in
theorem stepj0_no (X Y n0 n1 n2 W l0 l1 l2 h0 h1 h2 : Int) (q0 q1 q2 : Int) (s : Int) (w : World) (hs : s = 1 ∨ s = -1) (b0 : -1000 ≤ q0 ∧ q0 ≤ 1000) (b1 : -1000 ≤ q1 ∧ q1 ≤ 1000) (b2 : -1000 ≤ q2 ∧ q2 ≤ 1000) (hf : Hid (fitB l0 l1 l2 h0 h1 h2 (q0 + s) q1 q2 = false)) :
    Calls Tryd.prog 19 #[.agg #[.int .i64 X, .int .i64 Y, .int .i64 n0, .int .i64 n1, .int .i64 n2, .int .i64 W, .int .i64 l0, .int .i64 l1, .int .i64 l2, .int .i64 h0, .int .i64 h1, .int .i64 h2], .agg #[.int .i64 q0, .int .i64 q1, .int .i64 q2], .int .i64 0, .int .i64 s] w fun e w' => e = .returned (.tuple #[.agg #[.int .i64 0, .int .i64 0, .int .i64 0], .bool false]) ∧ Below w.heap.size w w' := by
  have hs2 : -1 ≤ s ∧ s ≤ 1 := by omega
  rcases hs with rfl | rfl
  · go_enter Tryd.func19, Tryd.ntmps19
    go_wp2_with (go_at_call 40; refine (btw_any _ _ _ _).mono ?_; rintro e w' ⟨rfl, rfl⟩)
    obtain ⟨W0, hW0⟩ : ∃ z, (((w.alloc (.cells #[.int .i64 X, .int .i64 Y, .int .i64 n0, .int .i64 n1, .int .i64 n2, .int .i64 W, .int .i64 l0, .int .i64 l1, .int .i64 l2, .int .i64 h0, .int .i64 h1, .int .i64 h2] 27)).alloc (.cells #[.int .i64 (q0 + 1), .int .i64 q1, .int .i64 q2] 25)).alloc (.cells #[.int .i64 0, .int .i64 0, .int .i64 0] 25)) = z := ⟨_, rfl⟩
    have HR : Hid (W0.heap[w.heap.size + 1 + 1]? = some (.cells #[.int .i64 0, .int .i64 0, .int .i64 0] 25 (0, 0))) := Lib.hid (by rw [← hW0]; exact blk_new _ _ _ (by simp))
    have HQ : Hid (W0.heap[w.heap.size + 1]? = some (.cells #[.int .i64 (q0 + 1), .int .i64 q1, .int .i64 q2] 25 (0, 0))) := Lib.hid (by rw [← hW0]; exact blk_alloc (blk_new _ _ _ (by simp)) _)
    have B : Hid (Below w.heap.size w W0) := Lib.hid (by rw [← hW0]; go_grown)
    rw [hW0]
    clear hW0
    refine (inlim_is X Y n0 n1 n2 W l0 l1 l2 h0 h1 h2 (q0 + 1) q1 q2 _ _ hf).mono ?_
    rintro e W1 ⟨rfl, hb⟩
    replace HR := Lib.hid (blk_call HR.out hb)
    replace HQ := Lib.hid (blk_call HQ.out hb)
    replace B := Lib.hid (belT B.out hb)
    clear hb
    generalize hr : w.heap.size + 1 + 1 = r at *
    generalize hq : w.heap.size + 1 = q at *
    have NR := Lib.hid (show w.heap.size ≤ r by omega)
    clear hr hq
    have c0 := blk_cell HQ.out 0 _ rfl
    have d0 := blk_cell HR.out 0 _ rfl
    have f0 := blk_fz HR.out 0
    have c1 := blk_cell HQ.out 1 _ rfl
    have d1 := blk_cell HR.out 1 _ rfl
    have f1 := blk_fz HR.out 1
    have c2 := blk_cell HQ.out 2 _ rfl
    have d2 := blk_cell HR.out 2 _ rfl
    have f2 := blk_fz HR.out 2
    go_wp2_with fail
    clear c0 c1 c2 d0 d1 d2 f0 f1 f2
    have HZ : Hid ((((W1.setCell ⟨r, 0, none⟩ (.int .i64 0)).setCell ⟨r, 1, none⟩ (.int .i64 0)).setCell ⟨r, 2, none⟩ (.int .i64 0)).heap[r]? = some (.cells #[.int .i64 0, .int .i64 0, .int .i64 0] 25 (0, 0))) := Lib.hid (blk_set (blk_set (blk_set HR.out _) _) _)
    replace B : Hid (Below w.heap.size w (((W1.setCell ⟨r, 0, none⟩ (.int .i64 0)).setCell ⟨r, 1, none⟩ (.int .i64 0)).setCell ⟨r, 2, none⟩ (.int .i64 0))) := Lib.hid (belS (p := ⟨r, 2, none⟩) (belS (p := ⟨r, 1, none⟩) (belS (p := ⟨r, 0, none⟩) B.out NR.out _) NR.out _) NR.out _)
    generalize (((W1.setCell ⟨r, 0, none⟩ (.int .i64 0)).setCell ⟨r, 1, none⟩ (.int .i64 0)).setCell ⟨r, 2, none⟩ (.int .i64 0)) = W2 at *
    have z0 := blk_cell HZ.out 0 _ rfl
    have z1 := blk_cell HZ.out 1 _ rfl
    have z2 := blk_cell HZ.out 2 _ rfl
    refine bodyPost_ret (v := .tuple #[.agg #[.int .i64 0, .int .i64 0, .int .i64 0], .bool false]) (by simp [results, Tryd.results19, go_sem, z0, z1, z2]) rfl ?_
    exact ⟨rfl, B.out⟩
  · go_enter Tryd.func19, Tryd.ntmps19
    go_wp2_with (go_at_call 40; refine (btw_any _ _ _ _).mono ?_; rintro e w' ⟨rfl, rfl⟩)
    obtain ⟨W0, hW0⟩ : ∃ z, (((w.alloc (.cells #[.int .i64 X, .int .i64 Y, .int .i64 n0, .int .i64 n1, .int .i64 n2, .int .i64 W, .int .i64 l0, .int .i64 l1, .int .i64 l2, .int .i64 h0, .int .i64 h1, .int .i64 h2] 27)).alloc (.cells #[.int .i64 (q0 + -1), .int .i64 q1, .int .i64 q2] 25)).alloc (.cells #[.int .i64 0, .int .i64 0, .int .i64 0] 25)) = z := ⟨_, rfl⟩
    have HR : Hid (W0.heap[w.heap.size + 1 + 1]? = some (.cells #[.int .i64 0, .int .i64 0, .int .i64 0] 25 (0, 0))) := Lib.hid (by rw [← hW0]; exact blk_new _ _ _ (by simp))
    have HQ : Hid (W0.heap[w.heap.size + 1]? = some (.cells #[.int .i64 (q0 + -1), .int .i64 q1, .int .i64 q2] 25 (0, 0))) := Lib.hid (by rw [← hW0]; exact blk_alloc (blk_new _ _ _ (by simp)) _)
    have B : Hid (Below w.heap.size w W0) := Lib.hid (by rw [← hW0]; go_grown)
    rw [hW0]
    clear hW0
    refine (inlim_is X Y n0 n1 n2 W l0 l1 l2 h0 h1 h2 (q0 + -1) q1 q2 _ _ hf).mono ?_
    rintro e W1 ⟨rfl, hb⟩
    replace HR := Lib.hid (blk_call HR.out hb)
    replace HQ := Lib.hid (blk_call HQ.out hb)
    replace B := Lib.hid (belT B.out hb)
    clear hb
    generalize hr : w.heap.size + 1 + 1 = r at *
    generalize hq : w.heap.size + 1 = q at *
    have NR := Lib.hid (show w.heap.size ≤ r by omega)
    clear hr hq
    have c0 := blk_cell HQ.out 0 _ rfl
    have d0 := blk_cell HR.out 0 _ rfl
    have f0 := blk_fz HR.out 0
    have c1 := blk_cell HQ.out 1 _ rfl
    have d1 := blk_cell HR.out 1 _ rfl
    have f1 := blk_fz HR.out 1
    have c2 := blk_cell HQ.out 2 _ rfl
    have d2 := blk_cell HR.out 2 _ rfl
    have f2 := blk_fz HR.out 2
    go_wp2_with fail
    clear c0 c1 c2 d0 d1 d2 f0 f1 f2
    have HZ : Hid ((((W1.setCell ⟨r, 0, none⟩ (.int .i64 0)).setCell ⟨r, 1, none⟩ (.int .i64 0)).setCell ⟨r, 2, none⟩ (.int .i64 0)).heap[r]? = some (.cells #[.int .i64 0, .int .i64 0, .int .i64 0] 25 (0, 0))) := Lib.hid (blk_set (blk_set (blk_set HR.out _) _) _)
    replace B : Hid (Below w.heap.size w (((W1.setCell ⟨r, 0, none⟩ (.int .i64 0)).setCell ⟨r, 1, none⟩ (.int .i64 0)).setCell ⟨r, 2, none⟩ (.int .i64 0))) := Lib.hid (belS (p := ⟨r, 2, none⟩) (belS (p := ⟨r, 1, none⟩) (belS (p := ⟨r, 0, none⟩) B.out NR.out _) NR.out _) NR.out _)
    generalize (((W1.setCell ⟨r, 0, none⟩ (.int .i64 0)).setCell ⟨r, 1, none⟩ (.int .i64 0)).setCell ⟨r, 2, none⟩ (.int .i64 0)) = W2 at *
    have z0 := blk_cell HZ.out 0 _ rfl
    have z1 := blk_cell HZ.out 1 _ rfl
    have z2 := blk_cell HZ.out 2 _ rfl
    refine bodyPost_ret (v := .tuple #[.agg #[.int .i64 0, .int .i64 0, .int .i64 0], .bool false]) (by simp [results, Tryd.results19, go_sem, z0, z1, z2]) rfl ?_
    exact ⟨rfl, B.out⟩
set_option maxHeartbeats 2000000 in
theorem stepj1_yes (X Y n0 n1 n2 W l0 l1 l2 h0 h1 h2 : Int) (q0 q1 q2 : Int) (s : Int) (w : World) (hs : s = 1 ∨ s = -1) (b0 : -1000 ≤ q0 ∧ q0 ≤ 1000) (b1 : -1000 ≤ q1 ∧ q1 ≤ 1000) (b2 : -1000 ≤ q2 ∧ q2 ≤ 1000) (hf : Hid (fitB l0 l1 l2 h0 h1 h2 q0 (q1 + s) q2 = true)) :
    Calls Tryd.prog 19 #[.agg #[.int .i64 X, .int .i64 Y, .int .i64 n0, .int .i64 n1, .int .i64 n2, .int .i64 W, .int .i64 l0, .int .i64 l1, .int .i64 l2, .int .i64 h0, .int .i64 h1, .int .i64 h2], .agg #[.int .i64 q0, .int .i64 q1, .int .i64 q2], .int .i64 1, .int .i64 s] w fun e w' => e = .returned (.tuple #[.agg #[.int .i64 q0, .int .i64 (q1 + s), .int .i64 q2], .bool true]) ∧ Below w.heap.size w w' := by
  have hs2 : -1 ≤ s ∧ s ≤ 1 := by omega
  rcases hs with rfl | rfl
  · go_enter Tryd.func19, Tryd.ntmps19
    go_wp2_with (go_at_call 40; refine (btw_any _ _ _ _).mono ?_; rintro e w' ⟨rfl, rfl⟩)
    obtain ⟨W0, hW0⟩ : ∃ z, (((w.alloc (.cells #[.int .i64 X, .int .i64 Y, .int .i64 n0, .int .i64 n1, .int .i64 n2, .int .i64 W, .int .i64 l0, .int .i64 l1, .int .i64 l2, .int .i64 h0, .int .i64 h1, .int .i64 h2] 27)).alloc (.cells #[.int .i64 q0, .int .i64 (q1 + 1), .int .i64 q2] 25)).alloc (.cells #[.int .i64 0, .int .i64 0, .int .i64 0] 25)) = z := ⟨_, rfl⟩
    have HR : Hid (W0.heap[w.heap.size + 1 + 1]? = some (.cells #[.int .i64 0, .int .i64 0, .int .i64 0] 25 (0, 0))) := Lib.hid (by rw [← hW0]; exact blk_new _ _ _ (by simp))
    have HQ : Hid (W0.heap[w.heap.size + 1]? = some (.cells #[.int .i64 q0, .int .i64 (q1 + 1), .int .i64 q2] 25 (0, 0))) := Lib.hid (by rw [← hW0]; exact blk_alloc (blk_new _ _ _ (by simp)) _)
    have B : Hid (Below w.heap.size w W0) := Lib.hid (by rw [← hW0]; go_grown)
    rw [hW0]
    clear hW0
    refine (inlim_is X Y n0 n1 n2 W l0 l1 l2 h0 h1 h2 q0 (q1 + 1) q2 _ _ hf).mono ?_
    rintro e W1 ⟨rfl, hb⟩
    replace HR := Lib.hid (blk_call HR.out hb)
    replace HQ := Lib.hid (blk_call HQ.out hb)
    replace B := Lib.hid (belT B.out hb)
    clear hb
    generalize hr : w.heap.size + 1 + 1 = r at *
    generalize hq : w.heap.size + 1 = q at *
    have NR := Lib.hid (show w.heap.size ≤ r by omega)
    clear hr hq
    have c0 := blk_cell HQ.out 0 _ rfl
    have d0 := blk_cell HR.out 0 _ rfl
    have f0 := blk_fz HR.out 0
    have c1 := blk_cell HQ.out 1 _ rfl
    have d1 := blk_cell HR.out 1 _ rfl
    have f1 := blk_fz HR.out 1
    have c2 := blk_cell HQ.out 2 _ rfl
    have d2 := blk_cell HR.out 2 _ rfl
    have f2 := blk_fz HR.out 2
    go_wp2_with fail
    clear c0 c1 c2 d0 d1 d2 f0 f1 f2
    have HZ : Hid ((((W1.setCell ⟨r, 0, none⟩ (.int .i64 q0)).setCell ⟨r, 1, none⟩ (.int .i64 (q1 + 1))).setCell ⟨r, 2, none⟩ (.int .i64 q2)).heap[r]? = some (.cells #[.int .i64 q0, .int .i64 (q1 + 1), .int .i64 q2] 25 (0, 0))) := Lib.hid (blk_set (blk_set (blk_set HR.out _) _) _)
    replace B : Hid (Below w.heap.size w (((W1.setCell ⟨r, 0, none⟩ (.int .i64 q0)).setCell ⟨r, 1, none⟩ (.int .i64 (q1 + 1))).setCell ⟨r, 2, none⟩ (.int .i64 q2))) := Lib.hid (belS (p := ⟨r, 2, none⟩) (belS (p := ⟨r, 1, none⟩) (belS (p := ⟨r, 0, none⟩) B.out NR.out _) NR.out _) NR.out _)
    generalize (((W1.setCell ⟨r, 0, none⟩ (.int .i64 q0)).setCell ⟨r, 1, none⟩ (.int .i64 (q1 + 1))).setCell ⟨r, 2, none⟩ (.int .i64 q2)) = W2 at *
    have z0 := blk_cell HZ.out 0 _ rfl
    have z1 := blk_cell HZ.out 1 _ rfl
    have z2 := blk_cell HZ.out 2 _ rfl
    refine bodyPost_ret (v := .tuple #[.agg #[.int .i64 q0, .int .i64 (q1 + 1), .int .i64 q2], .bool true]) (by simp [results, Tryd.results19, go_sem, z0, z1, z2]) rfl ?_
    exact ⟨rfl, B.out⟩
  · go_enter Tryd.func19, Tryd.ntmps19
    go_wp2_with (go_at_call 40; refine (btw_any _ _ _ _).mono ?_; rintro e w' ⟨rfl, rfl⟩)
    obtain ⟨W0, hW0⟩ : ∃ z, (((w.alloc (.cells #[.int .i64 X, .int .i64 Y, .int .i64 n0, .int .i64 n1, .int .i64 n2, .int .i64 W, .int .i64 l0, .int .i64 l1, .int .i64 l2, .int .i64 h0, .int .i64 h1, .int .i64 h2] 27)).alloc (.cells #[.int .i64 q0, .int .i64 (q1 + -1), .int .i64 q2] 25)).alloc (.cells #[.int .i64 0, .int .i64 0, .int .i64 0] 25)) = z := ⟨_, rfl⟩
    have HR : Hid (W0.heap[w.heap.size + 1 + 1]? = some (.cells #[.int .i64 0, .int .i64 0, .int .i64 0] 25 (0, 0))) := Lib.hid (by rw [← hW0]; exact blk_new _ _ _ (by simp))
    have HQ : Hid (W0.heap[w.heap.size + 1]? = some (.cells #[.int .i64 q0, .int .i64 (q1 + -1), .int .i64 q2] 25 (0, 0))) := Lib.hid (by rw [← hW0]; exact blk_alloc (blk_new _ _ _ (by simp)) _)
    have B : Hid (Below w.heap.size w W0) := Lib.hid (by rw [← hW0]; go_grown)
    rw [hW0]
    clear hW0
    refine (inlim_is X Y n0 n1 n2 W l0 l1 l2 h0 h1 h2 q0 (q1 + -1) q2 _ _ hf).mono ?_
    rintro e W1 ⟨rfl, hb⟩
    replace HR := Lib.hid (blk_call HR.out hb)
    replace HQ := Lib.hid (blk_call HQ.out hb)
    replace B := Lib.hid (belT B.out hb)
    clear hb
    generalize hr : w.heap.size + 1 + 1 = r at *
    generalize hq : w.heap.size + 1 = q at *
    have NR := Lib.hid (show w.heap.size ≤ r by omega)
    clear hr hq
    have c0 := blk_cell HQ.out 0 _ rfl
    have d0 := blk_cell HR.out 0 _ rfl
    have f0 := blk_fz HR.out 0
    have c1 := blk_cell HQ.out 1 _ rfl
    have d1 := blk_cell HR.out 1 _ rfl
    have f1 := blk_fz HR.out 1
    have c2 := blk_cell HQ.out 2 _ rfl
    have d2 := blk_cell HR.out 2 _ rfl
    have f2 := blk_fz HR.out 2
    go_wp2_with fail
    clear c0 c1 c2 d0 d1 d2 f0 f1 f2
    have HZ : Hid ((((W1.setCell ⟨r, 0, none⟩ (.int .i64 q0)).setCell ⟨r, 1, none⟩ (.int .i64 (q1 + -1))).setCell ⟨r, 2, none⟩ (.int .i64 q2)).heap[r]? = some (.cells #[.int .i64 q0, .int .i64 (q1 + -1), .int .i64 q2] 25 (0, 0))) := Lib.hid (blk_set (blk_set (blk_set HR.out _) _) _)
    replace B : Hid (Below w.heap.size w (((W1.setCell ⟨r, 0, none⟩ (.int .i64 q0)).setCell ⟨r, 1, none⟩ (.int .i64 (q1 + -1))).setCell ⟨r, 2, none⟩ (.int .i64 q2))) := Lib.hid (belS (p := ⟨r, 2, none⟩) (belS (p := ⟨r, 1, none⟩) (belS (p := ⟨r, 0, none⟩) B.out NR.out _) NR.out _) NR.out _)
    generalize (((W1.setCell ⟨r, 0, none⟩ (.int .i64 q0)).setCell ⟨r, 1, none⟩ (.int .i64 (q1 + -1))).setCell ⟨r, 2, none⟩ (.int .i64 q2)) = W2 at *
    have z0 := blk_cell HZ.out 0 _ rfl
    have z1 := blk_cell HZ.out 1 _ rfl
    have z2 := blk_cell HZ.out 2 _ rfl
    refine bodyPost_ret (v := .tuple #[.agg #[.int .i64 q0, .int .i64 (q1 + -1), .int .i64 q2], .bool true]) (by simp [results, Tryd.results19, go_sem, z0, z1, z2]) rfl ?_
    exact ⟨rfl, B.out⟩
set_option maxHeartbeats 2000000 in
theorem stepj2_no (X Y n0 n1 n2 W l0 l1 l2 h0 h1 h2 : Int) (q0 q1 q2 : Int) (s : Int) (w : World) (hs : s = 1 ∨ s = -1) (b0 : -1000 ≤ q0 ∧ q0 ≤ 1000) (b1 : -1000 ≤ q1 ∧ q1 ≤ 1000) (b2 : -1000 ≤ q2 ∧ q2 ≤ 1000) (hf : Hid (fitB l0 l1 l2 h0 h1 h2 q0 q1 (q2 + s) = false)) :
    Calls Tryd.prog 19 #[.agg #[.int .i64 X, .int .i64 Y, .int .i64 n0, .int .i64 n1, .int .i64 n2, .int .i64 W, .int .i64 l0, .int .i64 l1, .int .i64 l2, .int .i64 h0, .int .i64 h1, .int .i64 h2], .agg #[.int .i64 q0, .int .i64 q1, .int .i64 q2], .int .i64 2, .int .i64 s] w fun e w' => e = .returned (.tuple #[.agg #[.int .i64 0, .int .i64 0, .int .i64 0], .bool false]) ∧ Below w.heap.size w w' := by
  have hs2 : -1 ≤ s ∧ s ≤ 1 := by omega
  rcases hs with rfl | rfl
  · go_enter Tryd.func19, Tryd.ntmps19
    go_wp2_with (go_at_call 40; refine (btw_any _ _ _ _).mono ?_; rintro e w' ⟨rfl, rfl⟩)
    obtain ⟨W0, hW0⟩ : ∃ z, (((w.alloc (.cells #[.int .i64 X, .int .i64 Y, .int .i64 n0, .int .i64 n1, .int .i64 n2, .int .i64 W, .int .i64 l0, .int .i64 l1, .int .i64 l2, .int .i64 h0, .int .i64 h1, .int .i64 h2] 27)).alloc (.cells #[.int .i64 q0, .int .i64 q1, .int .i64 (q2 + 1)] 25)).alloc (.cells #[.int .i64 0, .int .i64 0, .int .i64 0] 25)) = z := ⟨_, rfl⟩
    have HR : Hid (W0.heap[w.heap.size + 1 + 1]? = some (.cells #[.int .i64 0, .int .i64 0, .int .i64 0] 25 (0, 0))) := Lib.hid (by rw [← hW0]; exact blk_new _ _ _ (by simp))
    have HQ : Hid (W0.heap[w.heap.size + 1]? = some (.cells #[.int .i64 q0, .int .i64 q1, .int .i64 (q2 + 1)] 25 (0, 0))) := Lib.hid (by rw [← hW0]; exact blk_alloc (blk_new _ _ _ (by simp)) _)
    have B : Hid (Below w.heap.size w W0) := Lib.hid (by rw [← hW0]; go_grown)
    rw [hW0]
    clear hW0
    refine (inlim_is X Y n0 n1 n2 W l0 l1 l2 h0 h1 h2 q0 q1 (q2 + 1) _ _ hf).mono ?_
    rintro e W1 ⟨rfl, hb⟩
    replace HR := Lib.hid (blk_call HR.out hb)
    replace HQ := Lib.hid (blk_call HQ.out hb)
    replace B := Lib.hid (belT B.out hb)
    clear hb
    generalize hr : w.heap.size + 1 + 1 = r at *
    generalize hq : w.heap.size + 1 = q at *
    have NR := Lib.hid (show w.heap.size ≤ r by omega)
    clear hr hq
    have c0 := blk_cell HQ.out 0 _ rfl
    have d0 := blk_cell HR.out 0 _ rfl
    have f0 := blk_fz HR.out 0
    have c1 := blk_cell HQ.out 1 _ rfl
    have d1 := blk_cell HR.out 1 _ rfl
    have f1 := blk_fz HR.out 1
    have c2 := blk_cell HQ.out 2 _ rfl
    have d2 := blk_cell HR.out 2 _ rfl
    have f2 := blk_fz HR.out 2
    go_wp2_with fail
    clear c0 c1 c2 d0 d1 d2 f0 f1 f2
    have HZ : Hid ((((W1.setCell ⟨r, 0, none⟩ (.int .i64 0)).setCell ⟨r, 1, none⟩ (.int .i64 0)).setCell ⟨r, 2, none⟩ (.int .i64 0)).heap[r]? = some (.cells #[.int .i64 0, .int .i64 0, .int .i64 0] 25 (0, 0))) := Lib.hid (blk_set (blk_set (blk_set HR.out _) _) _)
    replace B : Hid (Below w.heap.size w (((W1.setCell ⟨r, 0, none⟩ (.int .i64 0)).setCell ⟨r, 1, none⟩ (.int .i64 0)).setCell ⟨r, 2, none⟩ (.int .i64 0))) := Lib.hid (belS (p := ⟨r, 2, none⟩) (belS (p := ⟨r, 1, none⟩) (belS (p := ⟨r, 0, none⟩) B.out NR.out _) NR.out _) NR.out _)
    generalize (((W1.setCell ⟨r, 0, none⟩ (.int .i64 0)).setCell ⟨r, 1, none⟩ (.int .i64 0)).setCell ⟨r, 2, none⟩ (.int .i64 0)) = W2 at *
    have z0 := blk_cell HZ.out 0 _ rfl
    have z1 := blk_cell HZ.out 1 _ rfl
    have z2 := blk_cell HZ.out 2 _ rfl
    refine bodyPost_ret (v := .tuple #[.agg #[.int .i64 0, .int .i64 0, .int .i64 0], .bool false]) (by simp [results, Tryd.results19, go_sem, z0, z1, z2]) rfl ?_
    exact ⟨rfl, B.out⟩
  · go_enter Tryd.func19, Tryd.ntmps19
    go_wp2_with (go_at_call 40; refine (btw_any _ _ _ _).mono ?_; rintro e w' ⟨rfl, rfl⟩)
    obtain ⟨W0, hW0⟩ : ∃ z, (((w.alloc (.cells #[.int .i64 X, .int .i64 Y, .int .i64 n0, .int .i64 n1, .int .i64 n2, .int .i64 W, .int .i64 l0, .int .i64 l1, .int .i64 l2, .int .i64 h0, .int .i64 h1, .int .i64 h2] 27)).alloc (.cells #[.int .i64 q0, .int .i64 q1, .int .i64 (q2 + -1)] 25)).alloc (.cells #[.int .i64 0, .int .i64 0, .int .i64 0] 25)) = z := ⟨_, rfl⟩
    have HR : Hid (W0.heap[w.heap.size + 1 + 1]? = some (.cells #[.int .i64 0, .int .i64 0, .int .i64 0] 25 (0, 0))) := Lib.hid (by rw [← hW0]; exact blk_new _ _ _ (by simp))
    have HQ : Hid (W0.heap[w.heap.size + 1]? = some (.cells #[.int .i64 q0, .int .i64 q1, .int .i64 (q2 + -1)] 25 (0, 0))) := Lib.hid (by rw [← hW0]; exact blk_alloc (blk_new _ _ _ (by simp)) _)
    have B : Hid (Below w.heap.size w W0) := Lib.hid (by rw [← hW0]; go_grown)
    rw [hW0]
    clear hW0
    refine (inlim_is X Y n0 n1 n2 W l0 l1 l2 h0 h1 h2 q0 q1 (q2 + -1) _ _ hf).mono ?_
    rintro e W1 ⟨rfl, hb⟩
    replace HR := Lib.hid (blk_call HR.out hb)
    replace HQ := Lib.hid (blk_call HQ.out hb)
    replace B := Lib.hid (belT B.out hb)
    clear hb
    generalize hr : w.heap.size + 1 + 1 = r at *
    generalize hq : w.heap.size + 1 = q at *
    have NR := Lib.hid (show w.heap.size ≤ r by omega)
    clear hr hq
    have c0 := blk_cell HQ.out 0 _ rfl
    have d0 := blk_cell HR.out 0 _ rfl
    have f0 := blk_fz HR.out 0
    have c1 := blk_cell HQ.out 1 _ rfl
    have d1 := blk_cell HR.out 1 _ rfl
    have f1 := blk_fz HR.out 1
    have c2 := blk_cell HQ.out 2 _ rfl
    have d2 := blk_cell HR.out 2 _ rfl
    have f2 := blk_fz HR.out 2
    go_wp2_with fail
    clear c0 c1 c2 d0 d1 d2 f0 f1 f2
    have HZ : Hid ((((W1.setCell ⟨r, 0, none⟩ (.int .i64 0)).setCell ⟨r, 1, none⟩ (.int .i64 0)).setCell ⟨r, 2, none⟩ (.int .i64 0)).heap[r]? = some (.cells #[.int .i64 0, .int .i64 0, .int .i64 0] 25 (0, 0))) := Lib.hid (blk_set (blk_set (blk_set HR.out _) _) _)
    replace B : Hid (Below w.heap.size w (((W1.setCell ⟨r, 0, none⟩ (.int .i64 0)).setCell ⟨r, 1, none⟩ (.int .i64 0)).setCell ⟨r, 2, none⟩ (.int .i64 0))) := Lib.hid (belS (p := ⟨r, 2, none⟩) (belS (p := ⟨r, 1, none⟩) (belS (p := ⟨r, 0, none⟩) B.out NR.out _) NR.out _) NR.out _)
    generalize (((W1.setCell ⟨r, 0, none⟩ (.int .i64 0)).setCell ⟨r, 1, none⟩ (.int .i64 0)).setCell ⟨r, 2, none⟩ (.int .i64 0)) = W2 at *
    have z0 := blk_cell HZ.out 0 _ rfl
    have z1 := blk_cell HZ.out 1 _ rfl
    have z2 := blk_cell HZ.out 2 _ rfl
    refine bodyPost_ret (v := .tuple #[.agg #[.int .i64 0, .int .i64 0, .int .i64 0], .bool false]) (by simp [results, Tryd.results19, go_sem, z0, z1, z2]) rfl ?_
    exact ⟨rfl, B.out⟩
end Go.Proofs.YtalhkcmlacppjaaDoor

namespace Go.Proofs.YtalhkcmlacppjaaDoor
open Go.ChangeShapes Go.WideShapes Go.ChangeAt Go.RowKit
set_option linter.unusedVariables false
set_option linter.unusedSimpArgs false
set_option maxRecDepth 100000

set_option maxHeartbeats 2000000 in
/-- Four corners each: are they the same? -/
theorem same4_is (g h : Nat) (r0 r1 r2 r3 r4 r5 r6 r7 : Int) (w : World) (hP : PRow w (some ⟨g, 0, none⟩) [(r0, r1), (r2, r3), (r4, r5), (r6, r7)]) (hM : PRow w (some ⟨h, 0, none⟩) [(r0, r1), (r2, r3), (r4, r5), (r6, r7)]) :
    Calls Tryd.prog 18 #[.slice (some ⟨g, 0, none⟩) 4 4, .slice (some ⟨h, 0, none⟩) 4 4] w fun e w' => e = .returned (.bool true) ∧ Below w.heap.size w w' := by
  obtain ⟨a0, a1⟩ := prow_c hP 0 (by simp) 0 1 rfl rfl
  obtain ⟨a2, a3⟩ := prow_c hP 1 (by simp) 2 3 rfl rfl
  obtain ⟨a4, a5⟩ := prow_c hP 2 (by simp) 4 5 rfl rfl
  obtain ⟨a6, a7⟩ := prow_c hP 3 (by simp) 6 7 rfl rfl
  obtain ⟨b0, b1⟩ := prow_c hM 0 (by simp) 0 1 rfl rfl
  obtain ⟨b2, b3⟩ := prow_c hM 1 (by simp) 2 3 rfl rfl
  obtain ⟨b4, b5⟩ := prow_c hM 2 (by simp) 4 5 rfl rfl
  obtain ⟨b6, b7⟩ := prow_c hM 3 (by simp) 6 7 rfl rfl
  simp only [List.getD_cons_zero, List.getD_cons_succ] at a0 a1 a2 a3 a4 a5 a6 a7 b0 b1 b2 b3 b4 b5 b6 b7
  have B : Hid (Below w.heap.size w w) := Lib.hid (Below.refl _ _)
  clear hP hM
  go_enter Tryd.func18, Tryd.ntmps18
  go_wp2_with fail
  refine wp_loop_rounds 5 ?_
  rw [rounds_succ]
  go_wp2_with fail
  go_quiet (fail)
  obtain ⟨W0, hW⟩ : ∃ x, w.drewN nq = x := ⟨_, rfl⟩
  rw [hW]
  replace a0 : W0.cell? ⟨g, 0, none⟩ = some (.int .i64 r0) := by rw [← hW]; exact a0
  replace b0 : W0.cell? ⟨h, 0, none⟩ = some (.int .i64 r0) := by rw [← hW]; exact b0
  replace a1 : W0.cell? ⟨g, 1, none⟩ = some (.int .i64 r1) := by rw [← hW]; exact a1
  replace b1 : W0.cell? ⟨h, 1, none⟩ = some (.int .i64 r1) := by rw [← hW]; exact b1
  replace a2 : W0.cell? ⟨g, 2, none⟩ = some (.int .i64 r2) := by rw [← hW]; exact a2
  replace b2 : W0.cell? ⟨h, 2, none⟩ = some (.int .i64 r2) := by rw [← hW]; exact b2
  replace a3 : W0.cell? ⟨g, 3, none⟩ = some (.int .i64 r3) := by rw [← hW]; exact a3
  replace b3 : W0.cell? ⟨h, 3, none⟩ = some (.int .i64 r3) := by rw [← hW]; exact b3
  replace a4 : W0.cell? ⟨g, 4, none⟩ = some (.int .i64 r4) := by rw [← hW]; exact a4
  replace b4 : W0.cell? ⟨h, 4, none⟩ = some (.int .i64 r4) := by rw [← hW]; exact b4
  replace a5 : W0.cell? ⟨g, 5, none⟩ = some (.int .i64 r5) := by rw [← hW]; exact a5
  replace b5 : W0.cell? ⟨h, 5, none⟩ = some (.int .i64 r5) := by rw [← hW]; exact b5
  replace a6 : W0.cell? ⟨g, 6, none⟩ = some (.int .i64 r6) := by rw [← hW]; exact a6
  replace b6 : W0.cell? ⟨h, 6, none⟩ = some (.int .i64 r6) := by rw [← hW]; exact b6
  replace a7 : W0.cell? ⟨g, 7, none⟩ = some (.int .i64 r7) := by rw [← hW]; exact a7
  replace b7 : W0.cell? ⟨h, 7, none⟩ = some (.int .i64 r7) := by rw [← hW]; exact b7
  replace B : Hid (Below w.heap.size w W0) := Lib.hid (by rw [← hW]; exact below_drewN B.out _)
  clear hW
  go_wp2_with fail
  rw [rounds_succ]
  go_wp2_with fail
  go_quiet (fail)
  obtain ⟨W1, hW⟩ : ∃ x, W0.drewN nq = x := ⟨_, rfl⟩
  rw [hW]
  replace a0 : W1.cell? ⟨g, 0, none⟩ = some (.int .i64 r0) := by rw [← hW]; exact a0
  replace b0 : W1.cell? ⟨h, 0, none⟩ = some (.int .i64 r0) := by rw [← hW]; exact b0
  replace a1 : W1.cell? ⟨g, 1, none⟩ = some (.int .i64 r1) := by rw [← hW]; exact a1
  replace b1 : W1.cell? ⟨h, 1, none⟩ = some (.int .i64 r1) := by rw [← hW]; exact b1
  replace a2 : W1.cell? ⟨g, 2, none⟩ = some (.int .i64 r2) := by rw [← hW]; exact a2
  replace b2 : W1.cell? ⟨h, 2, none⟩ = some (.int .i64 r2) := by rw [← hW]; exact b2
  replace a3 : W1.cell? ⟨g, 3, none⟩ = some (.int .i64 r3) := by rw [← hW]; exact a3
  replace b3 : W1.cell? ⟨h, 3, none⟩ = some (.int .i64 r3) := by rw [← hW]; exact b3
  replace a4 : W1.cell? ⟨g, 4, none⟩ = some (.int .i64 r4) := by rw [← hW]; exact a4
  replace b4 : W1.cell? ⟨h, 4, none⟩ = some (.int .i64 r4) := by rw [← hW]; exact b4
  replace a5 : W1.cell? ⟨g, 5, none⟩ = some (.int .i64 r5) := by rw [← hW]; exact a5
  replace b5 : W1.cell? ⟨h, 5, none⟩ = some (.int .i64 r5) := by rw [← hW]; exact b5
  replace a6 : W1.cell? ⟨g, 6, none⟩ = some (.int .i64 r6) := by rw [← hW]; exact a6
  replace b6 : W1.cell? ⟨h, 6, none⟩ = some (.int .i64 r6) := by rw [← hW]; exact b6
  replace a7 : W1.cell? ⟨g, 7, none⟩ = some (.int .i64 r7) := by rw [← hW]; exact a7
  replace b7 : W1.cell? ⟨h, 7, none⟩ = some (.int .i64 r7) := by rw [← hW]; exact b7
  replace B : Hid (Below w.heap.size w W1) := Lib.hid (by rw [← hW]; exact below_drewN B.out _)
  clear hW
  go_wp2_with fail
  rw [rounds_succ]
  go_wp2_with fail
  go_quiet (fail)
  obtain ⟨W2, hW⟩ : ∃ x, W1.drewN nq = x := ⟨_, rfl⟩
  rw [hW]
  replace a0 : W2.cell? ⟨g, 0, none⟩ = some (.int .i64 r0) := by rw [← hW]; exact a0
  replace b0 : W2.cell? ⟨h, 0, none⟩ = some (.int .i64 r0) := by rw [← hW]; exact b0
  replace a1 : W2.cell? ⟨g, 1, none⟩ = some (.int .i64 r1) := by rw [← hW]; exact a1
  replace b1 : W2.cell? ⟨h, 1, none⟩ = some (.int .i64 r1) := by rw [← hW]; exact b1
  replace a2 : W2.cell? ⟨g, 2, none⟩ = some (.int .i64 r2) := by rw [← hW]; exact a2
  replace b2 : W2.cell? ⟨h, 2, none⟩ = some (.int .i64 r2) := by rw [← hW]; exact b2
  replace a3 : W2.cell? ⟨g, 3, none⟩ = some (.int .i64 r3) := by rw [← hW]; exact a3
  replace b3 : W2.cell? ⟨h, 3, none⟩ = some (.int .i64 r3) := by rw [← hW]; exact b3
  replace a4 : W2.cell? ⟨g, 4, none⟩ = some (.int .i64 r4) := by rw [← hW]; exact a4
  replace b4 : W2.cell? ⟨h, 4, none⟩ = some (.int .i64 r4) := by rw [← hW]; exact b4
  replace a5 : W2.cell? ⟨g, 5, none⟩ = some (.int .i64 r5) := by rw [← hW]; exact a5
  replace b5 : W2.cell? ⟨h, 5, none⟩ = some (.int .i64 r5) := by rw [← hW]; exact b5
  replace a6 : W2.cell? ⟨g, 6, none⟩ = some (.int .i64 r6) := by rw [← hW]; exact a6
  replace b6 : W2.cell? ⟨h, 6, none⟩ = some (.int .i64 r6) := by rw [← hW]; exact b6
  replace a7 : W2.cell? ⟨g, 7, none⟩ = some (.int .i64 r7) := by rw [← hW]; exact a7
  replace b7 : W2.cell? ⟨h, 7, none⟩ = some (.int .i64 r7) := by rw [← hW]; exact b7
  replace B : Hid (Below w.heap.size w W2) := Lib.hid (by rw [← hW]; exact below_drewN B.out _)
  clear hW
  go_wp2_with fail
  rw [rounds_succ]
  go_wp2_with fail
  go_quiet (fail)
  obtain ⟨W3, hW⟩ : ∃ x, W2.drewN nq = x := ⟨_, rfl⟩
  rw [hW]
  replace a0 : W3.cell? ⟨g, 0, none⟩ = some (.int .i64 r0) := by rw [← hW]; exact a0
  replace b0 : W3.cell? ⟨h, 0, none⟩ = some (.int .i64 r0) := by rw [← hW]; exact b0
  replace a1 : W3.cell? ⟨g, 1, none⟩ = some (.int .i64 r1) := by rw [← hW]; exact a1
  replace b1 : W3.cell? ⟨h, 1, none⟩ = some (.int .i64 r1) := by rw [← hW]; exact b1
  replace a2 : W3.cell? ⟨g, 2, none⟩ = some (.int .i64 r2) := by rw [← hW]; exact a2
  replace b2 : W3.cell? ⟨h, 2, none⟩ = some (.int .i64 r2) := by rw [← hW]; exact b2
  replace a3 : W3.cell? ⟨g, 3, none⟩ = some (.int .i64 r3) := by rw [← hW]; exact a3
  replace b3 : W3.cell? ⟨h, 3, none⟩ = some (.int .i64 r3) := by rw [← hW]; exact b3
  replace a4 : W3.cell? ⟨g, 4, none⟩ = some (.int .i64 r4) := by rw [← hW]; exact a4
  replace b4 : W3.cell? ⟨h, 4, none⟩ = some (.int .i64 r4) := by rw [← hW]; exact b4
  replace a5 : W3.cell? ⟨g, 5, none⟩ = some (.int .i64 r5) := by rw [← hW]; exact a5
  replace b5 : W3.cell? ⟨h, 5, none⟩ = some (.int .i64 r5) := by rw [← hW]; exact b5
  replace a6 : W3.cell? ⟨g, 6, none⟩ = some (.int .i64 r6) := by rw [← hW]; exact a6
  replace b6 : W3.cell? ⟨h, 6, none⟩ = some (.int .i64 r6) := by rw [← hW]; exact b6
  replace a7 : W3.cell? ⟨g, 7, none⟩ = some (.int .i64 r7) := by rw [← hW]; exact a7
  replace b7 : W3.cell? ⟨h, 7, none⟩ = some (.int .i64 r7) := by rw [← hW]; exact b7
  replace B : Hid (Below w.heap.size w W3) := Lib.hid (by rw [← hW]; exact below_drewN B.out _)
  clear hW
  go_wp2_with fail
  rw [rounds_succ]
  go_wp2_with fail
  go_ret
  exact ⟨rfl, B.out⟩
end Go.Proofs.YtalhkcmlacppjaaDoor

namespace Go.Proofs.YtalhkcmlacppjaaDoor
open Go.ChangeShapes Go.WideShapes Go.ChangeAt Go.RowKit
set_option linter.unusedVariables false
set_option linter.unusedSimpArgs false
set_option maxRecDepth 100000

theorem vOne : Hid (armB 0 0 1 1 1 1 (-17) (-17) (-17) 18 18 18 = true) := Lib.hid (by decide)

set_option maxHeartbeats 4000000 in
theorem head7_is (w : World) (hT : Tab w) : Calls Tryd.prog 10 #[] w fun e w' => e = .returned (.bool true) ∧ Below w.heap.size w w' := by
  have B := Lib.hid (Below.refl w.heap.size w)
  have TT := Lib.hid hT
  clear hT
  go_enter Tryd.func10, Tryd.ntmps10
  go_wp2_with fail
  refine (one_is _).mono ?_
  rintro e w1 ⟨rfl, hb1⟩
  replace B := Lib.hid (belT B.out hb1)
  replace TT := Lib.hid (Tab.below TT.out hb1)
  clear hb1
  go_upto_region 2 with fail
  have HA := Lib.hid (blk_new w1 (.cells #[.int .i64 0, .int .i64 0, .int .i64 1, .int .i64 1, .int .i64 1, .int .i64 1, .int .i64 (-17), .int .i64 (-17), .int .i64 (-17), .int .i64 18, .int .i64 18, .int .i64 18] 27) (w1.heap.size) rfl)
  replace B := Lib.hid (belA B.out (.cells #[.int .i64 0, .int .i64 0, .int .i64 1, .int .i64 1, .int .i64 1, .int .i64 1, .int .i64 (-17), .int .i64 (-17), .int .i64 (-17), .int .i64 18, .int .i64 18, .int .i64 18] 27))
  replace TT := Lib.hid (Tab.alloc TT.out (.cells #[.int .i64 0, .int .i64 0, .int .i64 1, .int .i64 1, .int .i64 1, .int .i64 1, .int .i64 (-17), .int .i64 (-17), .int .i64 (-17), .int .i64 18, .int .i64 18, .int .i64 18] 27))
  generalize (w1.alloc (.cells #[.int .i64 0, .int .i64 0, .int .i64 1, .int .i64 1, .int .i64 1, .int .i64 1, .int .i64 (-17), .int .i64 (-17), .int .i64 (-17), .int .i64 18, .int .i64 18, .int .i64 18] 27)) = W1 at *
  obtain ⟨a, ha⟩ : ∃ a, w1.heap.size = a := ⟨_, rfl⟩
  rw [ha] at HA ⊢
  clear ha
  obtain ⟨sp, hsp⟩ : ∃ sp : ToldS, sp = [none, none, some (newS W1.heap.size #[.int .i64 0, .int .i64 0, .int .i64 0, .int .i64 0, .int .i64 0, .int .i64 0, .int .i64 0, .int .i64 0] 44), some (newS W1.heap.size #[.int .i64 0, .int .i64 0, .int .i64 0, .int .i64 0, .int .i64 0, .int .i64 0, .int .i64 0, .int .i64 0] 44), none, none, none, none, none, none, none, none, none, none, some (eqS (.agg #[.int .i64 0, .int .i64 0, .int .i64 1, .int .i64 1, .int .i64 1, .int .i64 1, .int .i64 (-17), .int .i64 (-17), .int .i64 (-17), .int .i64 18, .int .i64 18, .int .i64 18])), some (eqS (.agg #[.int .i64 0, .int .i64 0, .int .i64 0])), some (eqS (.agg #[.int .i64 0, .int .i64 0, .int .i64 4394000, .int .i64 0, .int .i64 8788000, .int .i64 0, .int .i64 13182000, .int .i64 0])), some (eqS (.agg #[.int .i64 0, .int .i64 0, .int .i64 1, .int .i64 1, .int .i64 1, .int .i64 1, .int .i64 (-17), .int .i64 (-17), .int .i64 (-17), .int .i64 18, .int .i64 18, .int .i64 18])), some (eqS (.agg #[.int .i64 9, .int .i64 0, .int .i64 (-9)])), some (eqS (.agg #[.int .i64 0, .int .i64 0, .int .i64 0, .int .i64 4394000, .int .i64 0, .int .i64 8788000, .int .i64 4394000, .int .i64 8788000]))] := ⟨_, rfl⟩
  have s2 : sp.getD 2 none = some (newS W1.heap.size #[.int .i64 0, .int .i64 0, .int .i64 0, .int .i64 0, .int .i64 0, .int .i64 0, .int .i64 0, .int .i64 0] 44) := by rw [hsp]; rfl
  have s3 : sp.getD 3 none = some (newS W1.heap.size #[.int .i64 0, .int .i64 0, .int .i64 0, .int .i64 0, .int .i64 0, .int .i64 0, .int .i64 0, .int .i64 0] 44) := by rw [hsp]; rfl
  have s14 : sp.getD 14 none = some (eqS (.agg #[.int .i64 0, .int .i64 0, .int .i64 1, .int .i64 1, .int .i64 1, .int .i64 1, .int .i64 (-17), .int .i64 (-17), .int .i64 (-17), .int .i64 18, .int .i64 18, .int .i64 18])) := by rw [hsp]; rfl
  have s15 : sp.getD 15 none = some (eqS (.agg #[.int .i64 0, .int .i64 0, .int .i64 0])) := by rw [hsp]; rfl
  have s16 : sp.getD 16 none = some (eqS (.agg #[.int .i64 0, .int .i64 0, .int .i64 4394000, .int .i64 0, .int .i64 8788000, .int .i64 0, .int .i64 13182000, .int .i64 0])) := by rw [hsp]; rfl
  have s17 : sp.getD 17 none = some (eqS (.agg #[.int .i64 0, .int .i64 0, .int .i64 1, .int .i64 1, .int .i64 1, .int .i64 1, .int .i64 (-17), .int .i64 (-17), .int .i64 (-17), .int .i64 18, .int .i64 18, .int .i64 18])) := by rw [hsp]; rfl
  have s18 : sp.getD 18 none = some (eqS (.agg #[.int .i64 9, .int .i64 0, .int .i64 (-9)])) := by rw [hsp]; rfl
  have s19 : sp.getD 19 none = some (eqS (.agg #[.int .i64 0, .int .i64 0, .int .i64 0, .int .i64 4394000, .int .i64 0, .int .i64 8788000, .int .i64 4394000, .int .i64 8788000])) := by rw [hsp]; rfl
  clear hsp
  refine (wpIn_wide (n := 0)).1 (region_headF (FS := [2, 3]) (RtS sp) (rtS_keep sp) (fun t v w ht h => by rcases (by simpa using ht : t = 2 ∨ t = 3) with rfl | rfl <;> first | exact newS_fresh s2 h | exact newS_fresh s3 h) 8 rfl rfl rfl (by kernel_rfl) (by decide) (by kernel_rfl) (by kernel_rfl) (by kernel_rfl) ?_ ?_)
  · intro Q'; show ObsF _ _ _ _ _ _ _ _ _ (List.take _ _); simp only [List.take_succ_cons, List.take_zero]
    refine obsF_cons (obF_of ?_ (by intro d e; cases e; decide)) ?_
    · intro T wx K hB hF hD hK
      have g1 : T[1]? = some (.pointer (some ⟨a, 0, none⟩)) := hF 1 (freeM_of (by kernel_rfl))
      refine ob_yes (wanted_none rfl) ?_
      clear hF hD
      exact wp_load_row 27 (.tmp 1) rfl a (eval_tmp g1) _ _ _ _ (blk_call HA.out hB) Tryd.underlying27 rfl (by kernel_rfl) (hK _ _ (Below.refl _ _) (rt_eqS s14))
    refine obsF_cons (obF_of ?_ (by intro d e; cases e; decide)) ?_
    · intro T wx K hB hF hD hK
      refine ob_yes (wanted_none rfl) ?_
      clear hF hD
      go_simp
      exact hK _ _ (Below.refl _ _) (rt_eqS s15)
    refine obsF_cons (obF_of ?_ (by intro d e; cases e; decide)) ?_
    · intro T wx K hB hF hD hK
      have g14 := get_eqS (hD 0 14 (by simp [Region.binds]) (by kernel_rfl)) s14
      have g15 := get_eqS (hD 1 15 (by simp [Region.binds]) (by kernel_rfl)) s15
      refine ob_yes (wanted_none rfl) ?_
      clear hF hD
      go_simp
      refine (jpts_is 0 0 1 1 1 1 (-17) (-17) (-17) 18 18 18 0 0 0 65 4225 274625 0 0 0 4394000 4394000 4394000 0 0 0 4394000 8788000 13182000 0 0 0 _ (TT.out.below hB) (by omega) (by omega) (by omega) vOne (Lib.hid ⟨by decide +kernel, by decide +kernel, by decide +kernel, by decide, by decide, by decide, by decide, by decide, by decide⟩)).mono ?_; rintro e w9 ⟨rfl, hb⟩
      exact hK _ _ hb (rt_eqS s16)
    refine obsF_cons (obF_of ?_ (by intro d e; cases e; decide)) ?_
    · intro T wx K hB hF hD hK
      have g1 : T[1]? = some (.pointer (some ⟨a, 0, none⟩)) := hF 1 (freeM_of (by kernel_rfl))
      refine ob_yes (wanted_none rfl) ?_
      clear hF hD
      exact wp_load_row 27 (.tmp 1) rfl a (eval_tmp g1) _ _ _ _ (blk_call HA.out hB) Tryd.underlying27 rfl (by kernel_rfl) (hK _ _ (Below.refl _ _) (rt_eqS s17))
    refine obsF_cons (obF_of ?_ (by intro d e; cases e; decide)) ?_
    · intro T wx K hB hF hD hK
      refine ob_yes (wanted_none rfl) ?_
      clear hF hD
      go_simp
      exact hK _ _ (Below.refl _ _) (rt_eqS s18)
    refine obsF_cons (obF_of ?_ (by intro d e; cases e; decide)) ?_
    · intro T wx K hB hF hD hK
      have g17 := get_eqS (hD 3 17 (by simp [Region.binds]) (by kernel_rfl)) s17
      have g18 := get_eqS (hD 4 18 (by simp [Region.binds]) (by kernel_rfl)) s18
      refine ob_yes (wanted_none rfl) ?_
      clear hF hD
      go_simp
      refine (jpts_is 0 0 1 1 1 1 (-17) (-17) (-17) 18 18 18 9 0 (-9) 0 0 274625 65 4225 0 0 0 4394000 4394000 4394000 0 0 0 4394000 4394000 8788000 8788000 _ (TT.out.below hB) (by omega) (by omega) (by omega) vOne (Lib.hid ⟨by decide +kernel, by decide +kernel, by decide +kernel, by decide, by decide, by decide, by decide, by decide, by decide⟩)).mono ?_; rintro e w9 ⟨rfl, hb⟩
      exact hK _ _ hb (rt_eqS s19)
    refine obsF_cons ?_ ?_
    · intro T wx K hB hF hD hK
      refine ob_yes (wanted_none rfl) ?_
      clear hF hD
      go_simp
      exact hK _ _ (belA (Below.refl _ _) _) (fun d e => by cases e; exact ⟨rt_S s2 ⟨_, rfl, hB.size, blk_new _ _ _ rfl⟩ _ rfl, fun _ => rfl⟩)
    refine obsF_cons ?_ ?_
    · intro T wx K hB hF hD hK
      refine ob_yes (wanted_none rfl) ?_
      clear hF hD
      go_simp
      exact hK _ _ (belA (Below.refl _ _) _) (fun d e => by cases e; exact ⟨rt_S s3 ⟨_, rfl, hB.size, blk_new _ _ _ rfl⟩ _ rfl, fun _ => rfl⟩)
    exact obsF_nil
  · intro T9 w8 hb hF hs hD hN
    have g14 := get_eqS (hD 0 14 (by decide) (by kernel_rfl)) s14
    have g15 := get_eqS (hD 1 15 (by decide) (by kernel_rfl)) s15
    have g16 := get_eqS (hD 2 16 (by decide) (by kernel_rfl)) s16
    have g17 := get_eqS (hD 3 17 (by decide) (by kernel_rfl)) s17
    have g18 := get_eqS (hD 4 18 (by decide) (by kernel_rfl)) s18
    have g19 := get_eqS (hD 5 19 (by decide) (by kernel_rfl)) s19
    obtain ⟨v2, g2, p2⟩ := getS (hD 6 2 (by decide) (by kernel_rfl)) s2
    obtain ⟨v3, g3, p3⟩ := getS (hD 7 3 (by decide) (by kernel_rfl)) s3
    have N2_3 := hN 2 3 (by decide) (by decide) (by decide) ⟨6, by decide, by kernel_rfl⟩ ⟨7, by decide, by kernel_rfl⟩
    rw [g2, g3] at N2_3
    have hT := conc [(14, .agg #[.int .i64 0, .int .i64 0, .int .i64 1, .int .i64 1, .int .i64 1, .int .i64 1, .int .i64 (-17), .int .i64 (-17), .int .i64 (-17), .int .i64 18, .int .i64 18, .int .i64 18]), (15, .agg #[.int .i64 0, .int .i64 0, .int .i64 0]), (16, .agg #[.int .i64 0, .int .i64 0, .int .i64 4394000, .int .i64 0, .int .i64 8788000, .int .i64 0, .int .i64 13182000, .int .i64 0]), (17, .agg #[.int .i64 0, .int .i64 0, .int .i64 1, .int .i64 1, .int .i64 1, .int .i64 1, .int .i64 (-17), .int .i64 (-17), .int .i64 (-17), .int .i64 18, .int .i64 18, .int .i64 18]), (18, .agg #[.int .i64 9, .int .i64 0, .int .i64 (-9)]), (19, .agg #[.int .i64 0, .int .i64 0, .int .i64 0, .int .i64 4394000, .int .i64 0, .int .i64 8788000, .int .i64 4394000, .int .i64 8788000]), (2, v2), (3, v3)] hs hF (by simp only [List.forall_mem_cons]; exact ⟨g14, g15, g16, g17, g18, g19, g2, g3, fun p hp => absurd hp List.not_mem_nil⟩) (by kernel_rfl)
    simp only [List.foldl, List.setIfInBounds_toArray, List.set_cons_succ, List.set_cons_zero] at hT
    subst hT
    clear hF hD hs hN g14 g15 g16 g17 g18 g19 g2 g3 s2 s3 s14 s15 s16 s17 s18 s19
    show wpOpsIn _ _ _ _ _ [8, 9] _ _
    obtain ⟨b2, rfl, hs2, h2⟩ := p2
    obtain ⟨b3, rfl, hs3, h3⟩ := p3
    have ne : b2 ≠ b3 := fun e => N2_3 (by rw [e])
    refine tail_store rfl rfl rfl rfl rfl 44 (.tmp 2) (.tmp 16) rfl rfl b2 #[.int .i64 0, .int .i64 0, .int .i64 4394000, .int .i64 0, .int .i64 8788000, .int .i64 0, .int .i64 13182000, .int .i64 0] rfl rfl _ _ h2 (by kernel_rfl) rfl (by kernel_rfl) ?_
    have h3' := (setRow_other w8 b2 b3 #[.int .i64 0, .int .i64 0, .int .i64 4394000, .int .i64 0, .int .i64 8788000, .int .i64 0, .int .i64 13182000, .int .i64 0] (fun h => ne h.symm)).trans h3
    refine tail_store rfl rfl rfl rfl rfl 44 (.tmp 3) (.tmp 19) rfl rfl b3 #[.int .i64 0, .int .i64 0, .int .i64 0, .int .i64 4394000, .int .i64 0, .int .i64 8788000, .int .i64 4394000, .int .i64 8788000] rfl rfl _ _ h3' (by kernel_rfl) rfl (by kernel_rfl) ?_
    have la : a < W1.heap.size := blk_lt HA.out
    have H2 := Lib.hid ((setRow_other _ b3 b2 #[.int .i64 0, .int .i64 0, .int .i64 0, .int .i64 4394000, .int .i64 0, .int .i64 8788000, .int .i64 4394000, .int .i64 8788000] ne).trans (setRow_heap w8 b2 _ #[.int .i64 0, .int .i64 0, .int .i64 4394000, .int .i64 0, .int .i64 8788000, .int .i64 0, .int .i64 13182000, .int .i64 0] _ _ h2))
    have H3 := Lib.hid (setRow_heap _ b3 _ #[.int .i64 0, .int .i64 0, .int .i64 0, .int .i64 4394000, .int .i64 0, .int .i64 8788000, .int .i64 4394000, .int .i64 8788000] _ _ h3')
    replace HA := Lib.hid ((setRow_other _ b3 a #[.int .i64 0, .int .i64 0, .int .i64 0, .int .i64 4394000, .int .i64 0, .int .i64 8788000, .int .i64 4394000, .int .i64 8788000] (by omega)).trans ((setRow_other w8 b2 a #[.int .i64 0, .int .i64 0, .int .i64 4394000, .int .i64 0, .int .i64 8788000, .int .i64 0, .int .i64 13182000, .int .i64 0] (by omega)).trans (blk_call HA.out hb)))
    have bw := below_setRow7 (below_setRow7 hb hs2 #[.int .i64 0, .int .i64 0, .int .i64 4394000, .int .i64 0, .int .i64 8788000, .int .i64 0, .int .i64 13182000, .int .i64 0]) hs3 #[.int .i64 0, .int .i64 0, .int .i64 0, .int .i64 4394000, .int .i64 0, .int .i64 8788000, .int .i64 4394000, .int .i64 8788000]
    replace B := Lib.hid (belT B.out bw)
    replace TT := Lib.hid (Tab.below TT.out bw)
    clear bw hb h2 h3 h3' hs2 hs3 N2_3 ne la
    simp only [wpOpsIn]
    generalize ((w8.setRow b2 #[.int .i64 0, .int .i64 0, .int .i64 4394000, .int .i64 0, .int .i64 8788000, .int .i64 0, .int .i64 13182000, .int .i64 0]).setRow b3 #[.int .i64 0, .int .i64 0, .int .i64 0, .int .i64 4394000, .int .i64 0, .int .i64 8788000, .int .i64 4394000, .int .i64 8788000]) = W2 at *
    have c0 := blk_cell HA.out 0 _ rfl
    have c1 := blk_cell HA.out 1 _ rfl
    have c2 := blk_cell HA.out 2 _ rfl
    have c3 := blk_cell HA.out 3 _ rfl
    have c4 := blk_cell HA.out 4 _ rfl
    have c5 := blk_cell HA.out 5 _ rfl
    have c6 := blk_cell HA.out 6 _ rfl
    have c7 := blk_cell HA.out 7 _ rfl
    have c8 := blk_cell HA.out 8 _ rfl
    have c9 := blk_cell HA.out 9 _ rfl
    have c10 := blk_cell HA.out 10 _ rfl
    have c11 := blk_cell HA.out 11 _ rfl
    go_wp2_with fail
    refine (links_is 0 0 1 1 1 1 (-17) (-17) (-17) 18 18 18 0 0 0 65 4225 274625 0 0 0 4394000 4394000 4394000 0 0 0 4394000 8788000 13182000 0 0 0 [(0, -4394000), (4394000, -4394000), (4394000, 4394000), (0, 4394000)] [(4394000, -4394000), (8788000, -4394000), (8788000, 4394000), (4394000, 4394000)] [(8788000, -4394000), (13182000, -4394000), (13182000, 4394000), (8788000, 4394000)] _ TT.out (by omega) (by omega) (by omega) vOne (Lib.hid ⟨by decide +kernel, by decide +kernel, by decide +kernel, by decide, by decide, by decide, by decide, by decide, by decide⟩) (Lib.hid (by decide)) (Lib.hid (by decide)) (Lib.hid (by decide))).mono ?_
    rintro e w2 ⟨⟨g0, g1, g2, rfl, p0, p1, p2⟩, hb2⟩
    clear c0 c1 c2 c3 c4 c5 c6 c7 c8 c9 c10 c11
    replace HA := Lib.hid (blk_call HA.out hb2)
    replace H2 := Lib.hid (blk_call H2.out hb2)
    replace H3 := Lib.hid (blk_call H3.out hb2)
    replace B := Lib.hid (belT B.out hb2)
    replace TT := Lib.hid (Tab.below TT.out hb2)
    clear hb2
    have R0 := Lib.hid p0
    have R1 := Lib.hid p1
    have R2 := Lib.hid p2
    clear p0 p1 p2
    have c0 := blk_cell (blk_alloc HA.out (.cells #[.slice (some ⟨g0, 0, none⟩) 4 4, .slice (some ⟨g1, 0, none⟩) 4 4, .slice (some ⟨g2, 0, none⟩) 4 4] 35)) 0 _ rfl
    have c1 := blk_cell (blk_alloc HA.out (.cells #[.slice (some ⟨g0, 0, none⟩) 4 4, .slice (some ⟨g1, 0, none⟩) 4 4, .slice (some ⟨g2, 0, none⟩) 4 4] 35)) 1 _ rfl
    have c2 := blk_cell (blk_alloc HA.out (.cells #[.slice (some ⟨g0, 0, none⟩) 4 4, .slice (some ⟨g1, 0, none⟩) 4 4, .slice (some ⟨g2, 0, none⟩) 4 4] 35)) 2 _ rfl
    have c3 := blk_cell (blk_alloc HA.out (.cells #[.slice (some ⟨g0, 0, none⟩) 4 4, .slice (some ⟨g1, 0, none⟩) 4 4, .slice (some ⟨g2, 0, none⟩) 4 4] 35)) 3 _ rfl
    have c4 := blk_cell (blk_alloc HA.out (.cells #[.slice (some ⟨g0, 0, none⟩) 4 4, .slice (some ⟨g1, 0, none⟩) 4 4, .slice (some ⟨g2, 0, none⟩) 4 4] 35)) 4 _ rfl
    have c5 := blk_cell (blk_alloc HA.out (.cells #[.slice (some ⟨g0, 0, none⟩) 4 4, .slice (some ⟨g1, 0, none⟩) 4 4, .slice (some ⟨g2, 0, none⟩) 4 4] 35)) 5 _ rfl
    have c6 := blk_cell (blk_alloc HA.out (.cells #[.slice (some ⟨g0, 0, none⟩) 4 4, .slice (some ⟨g1, 0, none⟩) 4 4, .slice (some ⟨g2, 0, none⟩) 4 4] 35)) 6 _ rfl
    have c7 := blk_cell (blk_alloc HA.out (.cells #[.slice (some ⟨g0, 0, none⟩) 4 4, .slice (some ⟨g1, 0, none⟩) 4 4, .slice (some ⟨g2, 0, none⟩) 4 4] 35)) 7 _ rfl
    have c8 := blk_cell (blk_alloc HA.out (.cells #[.slice (some ⟨g0, 0, none⟩) 4 4, .slice (some ⟨g1, 0, none⟩) 4 4, .slice (some ⟨g2, 0, none⟩) 4 4] 35)) 8 _ rfl
    have c9 := blk_cell (blk_alloc HA.out (.cells #[.slice (some ⟨g0, 0, none⟩) 4 4, .slice (some ⟨g1, 0, none⟩) 4 4, .slice (some ⟨g2, 0, none⟩) 4 4] 35)) 9 _ rfl
    have c10 := blk_cell (blk_alloc HA.out (.cells #[.slice (some ⟨g0, 0, none⟩) 4 4, .slice (some ⟨g1, 0, none⟩) 4 4, .slice (some ⟨g2, 0, none⟩) 4 4] 35)) 10 _ rfl
    have c11 := blk_cell (blk_alloc HA.out (.cells #[.slice (some ⟨g0, 0, none⟩) 4 4, .slice (some ⟨g1, 0, none⟩) 4 4, .slice (some ⟨g2, 0, none⟩) 4 4] 35)) 11 _ rfl
    go_wp2_with fail
    refine (stepj1_yes 0 0 1 1 1 1 (-17) (-17) (-17) 18 18 18 18 0 (-17) (-1) _ (by omega) (by omega) (by omega) (by omega) (Lib.hid (by decide))).mono ?_
    rintro e w3 ⟨rfl, hb3⟩
    clear c0 c1 c2 c3 c4 c5 c6 c7 c8 c9 c10 c11
    replace HA := Lib.hid (blk_call (blk_alloc HA.out (.cells #[.slice (some ⟨g0, 0, none⟩) 4 4, .slice (some ⟨g1, 0, none⟩) 4 4, .slice (some ⟨g2, 0, none⟩) 4 4] 35)) hb3)
    replace H2 := Lib.hid (blk_call (blk_alloc H2.out (.cells #[.slice (some ⟨g0, 0, none⟩) 4 4, .slice (some ⟨g1, 0, none⟩) 4 4, .slice (some ⟨g2, 0, none⟩) 4 4] 35)) hb3)
    replace H3 := Lib.hid (blk_call (blk_alloc H3.out (.cells #[.slice (some ⟨g0, 0, none⟩) 4 4, .slice (some ⟨g1, 0, none⟩) 4 4, .slice (some ⟨g2, 0, none⟩) 4 4] 35)) hb3)
    replace R0 := Lib.hid (prow_below (prow_alloc R0.out (.cells #[.slice (some ⟨g0, 0, none⟩) 4 4, .slice (some ⟨g1, 0, none⟩) 4 4, .slice (some ⟨g2, 0, none⟩) 4 4] 35)) hb3)
    replace R1 := Lib.hid (prow_below (prow_alloc R1.out (.cells #[.slice (some ⟨g0, 0, none⟩) 4 4, .slice (some ⟨g1, 0, none⟩) 4 4, .slice (some ⟨g2, 0, none⟩) 4 4] 35)) hb3)
    replace R2 := Lib.hid (prow_below (prow_alloc R2.out (.cells #[.slice (some ⟨g0, 0, none⟩) 4 4, .slice (some ⟨g1, 0, none⟩) 4 4, .slice (some ⟨g2, 0, none⟩) 4 4] 35)) hb3)
    have HL := Lib.hid (blk_call (blk_new w2 (.cells #[.slice (some ⟨g0, 0, none⟩) 4 4, .slice (some ⟨g1, 0, none⟩) 4 4, .slice (some ⟨g2, 0, none⟩) 4 4] 35) (w2.heap.size) rfl) hb3)
    replace B := Lib.hid (belT (belA B.out (.cells #[.slice (some ⟨g0, 0, none⟩) 4 4, .slice (some ⟨g1, 0, none⟩) 4 4, .slice (some ⟨g2, 0, none⟩) 4 4] 35)) hb3)
    replace TT := Lib.hid (Tab.below (Tab.alloc TT.out (.cells #[.slice (some ⟨g0, 0, none⟩) 4 4, .slice (some ⟨g1, 0, none⟩) 4 4, .slice (some ⟨g2, 0, none⟩) 4 4] 35)) hb3)
    clear hb3
    have c0 := blk_cell (blk_alloc HA.out (.cells #[.int .i64 18, .int .i64 (-1), .int .i64 (-17)] 25)) 0 _ rfl
    have c1 := blk_cell (blk_alloc HA.out (.cells #[.int .i64 18, .int .i64 (-1), .int .i64 (-17)] 25)) 1 _ rfl
    have c2 := blk_cell (blk_alloc HA.out (.cells #[.int .i64 18, .int .i64 (-1), .int .i64 (-17)] 25)) 2 _ rfl
    have c3 := blk_cell (blk_alloc HA.out (.cells #[.int .i64 18, .int .i64 (-1), .int .i64 (-17)] 25)) 3 _ rfl
    have c4 := blk_cell (blk_alloc HA.out (.cells #[.int .i64 18, .int .i64 (-1), .int .i64 (-17)] 25)) 4 _ rfl
    have c5 := blk_cell (blk_alloc HA.out (.cells #[.int .i64 18, .int .i64 (-1), .int .i64 (-17)] 25)) 5 _ rfl
    have c6 := blk_cell (blk_alloc HA.out (.cells #[.int .i64 18, .int .i64 (-1), .int .i64 (-17)] 25)) 6 _ rfl
    have c7 := blk_cell (blk_alloc HA.out (.cells #[.int .i64 18, .int .i64 (-1), .int .i64 (-17)] 25)) 7 _ rfl
    have c8 := blk_cell (blk_alloc HA.out (.cells #[.int .i64 18, .int .i64 (-1), .int .i64 (-17)] 25)) 8 _ rfl
    have c9 := blk_cell (blk_alloc HA.out (.cells #[.int .i64 18, .int .i64 (-1), .int .i64 (-17)] 25)) 9 _ rfl
    have c10 := blk_cell (blk_alloc HA.out (.cells #[.int .i64 18, .int .i64 (-1), .int .i64 (-17)] 25)) 10 _ rfl
    have c11 := blk_cell (blk_alloc HA.out (.cells #[.int .i64 18, .int .i64 (-1), .int .i64 (-17)] 25)) 11 _ rfl
    go_wp2_with fail
    refine (stepj0_no 0 0 1 1 1 1 (-17) (-17) (-17) 18 18 18 18 0 (-17) 1 _ (by omega) (by omega) (by omega) (by omega) (Lib.hid (by decide))).mono ?_
    rintro e w4 ⟨rfl, hb4⟩
    clear c0 c1 c2 c3 c4 c5 c6 c7 c8 c9 c10 c11
    replace HA := Lib.hid (blk_call (blk_alloc HA.out (.cells #[.int .i64 18, .int .i64 (-1), .int .i64 (-17)] 25)) hb4)
    replace H2 := Lib.hid (blk_call (blk_alloc H2.out (.cells #[.int .i64 18, .int .i64 (-1), .int .i64 (-17)] 25)) hb4)
    replace H3 := Lib.hid (blk_call (blk_alloc H3.out (.cells #[.int .i64 18, .int .i64 (-1), .int .i64 (-17)] 25)) hb4)
    replace R0 := Lib.hid (prow_below (prow_alloc R0.out (.cells #[.int .i64 18, .int .i64 (-1), .int .i64 (-17)] 25)) hb4)
    replace R1 := Lib.hid (prow_below (prow_alloc R1.out (.cells #[.int .i64 18, .int .i64 (-1), .int .i64 (-17)] 25)) hb4)
    replace R2 := Lib.hid (prow_below (prow_alloc R2.out (.cells #[.int .i64 18, .int .i64 (-1), .int .i64 (-17)] 25)) hb4)
    replace HL := Lib.hid (blk_call (blk_alloc HL.out (.cells #[.int .i64 18, .int .i64 (-1), .int .i64 (-17)] 25)) hb4)
    have H5 := Lib.hid (blk_call (blk_new w3 (.cells #[.int .i64 18, .int .i64 (-1), .int .i64 (-17)] 25) (w3.heap.size) rfl) hb4)
    replace B := Lib.hid (belT (belA B.out (.cells #[.int .i64 18, .int .i64 (-1), .int .i64 (-17)] 25)) hb4)
    replace TT := Lib.hid (Tab.below (Tab.alloc TT.out (.cells #[.int .i64 18, .int .i64 (-1), .int .i64 (-17)] 25)) hb4)
    clear hb4
    have c0 := blk_cell (blk_alloc HA.out (.cells #[.int .i64 0, .int .i64 0, .int .i64 0] 25)) 0 _ rfl
    have c1 := blk_cell (blk_alloc HA.out (.cells #[.int .i64 0, .int .i64 0, .int .i64 0] 25)) 1 _ rfl
    have c2 := blk_cell (blk_alloc HA.out (.cells #[.int .i64 0, .int .i64 0, .int .i64 0] 25)) 2 _ rfl
    have c3 := blk_cell (blk_alloc HA.out (.cells #[.int .i64 0, .int .i64 0, .int .i64 0] 25)) 3 _ rfl
    have c4 := blk_cell (blk_alloc HA.out (.cells #[.int .i64 0, .int .i64 0, .int .i64 0] 25)) 4 _ rfl
    have c5 := blk_cell (blk_alloc HA.out (.cells #[.int .i64 0, .int .i64 0, .int .i64 0] 25)) 5 _ rfl
    have c6 := blk_cell (blk_alloc HA.out (.cells #[.int .i64 0, .int .i64 0, .int .i64 0] 25)) 6 _ rfl
    have c7 := blk_cell (blk_alloc HA.out (.cells #[.int .i64 0, .int .i64 0, .int .i64 0] 25)) 7 _ rfl
    have c8 := blk_cell (blk_alloc HA.out (.cells #[.int .i64 0, .int .i64 0, .int .i64 0] 25)) 8 _ rfl
    have c9 := blk_cell (blk_alloc HA.out (.cells #[.int .i64 0, .int .i64 0, .int .i64 0] 25)) 9 _ rfl
    have c10 := blk_cell (blk_alloc HA.out (.cells #[.int .i64 0, .int .i64 0, .int .i64 0] 25)) 10 _ rfl
    have c11 := blk_cell (blk_alloc HA.out (.cells #[.int .i64 0, .int .i64 0, .int .i64 0] 25)) 11 _ rfl
    go_wp2_with fail
    refine (stepj2_no 0 0 1 1 1 1 (-17) (-17) (-17) 18 18 18 18 0 (-17) (-1) _ (by omega) (by omega) (by omega) (by omega) (Lib.hid (by decide))).mono ?_
    rintro e w5 ⟨rfl, hb5⟩
    clear c0 c1 c2 c3 c4 c5 c6 c7 c8 c9 c10 c11
    replace HA := Lib.hid (blk_call (blk_alloc HA.out (.cells #[.int .i64 0, .int .i64 0, .int .i64 0] 25)) hb5)
    replace H2 := Lib.hid (blk_call (blk_alloc H2.out (.cells #[.int .i64 0, .int .i64 0, .int .i64 0] 25)) hb5)
    replace H3 := Lib.hid (blk_call (blk_alloc H3.out (.cells #[.int .i64 0, .int .i64 0, .int .i64 0] 25)) hb5)
    replace R0 := Lib.hid (prow_below (prow_alloc R0.out (.cells #[.int .i64 0, .int .i64 0, .int .i64 0] 25)) hb5)
    replace R1 := Lib.hid (prow_below (prow_alloc R1.out (.cells #[.int .i64 0, .int .i64 0, .int .i64 0] 25)) hb5)
    replace R2 := Lib.hid (prow_below (prow_alloc R2.out (.cells #[.int .i64 0, .int .i64 0, .int .i64 0] 25)) hb5)
    replace HL := Lib.hid (blk_call (blk_alloc HL.out (.cells #[.int .i64 0, .int .i64 0, .int .i64 0] 25)) hb5)
    replace H5 := Lib.hid (blk_call (blk_alloc H5.out (.cells #[.int .i64 0, .int .i64 0, .int .i64 0] 25)) hb5)
    replace B := Lib.hid (belT (belA B.out (.cells #[.int .i64 0, .int .i64 0, .int .i64 0] 25)) hb5)
    replace TT := Lib.hid (Tab.below (Tab.alloc TT.out (.cells #[.int .i64 0, .int .i64 0, .int .i64 0] 25)) hb5)
    clear hb5
    go_upto_region 7 with fail
    replace HA := Lib.hid (blk_alloc HA.out (.cells #[.int .i64 0, .int .i64 0, .int .i64 0] 25))
    replace H2 := Lib.hid (blk_alloc H2.out (.cells #[.int .i64 0, .int .i64 0, .int .i64 0] 25))
    replace H3 := Lib.hid (blk_alloc H3.out (.cells #[.int .i64 0, .int .i64 0, .int .i64 0] 25))
    replace R0 := Lib.hid (prow_alloc R0.out (.cells #[.int .i64 0, .int .i64 0, .int .i64 0] 25))
    replace R1 := Lib.hid (prow_alloc R1.out (.cells #[.int .i64 0, .int .i64 0, .int .i64 0] 25))
    replace R2 := Lib.hid (prow_alloc R2.out (.cells #[.int .i64 0, .int .i64 0, .int .i64 0] 25))
    replace HL := Lib.hid (blk_alloc HL.out (.cells #[.int .i64 0, .int .i64 0, .int .i64 0] 25))
    replace H5 := Lib.hid (blk_alloc H5.out (.cells #[.int .i64 0, .int .i64 0, .int .i64 0] 25))
    replace B := Lib.hid (belA B.out (.cells #[.int .i64 0, .int .i64 0, .int .i64 0] 25))
    replace TT := Lib.hid (Tab.alloc TT.out (.cells #[.int .i64 0, .int .i64 0, .int .i64 0] 25))
    generalize (w5.alloc (.cells #[.int .i64 0, .int .i64 0, .int .i64 0] 25)) = W3 at *
    have c0 := blk_cell HA.out 0 _ rfl
    have c1 := blk_cell HA.out 1 _ rfl
    have c2 := blk_cell HA.out 2 _ rfl
    have c3 := blk_cell HA.out 3 _ rfl
    have c4 := blk_cell HA.out 4 _ rfl
    have c5 := blk_cell HA.out 5 _ rfl
    have c6 := blk_cell HA.out 6 _ rfl
    have c7 := blk_cell HA.out 7 _ rfl
    have c8 := blk_cell HA.out 8 _ rfl
    have c9 := blk_cell HA.out 9 _ rfl
    have c10 := blk_cell HA.out 10 _ rfl
    have c11 := blk_cell HA.out 11 _ rfl
    go_upto_region 9 with fail
    clear c0 c1 c2 c3 c4 c5 c6 c7 c8 c9 c10 c11
    replace HA := Lib.hid (blk_alloc HA.out (.cells #[.int .i64 8, .int .i64 0, .int .i64 1, .int .i64 1, .int .i64 1, .int .i64 1, .int .i64 (-17), .int .i64 (-17), .int .i64 (-17), .int .i64 18, .int .i64 18, .int .i64 18] 27))
    replace H2 := Lib.hid (blk_alloc H2.out (.cells #[.int .i64 8, .int .i64 0, .int .i64 1, .int .i64 1, .int .i64 1, .int .i64 1, .int .i64 (-17), .int .i64 (-17), .int .i64 (-17), .int .i64 18, .int .i64 18, .int .i64 18] 27))
    replace H3 := Lib.hid (blk_alloc H3.out (.cells #[.int .i64 8, .int .i64 0, .int .i64 1, .int .i64 1, .int .i64 1, .int .i64 1, .int .i64 (-17), .int .i64 (-17), .int .i64 (-17), .int .i64 18, .int .i64 18, .int .i64 18] 27))
    replace R0 := Lib.hid (prow_alloc R0.out (.cells #[.int .i64 8, .int .i64 0, .int .i64 1, .int .i64 1, .int .i64 1, .int .i64 1, .int .i64 (-17), .int .i64 (-17), .int .i64 (-17), .int .i64 18, .int .i64 18, .int .i64 18] 27))
    replace R1 := Lib.hid (prow_alloc R1.out (.cells #[.int .i64 8, .int .i64 0, .int .i64 1, .int .i64 1, .int .i64 1, .int .i64 1, .int .i64 (-17), .int .i64 (-17), .int .i64 (-17), .int .i64 18, .int .i64 18, .int .i64 18] 27))
    replace R2 := Lib.hid (prow_alloc R2.out (.cells #[.int .i64 8, .int .i64 0, .int .i64 1, .int .i64 1, .int .i64 1, .int .i64 1, .int .i64 (-17), .int .i64 (-17), .int .i64 (-17), .int .i64 18, .int .i64 18, .int .i64 18] 27))
    replace HL := Lib.hid (blk_alloc HL.out (.cells #[.int .i64 8, .int .i64 0, .int .i64 1, .int .i64 1, .int .i64 1, .int .i64 1, .int .i64 (-17), .int .i64 (-17), .int .i64 (-17), .int .i64 18, .int .i64 18, .int .i64 18] 27))
    replace H5 := Lib.hid (blk_alloc H5.out (.cells #[.int .i64 8, .int .i64 0, .int .i64 1, .int .i64 1, .int .i64 1, .int .i64 1, .int .i64 (-17), .int .i64 (-17), .int .i64 (-17), .int .i64 18, .int .i64 18, .int .i64 18] 27))
    have H11 := Lib.hid (blk_new W3 (.cells #[.int .i64 8, .int .i64 0, .int .i64 1, .int .i64 1, .int .i64 1, .int .i64 1, .int .i64 (-17), .int .i64 (-17), .int .i64 (-17), .int .i64 18, .int .i64 18, .int .i64 18] 27) (W3.heap.size) rfl)
    replace B := Lib.hid (belA B.out (.cells #[.int .i64 8, .int .i64 0, .int .i64 1, .int .i64 1, .int .i64 1, .int .i64 1, .int .i64 (-17), .int .i64 (-17), .int .i64 (-17), .int .i64 18, .int .i64 18, .int .i64 18] 27))
    replace TT := Lib.hid (Tab.alloc TT.out (.cells #[.int .i64 8, .int .i64 0, .int .i64 1, .int .i64 1, .int .i64 1, .int .i64 1, .int .i64 (-17), .int .i64 (-17), .int .i64 (-17), .int .i64 18, .int .i64 18, .int .i64 18] 27))
    generalize (W3.alloc (.cells #[.int .i64 8, .int .i64 0, .int .i64 1, .int .i64 1, .int .i64 1, .int .i64 1, .int .i64 (-17), .int .i64 (-17), .int .i64 (-17), .int .i64 18, .int .i64 18, .int .i64 18] 27)) = W4 at *
    have E2 : ∀ w : World, (binOp .eql 44 (.agg #[.int .i64 0, .int .i64 0, .int .i64 4394000, .int .i64 0, .int .i64 8788000, .int .i64 0, .int .i64 13182000, .int .i64 0]) (.agg #[.int .i64 0, .int .i64 0, .int .i64 4394000, .int .i64 0, .int .i64 8788000, .int .i64 0, .int .i64 13182000, .int .i64 0])).run Tryd.prog w = .ok (.bool true) w := fun w => by kernel_rfl
    have E3 : ∀ w : World, (binOp .eql 44 (.agg #[.int .i64 0, .int .i64 0, .int .i64 0, .int .i64 4394000, .int .i64 0, .int .i64 8788000, .int .i64 4394000, .int .i64 8788000]) (.agg #[.int .i64 0, .int .i64 0, .int .i64 0, .int .i64 4394000, .int .i64 0, .int .i64 8788000, .int .i64 4394000, .int .i64 8788000])).run Tryd.prog w = .ok (.bool true) w := fun w => by kernel_rfl
    have E4 : ∀ w : World, (binOp .eql 25 (.agg #[.int .i64 18, .int .i64 (-1), .int .i64 (-17)]) (.agg #[.int .i64 18, .int .i64 (-1), .int .i64 (-17)])).run Tryd.prog w = .ok (.bool true) w := fun w => by kernel_rfl
    have E5 : ∀ w : World, (binOp .eql 41 (.agg #[.int .i64 63, .int .i64 16, .int .i64 1]) (.agg #[.int .i64 63, .int .i64 16, .int .i64 1])).run Tryd.prog w = .ok (.bool true) w := fun w => by kernel_rfl
    have c0 := blk_cell HA.out 0 _ rfl
    have c1 := blk_cell HA.out 1 _ rfl
    have c2 := blk_cell HA.out 2 _ rfl
    have c3 := blk_cell HA.out 3 _ rfl
    have c4 := blk_cell HA.out 4 _ rfl
    have c5 := blk_cell HA.out 5 _ rfl
    have c6 := blk_cell HA.out 6 _ rfl
    have c7 := blk_cell HA.out 7 _ rfl
    have c8 := blk_cell HA.out 8 _ rfl
    have c9 := blk_cell HA.out 9 _ rfl
    have c10 := blk_cell HA.out 10 _ rfl
    have c11 := blk_cell HA.out 11 _ rfl
    have d0 := blk_cell H2.out 0 _ rfl
    have d1 := blk_cell H2.out 1 _ rfl
    have d2 := blk_cell H2.out 2 _ rfl
    have d3 := blk_cell H2.out 3 _ rfl
    have d4 := blk_cell H2.out 4 _ rfl
    have d5 := blk_cell H2.out 5 _ rfl
    have d6 := blk_cell H2.out 6 _ rfl
    have d7 := blk_cell H2.out 7 _ rfl
    have e0 := blk_cell H3.out 0 _ rfl
    have e1 := blk_cell H3.out 1 _ rfl
    have e2 := blk_cell H3.out 2 _ rfl
    have e3 := blk_cell H3.out 3 _ rfl
    have e4 := blk_cell H3.out 4 _ rfl
    have e5 := blk_cell H3.out 5 _ rfl
    have e6 := blk_cell H3.out 6 _ rfl
    have e7 := blk_cell H3.out 7 _ rfl
    have f0 := blk_cell HL.out 0 _ rfl
    have f1 := blk_cell HL.out 1 _ rfl
    have f2 := blk_cell HL.out 2 _ rfl
    go_wp2_with fail
    refine (same4_is g1 _ 4394000 (-4394000) 8788000 (-4394000) 8788000 4394000 4394000 4394000 _ (prow_alloc R1.out (.cells #[.int .i64 4394000, .int .i64 (-4394000), .int .i64 8788000, .int .i64 (-4394000), .int .i64 8788000, .int .i64 4394000, .int .i64 4394000, .int .i64 4394000] 23)) (prow_new _ _ _ _ rfl rfl)).mono ?_
    rintro e w6 ⟨rfl, hb6⟩
    clear c0 c1 c2 c3 c4 c5 c6 c7 c8 c9 c10 c11 d0 d1 d2 d3 d4 d5 d6 d7 e0 e1 e2 e3 e4 e5 e6 e7 f0 f1 f2
    replace HA := Lib.hid (blk_call (blk_alloc HA.out (.cells #[.int .i64 4394000, .int .i64 (-4394000), .int .i64 8788000, .int .i64 (-4394000), .int .i64 8788000, .int .i64 4394000, .int .i64 4394000, .int .i64 4394000] 23)) hb6)
    replace H2 := Lib.hid (blk_call (blk_alloc H2.out (.cells #[.int .i64 4394000, .int .i64 (-4394000), .int .i64 8788000, .int .i64 (-4394000), .int .i64 8788000, .int .i64 4394000, .int .i64 4394000, .int .i64 4394000] 23)) hb6)
    replace H3 := Lib.hid (blk_call (blk_alloc H3.out (.cells #[.int .i64 4394000, .int .i64 (-4394000), .int .i64 8788000, .int .i64 (-4394000), .int .i64 8788000, .int .i64 4394000, .int .i64 4394000, .int .i64 4394000] 23)) hb6)
    replace R0 := Lib.hid (prow_below (prow_alloc R0.out (.cells #[.int .i64 4394000, .int .i64 (-4394000), .int .i64 8788000, .int .i64 (-4394000), .int .i64 8788000, .int .i64 4394000, .int .i64 4394000, .int .i64 4394000] 23)) hb6)
    replace R1 := Lib.hid (prow_below (prow_alloc R1.out (.cells #[.int .i64 4394000, .int .i64 (-4394000), .int .i64 8788000, .int .i64 (-4394000), .int .i64 8788000, .int .i64 4394000, .int .i64 4394000, .int .i64 4394000] 23)) hb6)
    replace R2 := Lib.hid (prow_below (prow_alloc R2.out (.cells #[.int .i64 4394000, .int .i64 (-4394000), .int .i64 8788000, .int .i64 (-4394000), .int .i64 8788000, .int .i64 4394000, .int .i64 4394000, .int .i64 4394000] 23)) hb6)
    replace HL := Lib.hid (blk_call (blk_alloc HL.out (.cells #[.int .i64 4394000, .int .i64 (-4394000), .int .i64 8788000, .int .i64 (-4394000), .int .i64 8788000, .int .i64 4394000, .int .i64 4394000, .int .i64 4394000] 23)) hb6)
    replace H5 := Lib.hid (blk_call (blk_alloc H5.out (.cells #[.int .i64 4394000, .int .i64 (-4394000), .int .i64 8788000, .int .i64 (-4394000), .int .i64 8788000, .int .i64 4394000, .int .i64 4394000, .int .i64 4394000] 23)) hb6)
    replace H11 := Lib.hid (blk_call (blk_alloc H11.out (.cells #[.int .i64 4394000, .int .i64 (-4394000), .int .i64 8788000, .int .i64 (-4394000), .int .i64 8788000, .int .i64 4394000, .int .i64 4394000, .int .i64 4394000] 23)) hb6)
    replace B := Lib.hid (belT (belA B.out (.cells #[.int .i64 4394000, .int .i64 (-4394000), .int .i64 8788000, .int .i64 (-4394000), .int .i64 8788000, .int .i64 4394000, .int .i64 4394000, .int .i64 4394000] 23)) hb6)
    replace TT := Lib.hid (Tab.below (Tab.alloc TT.out (.cells #[.int .i64 4394000, .int .i64 (-4394000), .int .i64 8788000, .int .i64 (-4394000), .int .i64 8788000, .int .i64 4394000, .int .i64 4394000, .int .i64 4394000] 23)) hb6)
    clear hb6
    have c0 := blk_cell HA.out 0 _ rfl
    have c1 := blk_cell HA.out 1 _ rfl
    have c2 := blk_cell HA.out 2 _ rfl
    have c3 := blk_cell HA.out 3 _ rfl
    have c4 := blk_cell HA.out 4 _ rfl
    have c5 := blk_cell HA.out 5 _ rfl
    have c6 := blk_cell HA.out 6 _ rfl
    have c7 := blk_cell HA.out 7 _ rfl
    have c8 := blk_cell HA.out 8 _ rfl
    have c9 := blk_cell HA.out 9 _ rfl
    have c10 := blk_cell HA.out 10 _ rfl
    have c11 := blk_cell HA.out 11 _ rfl
    have d0 := blk_cell H5.out 0 _ rfl
    have d1 := blk_cell H5.out 1 _ rfl
    have d2 := blk_cell H5.out 2 _ rfl
    go_wp2_with fail
    refine (armv_is 0 0 1 1 1 1 (-17) (-17) (-17) 18 18 18 true _ vOne).mono ?_
    rintro e w7 ⟨rfl, hb7⟩
    clear c0 c1 c2 c3 c4 c5 c6 c7 c8 c9 c10 c11 d0 d1 d2
    replace HA := Lib.hid (blk_call HA.out hb7)
    replace H5 := Lib.hid (blk_call H5.out hb7)
    replace H11 := Lib.hid (blk_call H11.out hb7)
    replace B := Lib.hid (belT B.out hb7)
    replace TT := Lib.hid (Tab.below TT.out hb7)
    clear hb7
    have c0 := blk_cell H11.out 0 _ rfl
    have c1 := blk_cell H11.out 1 _ rfl
    have c2 := blk_cell H11.out 2 _ rfl
    have c3 := blk_cell H11.out 3 _ rfl
    have c4 := blk_cell H11.out 4 _ rfl
    have c5 := blk_cell H11.out 5 _ rfl
    have c6 := blk_cell H11.out 6 _ rfl
    have c7 := blk_cell H11.out 7 _ rfl
    have c8 := blk_cell H11.out 8 _ rfl
    have c9 := blk_cell H11.out 9 _ rfl
    have c10 := blk_cell H11.out 10 _ rfl
    have c11 := blk_cell H11.out 11 _ rfl
    go_wp2_with fail
    refine (armv_is 8 0 1 1 1 1 (-17) (-17) (-17) 18 18 18 false _ (Lib.hid (by decide))).mono ?_
    rintro e w8 ⟨rfl, hb8⟩
    clear c0 c1 c2 c3 c4 c5 c6 c7 c8 c9 c10 c11
    replace HA := Lib.hid (blk_call HA.out hb8)
    replace H5 := Lib.hid (blk_call H5.out hb8)
    replace H11 := Lib.hid (blk_call H11.out hb8)
    replace B := Lib.hid (belT B.out hb8)
    replace TT := Lib.hid (Tab.below TT.out hb8)
    clear hb8
    have c0 := blk_cell HA.out 0 _ rfl
    have c1 := blk_cell HA.out 1 _ rfl
    have c2 := blk_cell HA.out 2 _ rfl
    have c3 := blk_cell HA.out 3 _ rfl
    have c4 := blk_cell HA.out 4 _ rfl
    have c5 := blk_cell HA.out 5 _ rfl
    have c6 := blk_cell HA.out 6 _ rfl
    have c7 := blk_cell HA.out 7 _ rfl
    have c8 := blk_cell HA.out 8 _ rfl
    have c9 := blk_cell HA.out 9 _ rfl
    have c10 := blk_cell HA.out 10 _ rfl
    have c11 := blk_cell HA.out 11 _ rfl
    have d0 := blk_cell H5.out 0 _ rfl
    have d1 := blk_cell H5.out 1 _ rfl
    have d2 := blk_cell H5.out 2 _ rfl
    go_wp2_with fail
    refine (inlim_is 0 0 1 1 1 1 (-17) (-17) (-17) 18 18 18 18 (-1) (-17) true _ (Lib.hid (by decide))).mono ?_
    rintro e w9 ⟨rfl, hb9⟩
    clear c0 c1 c2 c3 c4 c5 c6 c7 c8 c9 c10 c11 d0 d1 d2
    replace HA := Lib.hid (blk_call HA.out hb9)
    replace H5 := Lib.hid (blk_call H5.out hb9)
    replace H11 := Lib.hid (blk_call H11.out hb9)
    replace B := Lib.hid (belT B.out hb9)
    replace TT := Lib.hid (Tab.below TT.out hb9)
    clear hb9
    have c0 := blk_cell HA.out 0 _ rfl
    have c1 := blk_cell HA.out 1 _ rfl
    have c2 := blk_cell HA.out 2 _ rfl
    have c3 := blk_cell HA.out 3 _ rfl
    have c4 := blk_cell HA.out 4 _ rfl
    have c5 := blk_cell HA.out 5 _ rfl
    have c6 := blk_cell HA.out 6 _ rfl
    have c7 := blk_cell HA.out 7 _ rfl
    have c8 := blk_cell HA.out 8 _ rfl
    have c9 := blk_cell HA.out 9 _ rfl
    have c10 := blk_cell HA.out 10 _ rfl
    have c11 := blk_cell HA.out 11 _ rfl
    go_wp2_with fail
    refine (inlim_is 0 0 1 1 1 1 (-17) (-17) (-17) 18 18 18 0 19 0 false _ (Lib.hid (by decide))).mono ?_
    rintro e w10 ⟨rfl, hb10⟩
    clear c0 c1 c2 c3 c4 c5 c6 c7 c8 c9 c10 c11
    replace HA := Lib.hid (blk_call HA.out hb10)
    replace H5 := Lib.hid (blk_call H5.out hb10)
    replace H11 := Lib.hid (blk_call H11.out hb10)
    replace B := Lib.hid (belT B.out hb10)
    replace TT := Lib.hid (Tab.below TT.out hb10)
    clear hb10
    have c0 := blk_cell HA.out 0 _ rfl
    have c1 := blk_cell HA.out 1 _ rfl
    have c2 := blk_cell HA.out 2 _ rfl
    have c3 := blk_cell HA.out 3 _ rfl
    have c4 := blk_cell HA.out 4 _ rfl
    have c5 := blk_cell HA.out 5 _ rfl
    have c6 := blk_cell HA.out 6 _ rfl
    have c7 := blk_cell HA.out 7 _ rfl
    have c8 := blk_cell HA.out 8 _ rfl
    have c9 := blk_cell HA.out 9 _ rfl
    have c10 := blk_cell HA.out 10 _ rfl
    have c11 := blk_cell HA.out 11 _ rfl
    go_wp2_with fail
    refine (ldirs_is 0 0 1 1 1 1 (-17) (-17) (-17) 18 18 18 1 0 0 63 16 4095 1040 266175 67600 _ TT.out (by omega) (by omega) (by omega) (Lib.hid (by decide +kernel)) (Lib.hid (by decide +kernel)) (Lib.hid (by decide +kernel))).mono ?_
    rintro e w11 ⟨rfl, hb11⟩
    clear c0 c1 c2 c3 c4 c5 c6 c7 c8 c9 c10 c11
    replace HA := Lib.hid (blk_call HA.out hb11)
    replace H5 := Lib.hid (blk_call H5.out hb11)
    replace H11 := Lib.hid (blk_call H11.out hb11)
    replace B := Lib.hid (belT B.out hb11)
    replace TT := Lib.hid (Tab.below TT.out hb11)
    clear hb11
    have E6 := fun w => (ixD 63 16 4095 1040 266175 67600 w).1
    go_wp2_with fail
    go_ret
    exact ⟨rfl, B.out⟩
end Go.Proofs.YtalhkcmlacppjaaDoor

namespace Go.Proofs.YtalhkcmlacppjaaDoor
open Go.ChangeShapes Go.WideShapes Go.ChangeAt Go.RowKit
set_option linter.unusedVariables false
set_option linter.unusedSimpArgs false
set_option maxRecDepth 100000

section
variable {X Y n0 n1 n2 W l0 l1 l2 h0 h1 h2 q0 q1 q2 x1 x2 x3 y1 y2 y3 u1 u2 u3 v1 v2 v3 a1 a2 a3 b1 b2 b3 : Int}
theorem pose_div (P : Pose X Y n0 n1 n2 q0 q1 q2 x1 x2 x3 y1 y2 y3 u1 u2 u3 v1 v2 v3 a1 a2 a3 b1 b2 b3) : (u1 % 16 = 0 ∧ v1 % 16 = 0) ∧ (u2 % 16 = 0 ∧ v2 % 16 = 0) ∧ u3 % 16 = 0 ∧ v3 % 16 = 0 := by
  have := P.f1
  have := P.f2
  have := P.f3
  omega
end
theorem prow_setRow {w : World} {g r : Nat} {l : List (Int × Int)} (h : PRow w (some ⟨g, 0, none⟩) l) (hne : g ≠ r) (cs : Array Value) : PRow (w.setRow r cs) (some ⟨g, 0, none⟩) l := fun i hi => by
  obtain ⟨b, o, e, c, d⟩ := h i hi
  cases e
  exact ⟨_, _, rfl, (cell_setRow_other _ _ _ _ hne).trans c, (cell_setRow_other _ _ _ _ hne).trans d⟩
end Go.Proofs.YtalhkcmlacppjaaDoor

namespace Go.Proofs.YtalhkcmlacppjaaDoor
open Go.ChangeShapes Go.WideShapes Go.ChangeAt Go.RowKit
set_option linter.unusedVariables false
set_option linter.unusedSimpArgs false
set_option maxRecDepth 100000

/-- v' is v turned as c' is c. -/
def sim (c c' v v' : Int × Int) : Prop := gm v' c = gm v c'
theorem sim_mul {c c' v v' : Int × Int} (h : sim c c' v v') (e : Int × Int) : sim c c' (gm v e) (gm v' e) := by
  unfold sim at *
  rw [gm_assoc, gm_comm e c, ← gm_assoc, h, gm_assoc, gm_comm c' e, ← gm_assoc]
theorem sim_lin {c c' v v' u u' : Int × Int} (h : sim c c' v v') (g : sim c c' u u') (m n : Int) : sim c c' (m * v.1 + n * u.1, m * v.2 + n * u.2) (m * v'.1 + n * u'.1, m * v'.2 + n * u'.2) := by
  unfold sim gm at *
  have h1 := congrArg Prod.fst h
  have h2 := congrArg Prod.snd h
  have g1 := congrArg Prod.fst g
  have g2 := congrArg Prod.snd g
  simp only at h1 h2 g1 g2 ⊢
  refine Prod.ext ?_ ?_
  · simp only
    have : (m * v'.1 + n * u'.1) * c.1 - (m * v'.2 + n * u'.2) * c.2 = m * (v'.1 * c.1 - v'.2 * c.2) + n * (u'.1 * c.1 - u'.2 * c.2) := by grind
    rw [this, h1, g1]; grind
  · simp only
    have : (m * v'.1 + n * u'.1) * c.2 + (m * v'.2 + n * u'.2) * c.1 = m * (v'.1 * c.2 + v'.2 * c.1) + n * (u'.1 * c.2 + u'.2 * c.1) := by grind
    rw [this, h2, g2]; grind
theorem sim_rot {c c' v v' : Int × Int} (h : sim c c' v v') : sim c c' (-v.2, v.1) (-v'.2, v'.1) := by
  unfold sim gm at *
  have h1 := congrArg Prod.fst h
  have h2 := congrArg Prod.snd h
  simp only at h1 h2 ⊢
  refine Prod.ext ?_ ?_
  · simp only
    have : -v'.2 * c.1 - v'.1 * c.2 = -(v'.1 * c.2 + v'.2 * c.1) := by grind
    rw [this, h2]; grind
  · simp only
    have : -v'.2 * c.2 + v'.1 * c.1 = v'.1 * c.1 - v'.2 * c.2 := by grind
    rw [this, h1]; grind
theorem sim_zero (c c' : Int × Int) : sim c c' (0, 0) (0, 0) := by unfold sim gm; simp
theorem sim_self (a b : Int × Int) : sim a b a b := gm_comm b a
theorem sim_far {c c' : Int × Int} (hc : gn c = 4225) (hc' : gn c' = 4225) {a b p q a' b' p' q' : Int} (h : sim c c' (a - p, b - q) (a' - p', b' - q')) (d : (a - p) % 16 = 0 ∧ (b - q) % 16 = 0) (d' : (a' - p') % 16 = 0 ∧ (b' - q') % 16 = 0) : farI a' b' p' q' = farI a b p q := by
  have g := gn_same h hc hc'
  unfold gn at g
  simp only at g
  obtain ⟨s, hs⟩ : ∃ z, a - p = 16 * z := ⟨(a - p) / 16, by omega⟩
  obtain ⟨t, ht⟩ : ∃ z, b - q = 16 * z := ⟨(b - q) / 16, by omega⟩
  obtain ⟨s', hs'⟩ : ∃ z, a' - p' = 16 * z := ⟨(a' - p') / 16, by omega⟩
  obtain ⟨t', ht'⟩ : ∃ z, b' - q' = 16 * z := ⟨(b' - q') / 16, by omega⟩
  unfold farI
  rw [hs, ht, hs', ht'] at g
  rw [hs, ht, hs', ht']
  rw [Int.mul_tdiv_cancel_left _ (by omega), Int.mul_tdiv_cancel_left _ (by omega), Int.mul_tdiv_cancel_left _ (by omega), Int.mul_tdiv_cancel_left _ (by omega)]
  have e1 : 16 * s' * (16 * s') + 16 * t' * (16 * t') = 256 * (s' * s' + t' * t') := by grind
  have e2 : 16 * s * (16 * s) + 16 * t * (16 * t) = 256 * (s * s + t * t) := by grind
  omega
theorem sim_scale {c c' v v' : Int × Int} (h : sim c c' v v') (n : Int) : sim c c' (n * v.1, n * v.2) (n * v'.1, n * v'.2) := by
  have := sim_lin h (sim_zero c c') n 0
  simpa using this
theorem sim_at (a c c' : Int × Int) : sim c c' (gm a c) (gm a c') := by
  unfold sim
  rw [gm_assoc, gm_comm c' c, ← gm_assoc]
theorem mod_mul {n u : Int} (h : u % 16 = 0) : (n * u) % 16 = 0 := by
  obtain ⟨z, rfl⟩ : ∃ z, u = 16 * z := ⟨u / 16, by omega⟩
  rw [show n * (16 * z) = 16 * (n * z) by grind]; omega
theorem pose_mod {X Y n0 n1 n2 W q0 q1 q2 x1 x2 x3 y1 y2 y3 u1 u2 u3 v1 v2 v3 a1 a2 a3 b1 b2 b3 : Int} (P : Pose X Y n0 n1 n2 q0 q1 q2 x1 x2 x3 y1 y2 y3 u1 u2 u3 v1 v2 v3 a1 a2 a3 b1 b2 b3) (hX : X % 16 = 0 ∧ Y % 16 = 0) : (a1 % 16 = 0 ∧ b1 % 16 = 0) ∧ (a2 % 16 = 0 ∧ b2 % 16 = 0) ∧ (a3 % 16 = 0 ∧ b3 % 16 = 0) ∧ (W * u3) % 16 = 0 ∧ (W * v3) % 16 = 0 := by
  have D := pose_div P
  have m1 := mod_mul (n := n0) D.1.1
  have m2 := mod_mul (n := n0) D.1.2
  have m3 := mod_mul (n := n1) D.2.1.1
  have m4 := mod_mul (n := n1) D.2.1.2
  have m5 := mod_mul (n := n2) D.2.2.1
  have m6 := mod_mul (n := n2) D.2.2.2
  have m7 := mod_mul (n := W) D.2.2.1
  have m8 := mod_mul (n := W) D.2.2.2
  have g1 := P.g1
  have g2 := P.g2
  have g3 := P.g3
  omega
theorem chain0 {X Y n0 n1 n2 W q0 q1 q2 p x1 x2 x3 y1 y2 y3 u1 u2 u3 v1 v2 v3 a1 a2 a3 b1 b2 b3 x1p x2p x3p y1p y2p y3p u1p u2p u3p v1p v2p v3p a1p a2p a3p b1p b2p b3p : Int} (P : Pose X Y n0 n1 n2 q0 q1 q2 x1 x2 x3 y1 y2 y3 u1 u2 u3 v1 v2 v3 a1 a2 a3 b1 b2 b3) (P' : Pose X Y n0 n1 n2 p q1 q2 x1p x2p x3p y1p y2p y3p u1p u2p u3p v1p v2p v3p a1p a2p a3p b1p b2p b3p) (hX : X % 16 = 0 ∧ Y % 16 = 0) : farI a1p b1p X Y = farI a1 b1 X Y ∧ farI a2p b2p X Y = farI a2 b2 X Y ∧ farI a2p b2p a1p b1p = farI a2 b2 a1 b1 ∧ farI a3p b3p X Y = farI a3 b3 X Y ∧ farI a3p b3p a1p b1p = farI a3 b3 a1 b1 ∧ farI a3p b3p a2p b2p = farI a3 b3 a2 b2 ∧ farI (a2p + W * v3p) (b2p - W * u3p) X Y = farI (a2 + W * v3) (b2 - W * u3) X Y ∧ farI (a3p + W * v3p) (b3p - W * u3p) X Y = farI (a3 + W * v3) (b3 - W * u3) X Y ∧ farI (a3p - W * v3p) (b3p + W * u3p) X Y = farI (a3 - W * v3) (b3 + W * u3) X Y ∧ farI (a2p - W * v3p) (b2p + W * u3p) X Y = farI (a2 - W * v3) (b2 + W * u3) X Y := by
  have D := pose_mod (W := W) P hX
  have D' := pose_mod (W := W) P' hX
  have S1 : sim (rE q0) (rE p) (x1, y1) (x1p, y1p) := by rw [← P.e1, ← P'.e1]; exact sim_self _ _
  have U1 : sim (rE q0) (rE p) (u1, v1) (u1p, v1p) := by rw [← P.f1.1, ← P.f1.2, ← P'.f1.1, ← P'.f1.2]; exact sim_scale S1 67600
  have S2 : sim (rE q0) (rE p) (x2, y2) (x2p, y2p) := by rw [← P.e2, ← P'.e2]; exact sim_mul S1 _
  have U2 : sim (rE q0) (rE p) (u2, v2) (u2p, v2p) := by rw [← P.f2.1, ← P.f2.2, ← P'.f2.1, ← P'.f2.2]; exact sim_scale S2 1040
  have S3 : sim (rE q0) (rE p) (x3, y3) (x3p, y3p) := by rw [← P.e3, ← P'.e3]; exact sim_mul S2 _
  have U3 : sim (rE q0) (rE p) (u3, v3) (u3p, v3p) := by rw [← P.f3.1, ← P.f3.2, ← P'.f3.1, ← P'.f3.2]; exact sim_scale S3 16
  have Q10 : sim (rE q0) (rE p) (a1 - X, b1 - Y) (a1p - X, b1p - Y) := by
    have h := sim_scale U1 n0
    have h1 := P.g1
    have h2 := P'.g1
    rw [show a1 - X = n0 * u1 by omega, show b1 - Y = n0 * v1 by omega, show a1p - X = n0 * u1p by omega, show b1p - Y = n0 * v1p by omega]
    exact h
  have Q20 : sim (rE q0) (rE p) (a2 - X, b2 - Y) (a2p - X, b2p - Y) := by
    have h := sim_lin Q10 U2 1 n1
    have h1 := P.g2
    have h2 := P'.g2
    simp only [Int.one_mul] at h
    rw [show a2 - X = a1 - X + n1 * u2 by omega, show b2 - Y = b1 - Y + n1 * v2 by omega, show a2p - X = a1p - X + n1 * u2p by omega, show b2p - Y = b1p - Y + n1 * v2p by omega]
    exact h
  have Q21 : sim (rE q0) (rE p) (a2 - a1, b2 - b1) (a2p - a1p, b2p - b1p) := by
    have h := sim_scale U2 n1
    have h1 := P.g2
    have h2 := P'.g2
    rw [show a2 - a1 = n1 * u2 by omega, show b2 - b1 = n1 * v2 by omega, show a2p - a1p = n1 * u2p by omega, show b2p - b1p = n1 * v2p by omega]
    exact h
  have Q30 : sim (rE q0) (rE p) (a3 - X, b3 - Y) (a3p - X, b3p - Y) := by
    have h := sim_lin Q20 U3 1 n2
    have h1 := P.g3
    have h2 := P'.g3
    simp only [Int.one_mul] at h
    rw [show a3 - X = a2 - X + n2 * u3 by omega, show b3 - Y = b2 - Y + n2 * v3 by omega, show a3p - X = a2p - X + n2 * u3p by omega, show b3p - Y = b2p - Y + n2 * v3p by omega]
    exact h
  have Q31 : sim (rE q0) (rE p) (a3 - a1, b3 - b1) (a3p - a1p, b3p - b1p) := by
    have h := sim_lin Q21 U3 1 n2
    have h1 := P.g3
    have h2 := P'.g3
    simp only [Int.one_mul] at h
    rw [show a3 - a1 = a2 - a1 + n2 * u3 by omega, show b3 - b1 = b2 - b1 + n2 * v3 by omega, show a3p - a1p = a2p - a1p + n2 * u3p by omega, show b3p - b1p = b2p - b1p + n2 * v3p by omega]
    exact h
  have Q32 : sim (rE q0) (rE p) (a3 - a2, b3 - b2) (a3p - a2p, b3p - b2p) := by
    have h := sim_scale U3 n2
    have h1 := P.g3
    have h2 := P'.g3
    rw [show a3 - a2 = n2 * u3 by omega, show b3 - b2 = n2 * v3 by omega, show a3p - a2p = n2 * u3p by omega, show b3p - b2p = n2 * v3p by omega]
    exact h
  have Q00 : sim (rE q0) (rE p) (X - X, Y - Y) (X - X, Y - Y) := by simp only [Int.sub_self]; exact sim_zero _ _
  have C0 : sim (rE q0) (rE p) (a2 + W * v3 - X, b2 - W * u3 - Y) (a2p + W * v3p - X, b2p - W * u3p - Y) := by
    have h := sim_lin Q20 (sim_rot U3) 1 (-W)
    simp only [Int.one_mul, Int.neg_mul, Int.mul_neg, Int.neg_neg] at h
    rw [show a2 + W * v3 - X = a2 - X + W * v3 by omega, show b2 - W * u3 - Y = b2 - Y - W * u3 by omega, show a2p + W * v3p - X = a2p - X + W * v3p by omega, show b2p - W * u3p - Y = b2p - Y - W * u3p by omega]
    simpa only [Int.sub_eq_add_neg] using h
  have C1 : sim (rE q0) (rE p) (a3 + W * v3 - X, b3 - W * u3 - Y) (a3p + W * v3p - X, b3p - W * u3p - Y) := by
    have h := sim_lin Q30 (sim_rot U3) 1 (-W)
    simp only [Int.one_mul, Int.neg_mul, Int.mul_neg, Int.neg_neg] at h
    rw [show a3 + W * v3 - X = a3 - X + W * v3 by omega, show b3 - W * u3 - Y = b3 - Y - W * u3 by omega, show a3p + W * v3p - X = a3p - X + W * v3p by omega, show b3p - W * u3p - Y = b3p - Y - W * u3p by omega]
    simpa only [Int.sub_eq_add_neg] using h
  have C2 : sim (rE q0) (rE p) (a3 - W * v3 - X, b3 + W * u3 - Y) (a3p - W * v3p - X, b3p + W * u3p - Y) := by
    have h := sim_lin Q30 (sim_rot U3) 1 W
    simp only [Int.one_mul, Int.neg_mul, Int.mul_neg, Int.neg_neg] at h
    rw [show a3 - W * v3 - X = a3 - X - W * v3 by omega, show b3 + W * u3 - Y = b3 - Y + W * u3 by omega, show a3p - W * v3p - X = a3p - X - W * v3p by omega, show b3p + W * u3p - Y = b3p - Y + W * u3p by omega]
    simpa only [Int.sub_eq_add_neg] using h
  have C3 : sim (rE q0) (rE p) (a2 - W * v3 - X, b2 + W * u3 - Y) (a2p - W * v3p - X, b2p + W * u3p - Y) := by
    have h := sim_lin Q20 (sim_rot U3) 1 W
    simp only [Int.one_mul, Int.neg_mul, Int.mul_neg, Int.neg_neg] at h
    rw [show a2 - W * v3 - X = a2 - X - W * v3 by omega, show b2 + W * u3 - Y = b2 - Y + W * u3 by omega, show a2p - W * v3p - X = a2p - X - W * v3p by omega, show b2p + W * u3p - Y = b2p - Y + W * u3p by omega]
    simpa only [Int.sub_eq_add_neg] using h
  exact ⟨sim_far (rE_len q0) (rE_len p) Q10 (by omega) (by omega), sim_far (rE_len q0) (rE_len p) Q20 (by omega) (by omega), sim_far (rE_len q0) (rE_len p) Q21 (by omega) (by omega), sim_far (rE_len q0) (rE_len p) Q30 (by omega) (by omega), sim_far (rE_len q0) (rE_len p) Q31 (by omega) (by omega), sim_far (rE_len q0) (rE_len p) Q32 (by omega) (by omega), sim_far (rE_len q0) (rE_len p) C0 (by omega) (by omega), sim_far (rE_len q0) (rE_len p) C1 (by omega) (by omega), sim_far (rE_len q0) (rE_len p) C2 (by omega) (by omega), sim_far (rE_len q0) (rE_len p) C3 (by omega) (by omega)⟩
theorem chain1 {X Y n0 n1 n2 W q0 q1 q2 p x1 x2 x3 y1 y2 y3 u1 u2 u3 v1 v2 v3 a1 a2 a3 b1 b2 b3 x1p x2p x3p y1p y2p y3p u1p u2p u3p v1p v2p v3p a1p a2p a3p b1p b2p b3p : Int} (P : Pose X Y n0 n1 n2 q0 q1 q2 x1 x2 x3 y1 y2 y3 u1 u2 u3 v1 v2 v3 a1 a2 a3 b1 b2 b3) (P' : Pose X Y n0 n1 n2 q0 p q2 x1p x2p x3p y1p y2p y3p u1p u2p u3p v1p v2p v3p a1p a2p a3p b1p b2p b3p) (hX : X % 16 = 0 ∧ Y % 16 = 0) : (x1p, y1p, u1p, v1p, a1p, b1p) = (x1, y1, u1, v1, a1, b1) ∧ farI a2p b2p a1p b1p = farI a2 b2 a1 b1 ∧ farI a3p b3p a1p b1p = farI a3 b3 a1 b1 ∧ farI a3p b3p a2p b2p = farI a3 b3 a2 b2 ∧ farI (a2p + W * v3p) (b2p - W * u3p) a1p b1p = farI (a2 + W * v3) (b2 - W * u3) a1 b1 ∧ farI (a3p + W * v3p) (b3p - W * u3p) a1p b1p = farI (a3 + W * v3) (b3 - W * u3) a1 b1 ∧ farI (a3p - W * v3p) (b3p + W * u3p) a1p b1p = farI (a3 - W * v3) (b3 + W * u3) a1 b1 ∧ farI (a2p - W * v3p) (b2p + W * u3p) a1p b1p = farI (a2 - W * v3) (b2 + W * u3) a1 b1 := by
  have D := pose_mod (W := W) P hX
  have D' := pose_mod (W := W) P' hX
  have E1 : (x1, y1) = (x1p, y1p) := by rw [← P'.e1, ← P.e1]
  obtain ⟨rfl, rfl⟩ := Prod.mk.inj E1
  have EU1 : u1 = u1p ∧ v1 = v1p := ⟨P.f1.1.symm.trans P'.f1.1, P.f1.2.symm.trans P'.f1.2⟩
  obtain ⟨rfl, rfl⟩ := EU1
  have EA1 : a1 = a1p ∧ b1 = b1p := ⟨P.g1.1.symm.trans P'.g1.1, P.g1.2.symm.trans P'.g1.2⟩
  obtain ⟨rfl, rfl⟩ := EA1
  have S2 : sim (rE q1) (rE p) (x2, y2) (x2p, y2p) := by rw [← P.e2, ← P'.e2]; exact sim_at _ _ _
  have U2 : sim (rE q1) (rE p) (u2, v2) (u2p, v2p) := by rw [← P.f2.1, ← P.f2.2, ← P'.f2.1, ← P'.f2.2]; exact sim_scale S2 1040
  have S3 : sim (rE q1) (rE p) (x3, y3) (x3p, y3p) := by rw [← P.e3, ← P'.e3]; exact sim_mul S2 _
  have U3 : sim (rE q1) (rE p) (u3, v3) (u3p, v3p) := by rw [← P.f3.1, ← P.f3.2, ← P'.f3.1, ← P'.f3.2]; exact sim_scale S3 16
  have Q21 : sim (rE q1) (rE p) (a2 - a1, b2 - b1) (a2p - a1, b2p - b1) := by
    have h := sim_scale U2 n1
    have h1 := P.g2
    have h2 := P'.g2
    rw [show a2 - a1 = n1 * u2 by omega, show b2 - b1 = n1 * v2 by omega, show a2p - a1 = n1 * u2p by omega, show b2p - b1 = n1 * v2p by omega]
    exact h
  have Q31 : sim (rE q1) (rE p) (a3 - a1, b3 - b1) (a3p - a1, b3p - b1) := by
    have h := sim_lin Q21 U3 1 n2
    have h1 := P.g3
    have h2 := P'.g3
    simp only [Int.one_mul] at h
    rw [show a3 - a1 = a2 - a1 + n2 * u3 by omega, show b3 - b1 = b2 - b1 + n2 * v3 by omega, show a3p - a1 = a2p - a1 + n2 * u3p by omega, show b3p - b1 = b2p - b1 + n2 * v3p by omega]
    exact h
  have Q32 : sim (rE q1) (rE p) (a3 - a2, b3 - b2) (a3p - a2p, b3p - b2p) := by
    have h := sim_scale U3 n2
    have h1 := P.g3
    have h2 := P'.g3
    rw [show a3 - a2 = n2 * u3 by omega, show b3 - b2 = n2 * v3 by omega, show a3p - a2p = n2 * u3p by omega, show b3p - b2p = n2 * v3p by omega]
    exact h
  have Q11 : sim (rE q1) (rE p) (a1 - a1, b1 - b1) (a1 - a1, b1 - b1) := by simp only [Int.sub_self]; exact sim_zero _ _
  have C0 : sim (rE q1) (rE p) (a2 + W * v3 - a1, b2 - W * u3 - b1) (a2p + W * v3p - a1, b2p - W * u3p - b1) := by
    have h := sim_lin Q21 (sim_rot U3) 1 (-W)
    simp only [Int.one_mul, Int.neg_mul, Int.mul_neg, Int.neg_neg] at h
    rw [show a2 + W * v3 - a1 = a2 - a1 + W * v3 by omega, show b2 - W * u3 - b1 = b2 - b1 - W * u3 by omega, show a2p + W * v3p - a1 = a2p - a1 + W * v3p by omega, show b2p - W * u3p - b1 = b2p - b1 - W * u3p by omega]
    simpa only [Int.sub_eq_add_neg] using h
  have C1 : sim (rE q1) (rE p) (a3 + W * v3 - a1, b3 - W * u3 - b1) (a3p + W * v3p - a1, b3p - W * u3p - b1) := by
    have h := sim_lin Q31 (sim_rot U3) 1 (-W)
    simp only [Int.one_mul, Int.neg_mul, Int.mul_neg, Int.neg_neg] at h
    rw [show a3 + W * v3 - a1 = a3 - a1 + W * v3 by omega, show b3 - W * u3 - b1 = b3 - b1 - W * u3 by omega, show a3p + W * v3p - a1 = a3p - a1 + W * v3p by omega, show b3p - W * u3p - b1 = b3p - b1 - W * u3p by omega]
    simpa only [Int.sub_eq_add_neg] using h
  have C2 : sim (rE q1) (rE p) (a3 - W * v3 - a1, b3 + W * u3 - b1) (a3p - W * v3p - a1, b3p + W * u3p - b1) := by
    have h := sim_lin Q31 (sim_rot U3) 1 W
    simp only [Int.one_mul, Int.neg_mul, Int.mul_neg, Int.neg_neg] at h
    rw [show a3 - W * v3 - a1 = a3 - a1 - W * v3 by omega, show b3 + W * u3 - b1 = b3 - b1 + W * u3 by omega, show a3p - W * v3p - a1 = a3p - a1 - W * v3p by omega, show b3p + W * u3p - b1 = b3p - b1 + W * u3p by omega]
    simpa only [Int.sub_eq_add_neg] using h
  have C3 : sim (rE q1) (rE p) (a2 - W * v3 - a1, b2 + W * u3 - b1) (a2p - W * v3p - a1, b2p + W * u3p - b1) := by
    have h := sim_lin Q21 (sim_rot U3) 1 W
    simp only [Int.one_mul, Int.neg_mul, Int.mul_neg, Int.neg_neg] at h
    rw [show a2 - W * v3 - a1 = a2 - a1 - W * v3 by omega, show b2 + W * u3 - b1 = b2 - b1 + W * u3 by omega, show a2p - W * v3p - a1 = a2p - a1 - W * v3p by omega, show b2p + W * u3p - b1 = b2p - b1 + W * u3p by omega]
    simpa only [Int.sub_eq_add_neg] using h
  exact ⟨rfl, sim_far (rE_len q1) (rE_len p) Q21 (by omega) (by omega), sim_far (rE_len q1) (rE_len p) Q31 (by omega) (by omega), sim_far (rE_len q1) (rE_len p) Q32 (by omega) (by omega), sim_far (rE_len q1) (rE_len p) C0 (by omega) (by omega), sim_far (rE_len q1) (rE_len p) C1 (by omega) (by omega), sim_far (rE_len q1) (rE_len p) C2 (by omega) (by omega), sim_far (rE_len q1) (rE_len p) C3 (by omega) (by omega)⟩
theorem chain2 {X Y n0 n1 n2 W q0 q1 q2 p x1 x2 x3 y1 y2 y3 u1 u2 u3 v1 v2 v3 a1 a2 a3 b1 b2 b3 x1p x2p x3p y1p y2p y3p u1p u2p u3p v1p v2p v3p a1p a2p a3p b1p b2p b3p : Int} (P : Pose X Y n0 n1 n2 q0 q1 q2 x1 x2 x3 y1 y2 y3 u1 u2 u3 v1 v2 v3 a1 a2 a3 b1 b2 b3) (P' : Pose X Y n0 n1 n2 q0 q1 p x1p x2p x3p y1p y2p y3p u1p u2p u3p v1p v2p v3p a1p a2p a3p b1p b2p b3p) (hX : X % 16 = 0 ∧ Y % 16 = 0) : (x1p, y1p, u1p, v1p, a1p, b1p) = (x1, y1, u1, v1, a1, b1) ∧ (x2p, y2p, u2p, v2p, a2p, b2p) = (x2, y2, u2, v2, a2, b2) ∧ farI a3p b3p a2p b2p = farI a3 b3 a2 b2 ∧ farI (a2p + W * v3p) (b2p - W * u3p) a2p b2p = farI (a2 + W * v3) (b2 - W * u3) a2 b2 ∧ farI (a3p + W * v3p) (b3p - W * u3p) a2p b2p = farI (a3 + W * v3) (b3 - W * u3) a2 b2 ∧ farI (a3p - W * v3p) (b3p + W * u3p) a2p b2p = farI (a3 - W * v3) (b3 + W * u3) a2 b2 ∧ farI (a2p - W * v3p) (b2p + W * u3p) a2p b2p = farI (a2 - W * v3) (b2 + W * u3) a2 b2 := by
  have D := pose_mod (W := W) P hX
  have D' := pose_mod (W := W) P' hX
  have E1 : (x1, y1) = (x1p, y1p) := by rw [← P'.e1, ← P.e1]
  obtain ⟨rfl, rfl⟩ := Prod.mk.inj E1
  have EU1 : u1 = u1p ∧ v1 = v1p := ⟨P.f1.1.symm.trans P'.f1.1, P.f1.2.symm.trans P'.f1.2⟩
  obtain ⟨rfl, rfl⟩ := EU1
  have EA1 : a1 = a1p ∧ b1 = b1p := ⟨P.g1.1.symm.trans P'.g1.1, P.g1.2.symm.trans P'.g1.2⟩
  obtain ⟨rfl, rfl⟩ := EA1
  have E2 : (x2, y2) = (x2p, y2p) := by rw [← P'.e2, ← P.e2]
  obtain ⟨rfl, rfl⟩ := Prod.mk.inj E2
  have EU2 : u2 = u2p ∧ v2 = v2p := ⟨P.f2.1.symm.trans P'.f2.1, P.f2.2.symm.trans P'.f2.2⟩
  obtain ⟨rfl, rfl⟩ := EU2
  have EA2 : a2 = a2p ∧ b2 = b2p := ⟨P.g2.1.symm.trans P'.g2.1, P.g2.2.symm.trans P'.g2.2⟩
  obtain ⟨rfl, rfl⟩ := EA2
  have S3 : sim (rE q2) (rE p) (x3, y3) (x3p, y3p) := by rw [← P.e3, ← P'.e3]; exact sim_at _ _ _
  have U3 : sim (rE q2) (rE p) (u3, v3) (u3p, v3p) := by rw [← P.f3.1, ← P.f3.2, ← P'.f3.1, ← P'.f3.2]; exact sim_scale S3 16
  have Q32 : sim (rE q2) (rE p) (a3 - a2, b3 - b2) (a3p - a2, b3p - b2) := by
    have h := sim_scale U3 n2
    have h1 := P.g3
    have h2 := P'.g3
    rw [show a3 - a2 = n2 * u3 by omega, show b3 - b2 = n2 * v3 by omega, show a3p - a2 = n2 * u3p by omega, show b3p - b2 = n2 * v3p by omega]
    exact h
  have Q22 : sim (rE q2) (rE p) (a2 - a2, b2 - b2) (a2 - a2, b2 - b2) := by simp only [Int.sub_self]; exact sim_zero _ _
  have C0 : sim (rE q2) (rE p) (a2 + W * v3 - a2, b2 - W * u3 - b2) (a2 + W * v3p - a2, b2 - W * u3p - b2) := by
    have h := sim_lin Q22 (sim_rot U3) 1 (-W)
    simp only [Int.one_mul, Int.neg_mul, Int.mul_neg, Int.neg_neg] at h
    rw [show a2 + W * v3 - a2 = a2 - a2 + W * v3 by omega, show b2 - W * u3 - b2 = b2 - b2 - W * u3 by omega, show a2 + W * v3p - a2 = a2 - a2 + W * v3p by omega, show b2 - W * u3p - b2 = b2 - b2 - W * u3p by omega]
    simpa only [Int.sub_eq_add_neg] using h
  have C1 : sim (rE q2) (rE p) (a3 + W * v3 - a2, b3 - W * u3 - b2) (a3p + W * v3p - a2, b3p - W * u3p - b2) := by
    have h := sim_lin Q32 (sim_rot U3) 1 (-W)
    simp only [Int.one_mul, Int.neg_mul, Int.mul_neg, Int.neg_neg] at h
    rw [show a3 + W * v3 - a2 = a3 - a2 + W * v3 by omega, show b3 - W * u3 - b2 = b3 - b2 - W * u3 by omega, show a3p + W * v3p - a2 = a3p - a2 + W * v3p by omega, show b3p - W * u3p - b2 = b3p - b2 - W * u3p by omega]
    simpa only [Int.sub_eq_add_neg] using h
  have C2 : sim (rE q2) (rE p) (a3 - W * v3 - a2, b3 + W * u3 - b2) (a3p - W * v3p - a2, b3p + W * u3p - b2) := by
    have h := sim_lin Q32 (sim_rot U3) 1 W
    simp only [Int.one_mul, Int.neg_mul, Int.mul_neg, Int.neg_neg] at h
    rw [show a3 - W * v3 - a2 = a3 - a2 - W * v3 by omega, show b3 + W * u3 - b2 = b3 - b2 + W * u3 by omega, show a3p - W * v3p - a2 = a3p - a2 - W * v3p by omega, show b3p + W * u3p - b2 = b3p - b2 + W * u3p by omega]
    simpa only [Int.sub_eq_add_neg] using h
  have C3 : sim (rE q2) (rE p) (a2 - W * v3 - a2, b2 + W * u3 - b2) (a2 - W * v3p - a2, b2 + W * u3p - b2) := by
    have h := sim_lin Q22 (sim_rot U3) 1 W
    simp only [Int.one_mul, Int.neg_mul, Int.mul_neg, Int.neg_neg] at h
    rw [show a2 - W * v3 - a2 = a2 - a2 - W * v3 by omega, show b2 + W * u3 - b2 = b2 - b2 + W * u3 by omega, show a2 - W * v3p - a2 = a2 - a2 - W * v3p by omega, show b2 + W * u3p - b2 = b2 - b2 + W * u3p by omega]
    simpa only [Int.sub_eq_add_neg] using h
  exact ⟨rfl, rfl, sim_far (rE_len q2) (rE_len p) Q32 (by omega) (by omega), sim_far (rE_len q2) (rE_len p) C0 (by omega) (by omega), sim_far (rE_len q2) (rE_len p) C1 (by omega) (by omega), sim_far (rE_len q2) (rE_len p) C2 (by omega) (by omega), sim_far (rE_len q2) (rE_len p) C3 (by omega) (by omega)⟩
end Go.Proofs.YtalhkcmlacppjaaDoor

