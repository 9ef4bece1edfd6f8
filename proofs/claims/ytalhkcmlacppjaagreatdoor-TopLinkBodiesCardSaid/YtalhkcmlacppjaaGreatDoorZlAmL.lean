/- Helpers: what the law reaches. -/
import Derived.Laws.Tables
import Derived.Laws.Rows
import Derived.Test.YtalhkcmlacppjaaGreatDoorZlAmK
namespace Go.Proofs.YtalhkcmlacppjaaGreatDoor
open Go.ChangeShapes Go.WideShapes Go.ChangeAt Go.RowKit
set_option linter.unusedVariables false
set_option linter.unusedSimpArgs false
set_option maxRecDepth 100000

theorem prow_far {w : World} {g r j : Nat} {l : List (Int × Int)} (h : PRow w (some ⟨g, 0, none⟩) l) (hne : r ≠ g) (v : Value) : PRow (w.setCell ⟨r, j, none⟩ v) (some ⟨g, 0, none⟩) l := fun i hi => by
  obtain ⟨b, o, e, c, d⟩ := h i hi
  cases e
  exact ⟨_, _, rfl, (World.cell?_setCell_far _ _ _ _ hne).trans c, (World.cell?_setCell_far _ _ _ _ hne).trans d⟩
theorem prow_notslice {w : World} {g r : Nat} {p : Int × Int} {l : List (Int × Int)} {x y : Value} {T : TypeId} {ao : Option Addr} {n c : Nat} (h : PRow w (some ⟨g, 0, none⟩) (p :: l)) (hr : w.heap[r]? = some (.cells #[.slice ao n c, x, y] T (0, 0))) : r ≠ g := fun e => by
  subst e
  obtain ⟨b, o, e, c1, _⟩ := h 0 (by simp)
  cases e
  have := blk_cell hr 0 _ rfl
  rw [show (0 : Nat) + 0 * 2 = 0 from rfl, this] at c1
  cases c1
theorem eval_tmp {T : Array Value} {D : List Deferred} {t : Nat} {v : Value} (h : T[t]? = some v) : Act.eval ⟨T, D⟩ (.tmp t) = v := by simp [Act.eval, h]
theorem wp_build_to {P : Program} {o : Oper} {a : Act} {w : World} {K : Act → World → Prop} {Q : Exit → Act → World → Prop} (t : TypeId) (parts : Array (Nat × Operand)) (ho : o.op = .build t parts) (cells : Array Value)
    (hc : P.built t (parts.map fun (i, x) => (i, a.eval x)).toList = some cells) (h : K (a.put o.dst (.agg cells)) w) : o.wp P a w K Q :=
  wp_build t parts ho (by rw [hc]; rfl) (by rw [hc]; exact h)
section
variable {F : Fence} {n0 : Nat} {P : Program} {ops : Array Oper} {Q : Exit → Act → World → Prop} {a : Act} {w : World}
theorem below_setRow7 {B g : Nat} {w w' : World} (h : Below B w w') (hg : B ≤ g) (cs : Array Value) : Below B w (w'.setRow g cs) :=
  ⟨h.os, h.tape, h.output, by rw [setRow_size]; exact h.size, fun k hk => (setRow_other w' g k cs (by omega)).trans (h.block k hk)⟩
theorem tail_store (hF : F.fn = fun _ => True) (hd : F.depth = none) (ha : F.alive = false) {i0 : Nat} {rest : List Nat} {o : Oper} (hio : ops[i0]? = some o) (hgd : o.guard = none) (ty : TypeId) (x y : Operand) (ho : o.op = .store ty x y) (hdst : o.dst = none)
    (g : Nat) (cells : Array Value) (hx : a.eval x = .pointer (some ⟨g, 0, none⟩)) (hy : a.eval y = .agg cells) (t : TypeId) (old : Array Value) (hg : w.heap[g]? = some (.cells old t (0, 0))) (hi : (P.info? ty).map (·.size) = some cells.size)
    (hold : old.size = cells.size) (h1 : cells.all (·.oneCell') = true) (h : wpOpsIn F n0 P ops Q rest a (w.setRow g cells)) : wpOpsIn F n0 P ops Q (i0 :: rest) a w := by
  rw [wpOpsIn_cons]
  unfold wpOpIn
  simp only [hio]
  rw [if_pos (by simp [Region.wanted, hgd])]
  exact op_in hF hd ha (by rw [ho]; intro c e; cases e) (wp_store_row ty x y ho g cells hx hy t old hg hi hold h1 (by rw [hdst]; exact h))
end
def bodL (cx cy ex ey uu vv : Int) : List (Int × Int) := [(cx + vv, cy - uu), (ex + vv, ey - uu), (ex - vv, ey + uu), (cx - vv, cy + uu)]
theorem corn_of {cx cy ex ey uu vv : Int} (h : ∀ p ∈ bodL cx cy ex ey uu vv, (-1000000000000 ≤ p.1 ∧ p.1 ≤ 1000000000000) ∧ -1000000000000 ≤ p.2 ∧ p.2 ≤ 1000000000000) : Corn cx cy ex ey uu vv (cx + vv) (cy - uu) (ex + vv) (ey - uu) (ex - vv) (ey + uu) (cx - vv) (cy + uu) := by
  refine ⟨by omega, rfl, by omega, rfl, by omega, rfl, by omega, rfl, ?_⟩
  unfold bodL at h
  simp only [List.forall_mem_cons] at h ⊢
  exact ⟨h.1.1, h.1.2, h.2.1.1, h.2.1.2, h.2.2.1.1, h.2.2.1.2, h.2.2.2.1.1, h.2.2.2.1.2, fun x hx => absurd hx List.not_mem_nil⟩
section
variable {X Y n0 n1 n2 W l0 l1 l2 h0 h1 h2 q0 q1 q2 x1 x2 x3 y1 y2 y3 u1 u2 u3 v1 v2 v3 a1 a2 a3 b1 b2 b3 : Int}
theorem pose_corn (P : Pose X Y n0 n1 n2 q0 q1 q2 x1 x2 x3 y1 y2 y3 u1 u2 u3 v1 v2 v3 a1 a2 a3 b1 b2 b3) (V : armB X Y n0 n1 n2 W l0 l1 l2 h0 h1 h2 = true) : (∀ p ∈ bodL X Y a1 b1 (W * u1) (W * v1), InV p.1 ∧ InV p.2) ∧ (∀ p ∈ bodL a1 b1 a2 b2 (W * u2) (W * v2), InV p.1 ∧ InV p.2) ∧ (∀ p ∈ bodL a2 b2 a3 b3 (W * u3) (W * v3), InV p.1 ∧ InV p.2) ∧ ∀ x ∈ [W * u1, W * v1, W * u2, W * v2, W * u3, W * v3], -20000000 ≤ x ∧ x ≤ 20000000 := by
  have v := (armB_iff X Y n0 n1 n2 W l0 l1 l2 h0 h1 h2).1 V
  obtain ⟨_, m1, m2, m3⟩ := pose_len P
  have r1 := unit_bd m1
  have r2 := unit_bd m2
  have r3 := unit_bd m3
  have t1 := far_bdI (n := W) (by omega) r1.1
  have t2 := far_bdI (n := W) (by omega) r1.2
  have t3 := far_bdI (n := W) (by omega) r2.1
  have t4 := far_bdI (n := W) (by omega) r2.2
  have t5 := far_bdI (n := W) (by omega) r3.1
  have t6 := far_bdI (n := W) (by omega) r3.2
  obtain ⟨B0, B1, B2, B3⟩ := pose_bd P V
  have W0 : 1 ≤ W ∧ W ≤ 4 := by omega
  clear v
  unfold bodL InV
  simp only [List.forall_mem_cons]
  refine ⟨⟨?_, ?_, ?_, ?_, fun x hx => absurd hx List.not_mem_nil⟩, ⟨?_, ?_, ?_, ?_, fun x hx => absurd hx List.not_mem_nil⟩, ⟨?_, ?_, ?_, ?_, fun x hx => absurd hx List.not_mem_nil⟩, ?_, ?_, ?_, ?_, ?_, ?_, fun x hx => absurd hx List.not_mem_nil⟩ <;> first | omega | (simp only; omega)
end

set_option maxHeartbeats 4000000 in
theorem links_is (X Y n0 n1 n2 W l0 l1 l2 h0 h1 h2 : Int) (q0 q1 q2 : Int) (x1 x2 x3 y1 y2 y3 u1 u2 u3 v1 v2 v3 a1 a2 a3 b1 b2 b3 : Int) (L0 L1 L2 : List (Int × Int)) (w : World) (hT : Tab w) (k0 : -1000 ≤ q0 ∧ q0 ≤ 1000) (k1 : -1000 ≤ q1 ∧ q1 ≤ 1000) (k2 : -1000 ≤ q2 ∧ q2 ≤ 1000) (V : Hid (armB X Y n0 n1 n2 W l0 l1 l2 h0 h1 h2 = true)) (P : Hid (Pose X Y n0 n1 n2 q0 q1 q2 x1 x2 x3 y1 y2 y3 u1 u2 u3 v1 v2 v3 a1 a2 a3 b1 b2 b3))
    (E0 : Hid (bodL X Y a1 b1 (W * u1) (W * v1) = L0)) (E1 : Hid (bodL a1 b1 a2 b2 (W * u2) (W * v2) = L1)) (E2 : Hid (bodL a2 b2 a3 b3 (W * u3) (W * v3) = L2)) :
    Calls Tryz.prog 10 #[.agg #[.int .i64 X, .int .i64 Y, .int .i64 n0, .int .i64 n1, .int .i64 n2, .int .i64 W, .int .i64 l0, .int .i64 l1, .int .i64 l2, .int .i64 h0, .int .i64 h1, .int .i64 h2], .agg #[.int .i64 q0, .int .i64 q1, .int .i64 q2]] w fun e w' => (∃ g0 g1 g2, e = .returned (.agg #[.slice (some ⟨g0, 0, none⟩) 4 4, .slice (some ⟨g1, 0, none⟩) 4 4, .slice (some ⟨g2, 0, none⟩) 4 4]) ∧ PRow w' (some ⟨g0, 0, none⟩) L0 ∧ PRow w' (some ⟨g1, 0, none⟩) L1 ∧ PRow w' (some ⟨g2, 0, none⟩) L2) ∧ Below w.heap.size w w' := by
  have WB : Hid (-200 ≤ W ∧ W ≤ 200) := Lib.hid (by have := (armB_iff X Y n0 n1 n2 W l0 l1 l2 h0 h1 h2).1 V.out; omega)
  have PC := Lib.hid (pose_corn P.out V.out)
  have big : ∀ {l : List (Int × Int)}, (∀ p ∈ l, InV p.1 ∧ InV p.2) → ∀ p ∈ l, (-1000000000000 ≤ p.1 ∧ p.1 ≤ 1000000000000) ∧ -1000000000000 ≤ p.2 ∧ p.2 ≤ 1000000000000 := fun h p hp => by have := h p hp; unfold InV at this; omega
  have C0 := Lib.hid (corn_of (big PC.out.1))
  have C1 := Lib.hid (corn_of (big PC.out.2.1))
  have C2 := Lib.hid (corn_of (big PC.out.2.2.1))
  clear big
  have Hu1 : Hid (W * 16 * p65 (3 - 1) * x1 = W * u1) := Lib.hid (by rw [← P.out.f1.1, show p65 (3 - 1) = 4225 by decide]; grind)
  have Hv1 : Hid (W * 16 * p65 (3 - 1) * y1 = W * v1) := Lib.hid (by rw [← P.out.f1.2, show p65 (3 - 1) = 4225 by decide]; grind)
  have M1 : -1000000000000 ≤ W * v1 ∧ W * v1 ≤ 1000000000000 := by have := PC.out.2.2.2 (W * v1) (by simp); omega
  have D1 : Hid (vdB x1 y1 1 = true) := Lib.hid (vd_one q0 x1 y1 (Lib.hid P.out.e1))
  have Hu2 : Hid (W * 16 * p65 (3 - 2) * x2 = W * u2) := Lib.hid (by rw [← P.out.f2.1, show p65 (3 - 2) = 65 by decide]; grind)
  have Hv2 : Hid (W * 16 * p65 (3 - 2) * y2 = W * v2) := Lib.hid (by rw [← P.out.f2.2, show p65 (3 - 2) = 65 by decide]; grind)
  have M2 : -1000000000000 ≤ W * v2 ∧ W * v2 ≤ 1000000000000 := by have := PC.out.2.2.2 (W * v2) (by simp); omega
  have D2 : Hid (vdB x2 y2 2 = true) := Lib.hid (vd_two (x1, y1) q1 x2 y2 1 2 D1.out (by omega) rfl (Lib.hid P.out.e2))
  have Hu3 : Hid (W * 16 * p65 (3 - 3) * x3 = W * u3) := Lib.hid (by rw [← P.out.f3.1, show p65 (3 - 3) = 1 by decide]; grind)
  have Hv3 : Hid (W * 16 * p65 (3 - 3) * y3 = W * v3) := Lib.hid (by rw [← P.out.f3.2, show p65 (3 - 3) = 1 by decide]; grind)
  have M3 : -1000000000000 ≤ W * v3 ∧ W * v3 ≤ 1000000000000 := by have := PC.out.2.2.2 (W * v3) (by simp); omega
  have D3 : Hid (vdB x3 y3 3 = true) := Lib.hid (vd_two (x2, y2) q2 x3 y3 2 3 D2.out (by omega) rfl (Lib.hid P.out.e3))
  go_enter Tryz.func10, Tryz.ntmps10
  go_upto_region 1 with fail
  obtain ⟨W0, hW0⟩ : ∃ z, (((w.alloc (.cells #[.int .i64 X, .int .i64 Y, .int .i64 n0, .int .i64 n1, .int .i64 n2, .int .i64 W, .int .i64 l0, .int .i64 l1, .int .i64 l2, .int .i64 h0, .int .i64 h1, .int .i64 h2] 27)).alloc (.cells #[.int .i64 q0, .int .i64 q1, .int .i64 q2] 25)).alloc (.cells #[.slice none 0 0, .slice none 0 0, .slice none 0 0] 36)) = z := ⟨_, rfl⟩
  have HR : Hid (W0.heap[w.heap.size + 1 + 1]? = some (.cells #[.slice none 0 0, .slice none 0 0, .slice none 0 0] 36 (0, 0))) := Lib.hid (by rw [← hW0]; exact blk_new _ _ _ (by simp))
  have HQ : Hid (W0.heap[w.heap.size + 1]? = some (.cells #[.int .i64 q0, .int .i64 q1, .int .i64 q2] 25 (0, 0))) := Lib.hid (by rw [← hW0]; exact blk_alloc (blk_new _ _ _ (by simp)) _)
  have HA : Hid (W0.heap[w.heap.size]? = some (.cells #[.int .i64 X, .int .i64 Y, .int .i64 n0, .int .i64 n1, .int .i64 n2, .int .i64 W, .int .i64 l0, .int .i64 l1, .int .i64 l2, .int .i64 h0, .int .i64 h1, .int .i64 h2] 27 (0, 0))) := Lib.hid (by rw [← hW0]; exact blk_alloc (blk_alloc (blk_new _ _ _ rfl) _) _)
  have B : Hid (Below w.heap.size w W0) := Lib.hid (by rw [← hW0]; go_grown)
  have TT : Hid (Tab W0) := Lib.hid (by rw [← hW0]; repeat (first | exact hT | apply Tab.alloc))
  rw [hW0]
  clear hW0 hT
  generalize hr : w.heap.size + 1 + 1 = r at *
  generalize hq : w.heap.size + 1 = q at *
  obtain ⟨a, ha⟩ : ∃ a, w.heap.size = a := ⟨_, rfl⟩
  have NR : Hid (w.heap.size ≤ r) := Lib.hid (by omega)
  have NZ : Hid (r < W0.heap.size) := Lib.hid (blk_lt HR.out)
  rw [ha] at HA ⊢
  clear hr hq
  obtain ⟨sp, hsp⟩ : ∃ sp : ToldS, sp = [none, none, none, none, none, some (newS W0.heap.size #[.int .i64 0, .int .i64 0, .int .i64 0, .int .i64 0, .int .i64 0, .int .i64 0, .int .i64 0, .int .i64 0, .int .i64 0, .int .i64 0, .int .i64 0, .int .i64 0, .int .i64 0, .int .i64 0, .int .i64 0, .int .i64 0, .int .i64 0, .int .i64 0, .int .i64 0, .int .i64 0, .int .i64 0, .int .i64 0, .int .i64 0, .int .i64 0, .int .i64 0, .int .i64 0, .int .i64 0, .int .i64 0, .int .i64 0] 63), some (eqS (.agg #[.int .i64 X, .int .i64 Y, .int .i64 n0, .int .i64 n1, .int .i64 n2, .int .i64 W, .int .i64 l0, .int .i64 l1, .int .i64 l2, .int .i64 h0, .int .i64 h1, .int .i64 h2])), some (eqS (.agg #[.int .i64 X, .int .i64 Y, .int .i64 n0, .int .i64 n1, .int .i64 n2, .int .i64 W, .int .i64 l0, .int .i64 l1, .int .i64 l2, .int .i64 h0, .int .i64 h1, .int .i64 h2])), some (eqS (.agg #[.int .i64 q0, .int .i64 q1, .int .i64 q2])), some (eqS (.agg #[.int .i64 x1, .int .i64 y1, .int .i64 1, .int .i64 x2, .int .i64 y2, .int .i64 2, .int .i64 x3, .int .i64 y3, .int .i64 3])), some (eqS (.agg #[.int .i64 X, .int .i64 Y, .int .i64 n0, .int .i64 n1, .int .i64 n2, .int .i64 W, .int .i64 l0, .int .i64 l1, .int .i64 l2, .int .i64 h0, .int .i64 h1, .int .i64 h2])), some (eqS (.agg #[.int .i64 q0, .int .i64 q1, .int .i64 q2])), some (eqS (.agg #[.int .i64 X, .int .i64 Y, .int .i64 a1, .int .i64 b1, .int .i64 a2, .int .i64 b2, .int .i64 a3, .int .i64 b3])), some (eqS (.agg #[.int .i64 X, .int .i64 Y, .int .i64 n0, .int .i64 n1, .int .i64 n2, .int .i64 W, .int .i64 l0, .int .i64 l1, .int .i64 l2, .int .i64 h0, .int .i64 h1, .int .i64 h2, .int .i64 x1, .int .i64 y1, .int .i64 1, .int .i64 x2, .int .i64 y2, .int .i64 2, .int .i64 x3, .int .i64 y3, .int .i64 3, .int .i64 X, .int .i64 Y, .int .i64 a1, .int .i64 b1, .int .i64 a2, .int .i64 b2, .int .i64 a3, .int .i64 b3]))] := ⟨_, rfl⟩
  have s5 : sp.getD 5 none = some (newS W0.heap.size #[.int .i64 0, .int .i64 0, .int .i64 0, .int .i64 0, .int .i64 0, .int .i64 0, .int .i64 0, .int .i64 0, .int .i64 0, .int .i64 0, .int .i64 0, .int .i64 0, .int .i64 0, .int .i64 0, .int .i64 0, .int .i64 0, .int .i64 0, .int .i64 0, .int .i64 0, .int .i64 0, .int .i64 0, .int .i64 0, .int .i64 0, .int .i64 0, .int .i64 0, .int .i64 0, .int .i64 0, .int .i64 0, .int .i64 0] 63) := by rw [hsp]; rfl
  have s6 : sp.getD 6 none = some (eqS (.agg #[.int .i64 X, .int .i64 Y, .int .i64 n0, .int .i64 n1, .int .i64 n2, .int .i64 W, .int .i64 l0, .int .i64 l1, .int .i64 l2, .int .i64 h0, .int .i64 h1, .int .i64 h2])) := by rw [hsp]; rfl
  have s7 : sp.getD 7 none = some (eqS (.agg #[.int .i64 X, .int .i64 Y, .int .i64 n0, .int .i64 n1, .int .i64 n2, .int .i64 W, .int .i64 l0, .int .i64 l1, .int .i64 l2, .int .i64 h0, .int .i64 h1, .int .i64 h2])) := by rw [hsp]; rfl
  have s8 : sp.getD 8 none = some (eqS (.agg #[.int .i64 q0, .int .i64 q1, .int .i64 q2])) := by rw [hsp]; rfl
  have s9 : sp.getD 9 none = some (eqS (.agg #[.int .i64 x1, .int .i64 y1, .int .i64 1, .int .i64 x2, .int .i64 y2, .int .i64 2, .int .i64 x3, .int .i64 y3, .int .i64 3])) := by rw [hsp]; rfl
  have s10 : sp.getD 10 none = some (eqS (.agg #[.int .i64 X, .int .i64 Y, .int .i64 n0, .int .i64 n1, .int .i64 n2, .int .i64 W, .int .i64 l0, .int .i64 l1, .int .i64 l2, .int .i64 h0, .int .i64 h1, .int .i64 h2])) := by rw [hsp]; rfl
  have s11 : sp.getD 11 none = some (eqS (.agg #[.int .i64 q0, .int .i64 q1, .int .i64 q2])) := by rw [hsp]; rfl
  have s12 : sp.getD 12 none = some (eqS (.agg #[.int .i64 X, .int .i64 Y, .int .i64 a1, .int .i64 b1, .int .i64 a2, .int .i64 b2, .int .i64 a3, .int .i64 b3])) := by rw [hsp]; rfl
  have s13 : sp.getD 13 none = some (eqS (.agg #[.int .i64 X, .int .i64 Y, .int .i64 n0, .int .i64 n1, .int .i64 n2, .int .i64 W, .int .i64 l0, .int .i64 l1, .int .i64 l2, .int .i64 h0, .int .i64 h1, .int .i64 h2, .int .i64 x1, .int .i64 y1, .int .i64 1, .int .i64 x2, .int .i64 y2, .int .i64 2, .int .i64 x3, .int .i64 y3, .int .i64 3, .int .i64 X, .int .i64 Y, .int .i64 a1, .int .i64 b1, .int .i64 a2, .int .i64 b2, .int .i64 a3, .int .i64 b3])) := by rw [hsp]; rfl
  clear hsp
  refine (wpIn_wide (n := 0)).1 (region_headR (RtS sp) (rtS_keep sp) 9 rfl rfl rfl (by kernel_rfl) (by decide) (by kernel_rfl) (by kernel_rfl) (by kernel_rfl) ?_ ?_)
  · intro Q'; show ObsR _ _ _ _ _ _ _ _ (List.take _ _); simp only [List.take_succ_cons, List.take_zero]
    refine obsR_cons ?_ ?_
    · intro T wx K hB hF hD hK
      have g2 : T[2]? = some (.pointer (some ⟨a, 0, none⟩)) := hF 2 (freeM_of (by kernel_rfl))
      refine ob_yes (wanted_none rfl) ?_
      clear hF hD
      exact wp_load_row 27 (.tmp 2) rfl a (eval_tmp g2) _ _ _ _ (blk_call HA.out hB) Tryz.underlying27 rfl (by kernel_rfl) (hK _ _ (Below.refl _ _) (rt_eqS s6))
    refine obsR_cons ?_ ?_
    · intro T wx K hB hF hD hK
      have g2 : T[2]? = some (.pointer (some ⟨a, 0, none⟩)) := hF 2 (freeM_of (by kernel_rfl))
      refine ob_yes (wanted_none rfl) ?_
      clear hF hD
      exact wp_load_row 27 (.tmp 2) rfl a (eval_tmp g2) _ _ _ _ (blk_call HA.out hB) Tryz.underlying27 rfl (by kernel_rfl) (hK _ _ (Below.refl _ _) (rt_eqS s7))
    refine obsR_cons ?_ ?_
    · intro T wx K hB hF hD hK
      have g3 : T[3]? = some (.pointer (some ⟨q, 0, none⟩)) := hF 3 (freeM_of (by kernel_rfl))
      refine ob_yes (wanted_none rfl) ?_
      clear hF hD
      exact wp_load_row 25 (.tmp 3) rfl q (eval_tmp g3) _ _ _ _ (blk_call HQ.out hB) Tryz.underlying25 rfl (by kernel_rfl) (hK _ _ (Below.refl _ _) (rt_eqS s8))
    refine obsR_cons ?_ ?_
    · intro T wx K hB hF hD hK
      have g7 := get_eqS (hD 1 7 (by simp [Region.binds]) (by kernel_rfl)) s7
      have g8 := get_eqS (hD 2 8 (by simp [Region.binds]) (by kernel_rfl)) s8
      refine ob_yes (wanted_none rfl) ?_
      clear hF hD
      go_simp
      refine (ldirs_is X Y n0 n1 n2 W l0 l1 l2 h0 h1 h2 q0 q1 q2 x1 y1 x2 y2 x3 y3 _ (TT.out.below hB) k0 k1 k2 (Lib.hid P.out.e1) (Lib.hid P.out.e2) (Lib.hid P.out.e3)).mono ?_; rintro e w9 ⟨rfl, hb⟩
      exact hK _ _ hb (rt_eqS s9)
    refine obsR_cons ?_ ?_
    · intro T wx K hB hF hD hK
      have g2 : T[2]? = some (.pointer (some ⟨a, 0, none⟩)) := hF 2 (freeM_of (by kernel_rfl))
      refine ob_yes (wanted_none rfl) ?_
      clear hF hD
      exact wp_load_row 27 (.tmp 2) rfl a (eval_tmp g2) _ _ _ _ (blk_call HA.out hB) Tryz.underlying27 rfl (by kernel_rfl) (hK _ _ (Below.refl _ _) (rt_eqS s10))
    refine obsR_cons ?_ ?_
    · intro T wx K hB hF hD hK
      have g3 : T[3]? = some (.pointer (some ⟨q, 0, none⟩)) := hF 3 (freeM_of (by kernel_rfl))
      refine ob_yes (wanted_none rfl) ?_
      clear hF hD
      exact wp_load_row 25 (.tmp 3) rfl q (eval_tmp g3) _ _ _ _ (blk_call HQ.out hB) Tryz.underlying25 rfl (by kernel_rfl) (hK _ _ (Below.refl _ _) (rt_eqS s11))
    refine obsR_cons ?_ ?_
    · intro T wx K hB hF hD hK
      have g10 := get_eqS (hD 4 10 (by simp [Region.binds]) (by kernel_rfl)) s10
      have g11 := get_eqS (hD 5 11 (by simp [Region.binds]) (by kernel_rfl)) s11
      refine ob_yes (wanted_none rfl) ?_
      clear hF hD
      go_simp
      refine (jpts_is X Y n0 n1 n2 W l0 l1 l2 h0 h1 h2 q0 q1 q2 x1 x2 x3 y1 y2 y3 u1 u2 u3 v1 v2 v3 a1 a2 a3 b1 b2 b3 _ (TT.out.below hB) k0 k1 k2 V P).mono ?_; rintro e w9 ⟨rfl, hb⟩
      exact hK _ _ hb (rt_eqS s12)
    refine obsR_cons ?_ ?_
    · intro T wx K hB hF hD hK
      have g6 := get_eqS (hD 0 6 (by simp [Region.binds]) (by kernel_rfl)) s6
      have g9 := get_eqS (hD 3 9 (by simp [Region.binds]) (by kernel_rfl)) s9
      have g12 := get_eqS (hD 6 12 (by simp [Region.binds]) (by kernel_rfl)) s12
      refine ob_yes (wanted_none rfl) ?_
      clear hF hD
      refine wp_build_to 63 #[(0, .tmp 6), (1, .tmp 9), (2, .tmp 12)] rfl #[.int .i64 X, .int .i64 Y, .int .i64 n0, .int .i64 n1, .int .i64 n2, .int .i64 W, .int .i64 l0, .int .i64 l1, .int .i64 l2, .int .i64 h0, .int .i64 h1, .int .i64 h2, .int .i64 x1, .int .i64 y1, .int .i64 1, .int .i64 x2, .int .i64 y2, .int .i64 2, .int .i64 x3, .int .i64 y3, .int .i64 3, .int .i64 X, .int .i64 Y, .int .i64 a1, .int .i64 b1, .int .i64 a2, .int .i64 b2, .int .i64 a3, .int .i64 b3] ?_ (hK _ _ (Below.refl _ _) (rt_eqS s13))
      simp only [List.map_toArray, List.map_cons, List.map_nil, eval_tmp g6, eval_tmp g9, eval_tmp g12]
      kernel_rfl
    refine obsR_cons ?_ ?_
    · intro T wx K hB hF hD hK
      refine ob_yes (wanted_none rfl) ?_
      clear hF hD
      go_simp
      exact hK _ _ (belA (Below.refl _ _) _) (rt_S s5 ⟨_, rfl, hB.size, blk_new _ _ _ rfl⟩)
    exact obsR_nil
  · intro T9 w8 hb8 hF hs hD
    have g6 := get_eqS (hD 0 6 (by decide) (by kernel_rfl)) s6
    have g7 := get_eqS (hD 1 7 (by decide) (by kernel_rfl)) s7
    have g8 := get_eqS (hD 2 8 (by decide) (by kernel_rfl)) s8
    have g9 := get_eqS (hD 3 9 (by decide) (by kernel_rfl)) s9
    have g10 := get_eqS (hD 4 10 (by decide) (by kernel_rfl)) s10
    have g11 := get_eqS (hD 5 11 (by decide) (by kernel_rfl)) s11
    have g12 := get_eqS (hD 6 12 (by decide) (by kernel_rfl)) s12
    have g13 := get_eqS (hD 7 13 (by decide) (by kernel_rfl)) s13
    obtain ⟨v5, g5, p5⟩ := getS (hD 8 5 (by decide) (by kernel_rfl)) s5
    have hT := conc [(6, .agg #[.int .i64 X, .int .i64 Y, .int .i64 n0, .int .i64 n1, .int .i64 n2, .int .i64 W, .int .i64 l0, .int .i64 l1, .int .i64 l2, .int .i64 h0, .int .i64 h1, .int .i64 h2]), (7, .agg #[.int .i64 X, .int .i64 Y, .int .i64 n0, .int .i64 n1, .int .i64 n2, .int .i64 W, .int .i64 l0, .int .i64 l1, .int .i64 l2, .int .i64 h0, .int .i64 h1, .int .i64 h2]), (8, .agg #[.int .i64 q0, .int .i64 q1, .int .i64 q2]), (9, .agg #[.int .i64 x1, .int .i64 y1, .int .i64 1, .int .i64 x2, .int .i64 y2, .int .i64 2, .int .i64 x3, .int .i64 y3, .int .i64 3]), (10, .agg #[.int .i64 X, .int .i64 Y, .int .i64 n0, .int .i64 n1, .int .i64 n2, .int .i64 W, .int .i64 l0, .int .i64 l1, .int .i64 l2, .int .i64 h0, .int .i64 h1, .int .i64 h2]), (11, .agg #[.int .i64 q0, .int .i64 q1, .int .i64 q2]), (12, .agg #[.int .i64 X, .int .i64 Y, .int .i64 a1, .int .i64 b1, .int .i64 a2, .int .i64 b2, .int .i64 a3, .int .i64 b3]), (13, .agg #[.int .i64 X, .int .i64 Y, .int .i64 n0, .int .i64 n1, .int .i64 n2, .int .i64 W, .int .i64 l0, .int .i64 l1, .int .i64 l2, .int .i64 h0, .int .i64 h1, .int .i64 h2, .int .i64 x1, .int .i64 y1, .int .i64 1, .int .i64 x2, .int .i64 y2, .int .i64 2, .int .i64 x3, .int .i64 y3, .int .i64 3, .int .i64 X, .int .i64 Y, .int .i64 a1, .int .i64 b1, .int .i64 a2, .int .i64 b2, .int .i64 a3, .int .i64 b3]), (5, v5)] hs hF (by simp only [List.forall_mem_cons]; exact ⟨g6, g7, g8, g9, g10, g11, g12, g13, g5, fun p hp => absurd hp List.not_mem_nil⟩) (by kernel_rfl)
    simp only [List.foldl, List.setIfInBounds_toArray, List.set_cons_succ, List.set_cons_zero] at hT
    subst hT
    clear hF hD hs g6 g7 g8 g9 g10 g11 g12 g13 g5 s5 s6 s7 s8 s9 s10 s11 s12 s13
    show wpOpsIn _ _ _ _ _ [9] _ _
    obtain ⟨s, rfl, hs, h5⟩ := p5
    refine tail_store rfl rfl rfl rfl rfl 63 (.tmp 5) (.tmp 13) rfl rfl s #[.int .i64 X, .int .i64 Y, .int .i64 n0, .int .i64 n1, .int .i64 n2, .int .i64 W, .int .i64 l0, .int .i64 l1, .int .i64 l2, .int .i64 h0, .int .i64 h1, .int .i64 h2, .int .i64 x1, .int .i64 y1, .int .i64 1, .int .i64 x2, .int .i64 y2, .int .i64 2, .int .i64 x3, .int .i64 y3, .int .i64 3, .int .i64 X, .int .i64 Y, .int .i64 a1, .int .i64 b1, .int .i64 a2, .int .i64 b2, .int .i64 a3, .int .i64 b3] rfl rfl _ _ h5 (by kernel_rfl) rfl (by kernel_rfl) ?_
    have hsr : s ≠ r := by have := NZ.out; omega
    have hsw : w.heap.size ≤ s := by have := B.out.size; omega
    have HP1 := Lib.hid (setRow_heap w8 s _ #[.int .i64 X, .int .i64 Y, .int .i64 n0, .int .i64 n1, .int .i64 n2, .int .i64 W, .int .i64 l0, .int .i64 l1, .int .i64 l2, .int .i64 h0, .int .i64 h1, .int .i64 h2, .int .i64 x1, .int .i64 y1, .int .i64 1, .int .i64 x2, .int .i64 y2, .int .i64 2, .int .i64 x3, .int .i64 y3, .int .i64 3, .int .i64 X, .int .i64 Y, .int .i64 a1, .int .i64 b1, .int .i64 a2, .int .i64 b2, .int .i64 a3, .int .i64 b3] _ _ h5)
    have HR1 := Lib.hid ((setRow_other w8 s r #[.int .i64 X, .int .i64 Y, .int .i64 n0, .int .i64 n1, .int .i64 n2, .int .i64 W, .int .i64 l0, .int .i64 l1, .int .i64 l2, .int .i64 h0, .int .i64 h1, .int .i64 h2, .int .i64 x1, .int .i64 y1, .int .i64 1, .int .i64 x2, .int .i64 y2, .int .i64 2, .int .i64 x3, .int .i64 y3, .int .i64 3, .int .i64 X, .int .i64 Y, .int .i64 a1, .int .i64 b1, .int .i64 a2, .int .i64 b2, .int .i64 a3, .int .i64 b3] (fun h => hsr h.symm)).trans (blk_call HR.out hb8))
    have B1 := Lib.hid (below_setRow7 (belT B.out hb8) hsw #[.int .i64 X, .int .i64 Y, .int .i64 n0, .int .i64 n1, .int .i64 n2, .int .i64 W, .int .i64 l0, .int .i64 l1, .int .i64 l2, .int .i64 h0, .int .i64 h1, .int .i64 h2, .int .i64 x1, .int .i64 y1, .int .i64 1, .int .i64 x2, .int .i64 y2, .int .i64 2, .int .i64 x3, .int .i64 y3, .int .i64 3, .int .i64 X, .int .i64 Y, .int .i64 a1, .int .i64 b1, .int .i64 a2, .int .i64 b2, .int .i64 a3, .int .i64 b3])
    have TT1 := Lib.hid (Tab.below TT.out (below_setRow7 hb8 hs #[.int .i64 X, .int .i64 Y, .int .i64 n0, .int .i64 n1, .int .i64 n2, .int .i64 W, .int .i64 l0, .int .i64 l1, .int .i64 l2, .int .i64 h0, .int .i64 h1, .int .i64 h2, .int .i64 x1, .int .i64 y1, .int .i64 1, .int .i64 x2, .int .i64 y2, .int .i64 2, .int .i64 x3, .int .i64 y3, .int .i64 3, .int .i64 X, .int .i64 Y, .int .i64 a1, .int .i64 b1, .int .i64 a2, .int .i64 b2, .int .i64 a3, .int .i64 b3]))
    simp only [wpOpsIn]
    generalize w8.setRow s #[.int .i64 X, .int .i64 Y, .int .i64 n0, .int .i64 n1, .int .i64 n2, .int .i64 W, .int .i64 l0, .int .i64 l1, .int .i64 l2, .int .i64 h0, .int .i64 h1, .int .i64 h2, .int .i64 x1, .int .i64 y1, .int .i64 1, .int .i64 x2, .int .i64 y2, .int .i64 2, .int .i64 x3, .int .i64 y3, .int .i64 3, .int .i64 X, .int .i64 Y, .int .i64 a1, .int .i64 b1, .int .i64 a2, .int .i64 b2, .int .i64 a3, .int .i64 b3] = W1 at *
    clear hb8 hs h5 HR HA HQ B TT
    go_upto_region 2 with fail
    obtain ⟨sp, hsp⟩ : ∃ sp : ToldS, sp = [none, none, none, none, none, none, none, none, none, none, none, none, none, none, some (eqS (.agg #[.int .i64 X, .int .i64 Y, .int .i64 n0, .int .i64 n1, .int .i64 n2, .int .i64 W, .int .i64 l0, .int .i64 l1, .int .i64 l2, .int .i64 h0, .int .i64 h1, .int .i64 h2, .int .i64 x1, .int .i64 y1, .int .i64 1, .int .i64 x2, .int .i64 y2, .int .i64 2, .int .i64 x3, .int .i64 y3, .int .i64 3, .int .i64 X, .int .i64 Y, .int .i64 a1, .int .i64 b1, .int .i64 a2, .int .i64 b2, .int .i64 a3, .int .i64 b3])), some (row4 L0), some (eqS (.agg #[.int .i64 X, .int .i64 Y, .int .i64 n0, .int .i64 n1, .int .i64 n2, .int .i64 W, .int .i64 l0, .int .i64 l1, .int .i64 l2, .int .i64 h0, .int .i64 h1, .int .i64 h2, .int .i64 x1, .int .i64 y1, .int .i64 1, .int .i64 x2, .int .i64 y2, .int .i64 2, .int .i64 x3, .int .i64 y3, .int .i64 3, .int .i64 X, .int .i64 Y, .int .i64 a1, .int .i64 b1, .int .i64 a2, .int .i64 b2, .int .i64 a3, .int .i64 b3])), some (row4 L1), some (eqS (.agg #[.int .i64 X, .int .i64 Y, .int .i64 n0, .int .i64 n1, .int .i64 n2, .int .i64 W, .int .i64 l0, .int .i64 l1, .int .i64 l2, .int .i64 h0, .int .i64 h1, .int .i64 h2, .int .i64 x1, .int .i64 y1, .int .i64 1, .int .i64 x2, .int .i64 y2, .int .i64 2, .int .i64 x3, .int .i64 y3, .int .i64 3, .int .i64 X, .int .i64 Y, .int .i64 a1, .int .i64 b1, .int .i64 a2, .int .i64 b2, .int .i64 a3, .int .i64 b3])), some (row4 L2)] := ⟨_, rfl⟩
    have s14 : sp.getD 14 none = some (eqS (.agg #[.int .i64 X, .int .i64 Y, .int .i64 n0, .int .i64 n1, .int .i64 n2, .int .i64 W, .int .i64 l0, .int .i64 l1, .int .i64 l2, .int .i64 h0, .int .i64 h1, .int .i64 h2, .int .i64 x1, .int .i64 y1, .int .i64 1, .int .i64 x2, .int .i64 y2, .int .i64 2, .int .i64 x3, .int .i64 y3, .int .i64 3, .int .i64 X, .int .i64 Y, .int .i64 a1, .int .i64 b1, .int .i64 a2, .int .i64 b2, .int .i64 a3, .int .i64 b3])) := by rw [hsp]; rfl
    have s15 : sp.getD 15 none = some (row4 L0) := by rw [hsp]; rfl
    have s16 : sp.getD 16 none = some (eqS (.agg #[.int .i64 X, .int .i64 Y, .int .i64 n0, .int .i64 n1, .int .i64 n2, .int .i64 W, .int .i64 l0, .int .i64 l1, .int .i64 l2, .int .i64 h0, .int .i64 h1, .int .i64 h2, .int .i64 x1, .int .i64 y1, .int .i64 1, .int .i64 x2, .int .i64 y2, .int .i64 2, .int .i64 x3, .int .i64 y3, .int .i64 3, .int .i64 X, .int .i64 Y, .int .i64 a1, .int .i64 b1, .int .i64 a2, .int .i64 b2, .int .i64 a3, .int .i64 b3])) := by rw [hsp]; rfl
    have s17 : sp.getD 17 none = some (row4 L1) := by rw [hsp]; rfl
    have s18 : sp.getD 18 none = some (eqS (.agg #[.int .i64 X, .int .i64 Y, .int .i64 n0, .int .i64 n1, .int .i64 n2, .int .i64 W, .int .i64 l0, .int .i64 l1, .int .i64 l2, .int .i64 h0, .int .i64 h1, .int .i64 h2, .int .i64 x1, .int .i64 y1, .int .i64 1, .int .i64 x2, .int .i64 y2, .int .i64 2, .int .i64 x3, .int .i64 y3, .int .i64 3, .int .i64 X, .int .i64 Y, .int .i64 a1, .int .i64 b1, .int .i64 a2, .int .i64 b2, .int .i64 a3, .int .i64 b3])) := by rw [hsp]; rfl
    have s19 : sp.getD 19 none = some (row4 L2) := by rw [hsp]; rfl
    clear hsp
    refine (wpIn_wide (n := 0)).1 (region_headR (RtS sp) (rtS_keep sp) 6 rfl rfl rfl (by kernel_rfl) (by decide) (by kernel_rfl) (by kernel_rfl) (by kernel_rfl) ?_ ?_)
    · intro Q'; show ObsR _ _ _ _ _ _ _ _ (List.take _ _); simp only [List.take_succ_cons, List.take_zero]
      refine obsR_cons ?_ ?_
      · intro T wx K hB hF hD hK
        have g5 : T[5]? = some (.pointer (some ⟨s, 0, none⟩)) := hF 5 (freeM_of (by kernel_rfl))
        refine ob_yes (wanted_none rfl) ?_
        clear hF hD
        exact wp_load_row 63 (.tmp 5) rfl s (eval_tmp g5) _ _ _ _ (blk_call HP1.out hB) Tryz.underlying63 rfl (by kernel_rfl) (hK _ _ (Below.refl _ _) (rt_eqS s14))
      refine obsR_cons ?_ ?_
      · intro T wx K hB hF hD hK
        have g14 := get_eqS (hD 0 14 (by simp [Region.binds]) (by kernel_rfl)) s14
        refine ob_yes (wanted_none rfl) ?_
        clear hF hD
        go_simp
        refine (body_is X Y n0 n1 n2 W l0 l1 l2 h0 h1 h2 x1 x2 x3 y1 y2 y3 u1 u2 u3 v1 v2 v3 a1 a2 a3 b1 b2 b3 0 1 x1 y1 X Y a1 b1 (W * u1) (W * v1) (X + W * v1) (Y - W * u1) (a1 + W * v1) (b1 - W * u1) (a1 - W * v1) (b1 + W * u1) (X - W * v1) (Y + W * u1) 12 21 23 _ (Lib.hid (Or.inl ⟨rfl, rfl, rfl, rfl, rfl, rfl, rfl, rfl⟩)) D1 WB.out Hu1 Hv1 C0 M1).mono ?_; rintro e w9 ⟨⟨g9, rfl, pr⟩, hb⟩
        exact hK _ _ hb (rt_S s15 ⟨g9, rfl, E0.out ▸ pr⟩)
      refine obsR_cons ?_ ?_
      · intro T wx K hB hF hD hK
        have g5 : T[5]? = some (.pointer (some ⟨s, 0, none⟩)) := hF 5 (freeM_of (by kernel_rfl))
        refine ob_yes (wanted_none rfl) ?_
        clear hF hD
        exact wp_load_row 63 (.tmp 5) rfl s (eval_tmp g5) _ _ _ _ (blk_call HP1.out hB) Tryz.underlying63 rfl (by kernel_rfl) (hK _ _ (Below.refl _ _) (rt_eqS s16))
      refine obsR_cons ?_ ?_
      · intro T wx K hB hF hD hK
        have g16 := get_eqS (hD 2 16 (by simp [Region.binds]) (by kernel_rfl)) s16
        refine ob_yes (wanted_none rfl) ?_
        clear hF hD
        go_simp
        refine (body_is X Y n0 n1 n2 W l0 l1 l2 h0 h1 h2 x1 x2 x3 y1 y2 y3 u1 u2 u3 v1 v2 v3 a1 a2 a3 b1 b2 b3 1 2 x2 y2 a1 b1 a2 b2 (W * u2) (W * v2) (a1 + W * v2) (b1 - W * u2) (a2 + W * v2) (b2 - W * u2) (a2 - W * v2) (b2 + W * u2) (a1 - W * v2) (b1 + W * u2) 15 23 25 _ (Lib.hid (Or.inr (Or.inl ⟨rfl, rfl, rfl, rfl, rfl, rfl, rfl, rfl⟩))) D2 WB.out Hu2 Hv2 C1 M2).mono ?_; rintro e w9 ⟨⟨g9, rfl, pr⟩, hb⟩
        exact hK _ _ hb (rt_S s17 ⟨g9, rfl, E1.out ▸ pr⟩)
      refine obsR_cons ?_ ?_
      · intro T wx K hB hF hD hK
        have g5 : T[5]? = some (.pointer (some ⟨s, 0, none⟩)) := hF 5 (freeM_of (by kernel_rfl))
        refine ob_yes (wanted_none rfl) ?_
        clear hF hD
        exact wp_load_row 63 (.tmp 5) rfl s (eval_tmp g5) _ _ _ _ (blk_call HP1.out hB) Tryz.underlying63 rfl (by kernel_rfl) (hK _ _ (Below.refl _ _) (rt_eqS s18))
      refine obsR_cons ?_ ?_
      · intro T wx K hB hF hD hK
        have g18 := get_eqS (hD 4 18 (by simp [Region.binds]) (by kernel_rfl)) s18
        refine ob_yes (wanted_none rfl) ?_
        clear hF hD
        go_simp
        refine (body_is X Y n0 n1 n2 W l0 l1 l2 h0 h1 h2 x1 x2 x3 y1 y2 y3 u1 u2 u3 v1 v2 v3 a1 a2 a3 b1 b2 b3 2 3 x3 y3 a2 b2 a3 b3 (W * u3) (W * v3) (a2 + W * v3) (b2 - W * u3) (a3 + W * v3) (b3 - W * u3) (a3 - W * v3) (b3 + W * u3) (a2 - W * v3) (b2 + W * u3) 18 25 27 _ (Lib.hid (Or.inr (Or.inr ⟨rfl, rfl, rfl, rfl, rfl, rfl, rfl, rfl⟩))) D3 WB.out Hu3 Hv3 C2 M3).mono ?_; rintro e w9 ⟨⟨g9, rfl, pr⟩, hb⟩
        exact hK _ _ hb (rt_S s19 ⟨g9, rfl, E2.out ▸ pr⟩)
      exact obsR_nil
    · intro T9 w8 hb8 hF hs hD
      have g14 := get_eqS (hD 0 14 (by decide) (by kernel_rfl)) s14
      obtain ⟨v15, g15, p15⟩ := getS (hD 1 15 (by decide) (by kernel_rfl)) s15
      have g16 := get_eqS (hD 2 16 (by decide) (by kernel_rfl)) s16
      obtain ⟨v17, g17, p17⟩ := getS (hD 3 17 (by decide) (by kernel_rfl)) s17
      have g18 := get_eqS (hD 4 18 (by decide) (by kernel_rfl)) s18
      obtain ⟨v19, g19, p19⟩ := getS (hD 5 19 (by decide) (by kernel_rfl)) s19
      have hT := conc [(14, .agg #[.int .i64 X, .int .i64 Y, .int .i64 n0, .int .i64 n1, .int .i64 n2, .int .i64 W, .int .i64 l0, .int .i64 l1, .int .i64 l2, .int .i64 h0, .int .i64 h1, .int .i64 h2, .int .i64 x1, .int .i64 y1, .int .i64 1, .int .i64 x2, .int .i64 y2, .int .i64 2, .int .i64 x3, .int .i64 y3, .int .i64 3, .int .i64 X, .int .i64 Y, .int .i64 a1, .int .i64 b1, .int .i64 a2, .int .i64 b2, .int .i64 a3, .int .i64 b3]), (15, v15), (16, .agg #[.int .i64 X, .int .i64 Y, .int .i64 n0, .int .i64 n1, .int .i64 n2, .int .i64 W, .int .i64 l0, .int .i64 l1, .int .i64 l2, .int .i64 h0, .int .i64 h1, .int .i64 h2, .int .i64 x1, .int .i64 y1, .int .i64 1, .int .i64 x2, .int .i64 y2, .int .i64 2, .int .i64 x3, .int .i64 y3, .int .i64 3, .int .i64 X, .int .i64 Y, .int .i64 a1, .int .i64 b1, .int .i64 a2, .int .i64 b2, .int .i64 a3, .int .i64 b3]), (17, v17), (18, .agg #[.int .i64 X, .int .i64 Y, .int .i64 n0, .int .i64 n1, .int .i64 n2, .int .i64 W, .int .i64 l0, .int .i64 l1, .int .i64 l2, .int .i64 h0, .int .i64 h1, .int .i64 h2, .int .i64 x1, .int .i64 y1, .int .i64 1, .int .i64 x2, .int .i64 y2, .int .i64 2, .int .i64 x3, .int .i64 y3, .int .i64 3, .int .i64 X, .int .i64 Y, .int .i64 a1, .int .i64 b1, .int .i64 a2, .int .i64 b2, .int .i64 a3, .int .i64 b3]), (19, v19)] hs hF (by simp only [List.forall_mem_cons]; exact ⟨g14, g15, g16, g17, g18, g19, fun p hp => absurd hp List.not_mem_nil⟩) (by kernel_rfl)
      simp only [List.foldl, List.setIfInBounds_toArray, List.set_cons_succ, List.set_cons_zero] at hT
      subst hT
      clear hF hD hs g14 g15 g16 g17 g18 g19 s14 s15 s16 s17 s18 s19
      show wpOpsIn _ _ _ _ _ [6, 7] _ _
      obtain ⟨g0, rfl, pr0⟩ := p15
      obtain ⟨g1, rfl, pr1⟩ := p17
      obtain ⟨g2, rfl, pr2⟩ := p19
      have R0 := Lib.hid (blk_call HR1.out hb8)
      have PR0 := Lib.hid pr0
      have PR1 := Lib.hid pr1
      have PR2 := Lib.hid pr2
      have B2 := Lib.hid (belT B1.out hb8)
      have r0 := blk_cell R0.out 0 _ rfl
      have r1 := blk_cell R0.out 1 _ rfl
      have r2 := blk_cell R0.out 2 _ rfl
      have r3 := blk_fz R0.out 0
      have r4 := blk_fz R0.out 1
      have r5 := blk_fz R0.out 2
      clear pr0 pr1 pr2
      simp only [wpOpsIn]
      go_simp
      clear r0 r1 r2 r3 r4 r5
      have n0' : r ≠ g0 := prow_notslice (E0.out ▸ PR0.out) R0.out
      have n1' : r ≠ g1 := prow_notslice (E1.out ▸ PR1.out) R0.out
      have n2' : r ≠ g2 := prow_notslice (E2.out ▸ PR2.out) R0.out
      have B3 := Lib.hid (belS (p := ⟨r, 2, none⟩) (belS (p := ⟨r, 1, none⟩) (belS (p := ⟨r, 0, none⟩) B2.out NR.out (.slice (some ⟨g0, 0, none⟩) 4 4)) NR.out (.slice (some ⟨g1, 0, none⟩) 4 4)) NR.out (.slice (some ⟨g2, 0, none⟩) 4 4))
      have Q0 := Lib.hid (prow_far (j := 2) (prow_far (j := 1) (prow_far (j := 0) PR0.out n0' (.slice (some ⟨g0, 0, none⟩) 4 4)) n0' (.slice (some ⟨g1, 0, none⟩) 4 4)) n0' (.slice (some ⟨g2, 0, none⟩) 4 4))
      have Q1 := Lib.hid (prow_far (j := 2) (prow_far (j := 1) (prow_far (j := 0) PR1.out n1' (.slice (some ⟨g0, 0, none⟩) 4 4)) n1' (.slice (some ⟨g1, 0, none⟩) 4 4)) n1' (.slice (some ⟨g2, 0, none⟩) 4 4))
      have Q2 := Lib.hid (prow_far (j := 2) (prow_far (j := 1) (prow_far (j := 0) PR2.out n2' (.slice (some ⟨g0, 0, none⟩) 4 4)) n2' (.slice (some ⟨g1, 0, none⟩) 4 4)) n2' (.slice (some ⟨g2, 0, none⟩) 4 4))
      have HZ := Lib.hid (blk_set (j := 2) (blk_set (j := 1) (blk_set (j := 0) R0.out (.slice (some ⟨g0, 0, none⟩) 4 4)) (.slice (some ⟨g1, 0, none⟩) 4 4)) (.slice (some ⟨g2, 0, none⟩) 4 4))
      generalize (((w8.setCell ⟨r, 0, none⟩ (.slice (some ⟨g0, 0, none⟩) 4 4)).setCell ⟨r, 1, none⟩ (.slice (some ⟨g1, 0, none⟩) 4 4)).setCell ⟨r, 2, none⟩ (.slice (some ⟨g2, 0, none⟩) 4 4)) = W2 at *
      have r0 := blk_cell HZ.out 0 _ rfl
      have r1 := blk_cell HZ.out 1 _ rfl
      have r2 := blk_cell HZ.out 2 _ rfl
      go_wp2_with fail
      refine bodyPost_ret (v := .agg #[.slice (some ⟨g0, 0, none⟩) 4 4, .slice (some ⟨g1, 0, none⟩) 4 4, .slice (some ⟨g2, 0, none⟩) 4 4]) (by simp [results, Tryz.results10, go_sem, r0, r1, r2]) rfl ?_
      exact ⟨⟨g0, g1, g2, rfl, Q0.out, Q1.out, Q2.out⟩, B3.out⟩
end Go.Proofs.YtalhkcmlacppjaaGreatDoor

