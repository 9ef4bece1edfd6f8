/- For every valid arm, all joint values within its limits and every sequence of up to 100 steps, a step is undone by the opposite one, joints stay within their limits, and a step beyond a limit fails.
Conditions: none on the arguments; the table of rotations lies as the program's text lays it (the card's tie). -/
import Derived.Test.YtalhkcmlacppjaaDoorAmX
import Derived.Test.YtalhkcmlacppjaaDoorAmU
import Derived.Test.YtalhkcmlacppjaaDoorBase
import Derived.Test.YtalhkcmlacppjaaDoorTie
import Derived.Test.YtalhkcmlacppjaaDoorCards
import Derived.SevenTiedAt
namespace Go.Proofs.YtalhkcmlacppjaaDoor.armStepsAreReversible
open Go.ChangeShapes Go.WideShapes Go.ChangeAt Go.RowKit
set_option linter.unusedVariables false
set_option linter.unusedSimpArgs false
set_option maxRecDepth 100000
theorem eq_int (d : Nat) (a : Int) (w : World) : (Op.equalIn (d + 1) 3 (.int .i64 a) (.int .i64 a)).run Tryd.prog w = .ok true w := by
  simp [Op.equalIn, run_underlying Tryd.underlying3]
theorem eq_joints (d : Nat) (a b c : Int) (w : World) : (Op.equalIn (d + 2) 25 (.agg #[.int .i64 a, .int .i64 b, .int .i64 c]) (.agg #[.int .i64 a, .int .i64 b, .int .i64 c])).run Tryd.prog w = .ok true w := by
  unfold Op.equalIn
  simp [run_underlying Tryd.underlying25, part, Tryd.sizeOf3, Tryd.isAgg3, eq_int, List.range']
theorem neq_joints (a b c : Int) (w : World) : (binOp .neq 25 (.agg #[.int .i64 a, .int .i64 b, .int .i64 c]) (.agg #[.int .i64 a, .int .i64 b, .int .i64 c])).run Tryd.prog w = .ok (.bool false) w := by
  have h := eq_joints 9998 a b c w
  simp only [binOp, Op.equal, Sem.run_bind, Sem.run_pure]
  rw [show Op.maxDepth = 9998 + 2 from rfl, h]
  rfl
theorem eql_joints (a b c : Int) (w : World) : (binOp .eql 25 (.agg #[.int .i64 a, .int .i64 b, .int .i64 c]) (.agg #[.int .i64 a, .int .i64 b, .int .i64 c])).run Tryd.prog w = .ok (.bool true) w := by
  have h := eq_joints 9998 a b c w
  simp only [binOp, Op.equal, Sem.run_bind, Sem.run_pure]
  rw [show Op.maxDepth = 9998 + 2 from rfl, h]
  rfl

theorem wanted_un {ops : Array Oper} {T : Array Value} {o : Oper} {g d : Nat} {b : Bool} (hg : o.guard = some (g, b)) (hd : dstOf ops g = some d) (ht : T[d]? = some undef) : ¬ Region.wanted o (yielded ops T) = true := by
  unfold Region.wanted yielded
  rw [hg]
  unfold dstOf at hd
  simp [hd, ht, undef]
theorem wrapi7 (n : Int) (h : -1000000000 ≤ n ∧ n ≤ 1000000000) : IntKind.i64.wrap n = n := by rw [IntKind.wrap_i64]; omega
theorem urow_cell {w : World} {ao : Option Addr} {l : List Int} (h : URow w ao l) {i : Nat} (hi : i < l.length) : ∃ b o, ao = some ⟨b, o, none⟩ ∧ w.cell? ⟨b, o + i, none⟩ = some (.int .u8 (l.getD i 0)) ∧ 0 ≤ l.getD i 0 ∧ l.getD i 0 ≤ 255 := h i hi

def AtS (j s c0 c1 c2 l0 l1 l2 h0 h1 h2 cj L H p0 p1 p2 : Int) (o ol oh : Nat) : Prop := (j = 0 ∧ o = 0 ∧ ol = 6 ∧ oh = 9 ∧ cj = c0 ∧ L = l0 ∧ H = h0 ∧ p0 = c0 + s ∧ p1 = c1 ∧ p2 = c2) ∨ (j = 1 ∧ o = 1 ∧ ol = 7 ∧ oh = 10 ∧ cj = c1 ∧ L = l1 ∧ H = h1 ∧ p0 = c0 ∧ p1 = c1 + s ∧ p2 = c2) ∨ (j = 2 ∧ o = 2 ∧ ol = 8 ∧ oh = 11 ∧ cj = c2 ∧ L = l2 ∧ H = h2 ∧ p0 = c0 ∧ p1 = c1 ∧ p2 = c2 + s)
theorem atS_ex (j s c0 c1 c2 l0 l1 l2 h0 h1 h2 : Int) (hj : j = 0 ∨ j = 1 ∨ j = 2) : ∃ cj L H p0 p1 p2 o ol oh, AtS j s c0 c1 c2 l0 l1 l2 h0 h1 h2 cj L H p0 p1 p2 o ol oh := by
  rcases hj with rfl | rfl | rfl
  · exact ⟨_, _, _, _, _, _, _, _, _, Or.inl ⟨rfl, rfl, rfl, rfl, rfl, rfl, rfl, rfl, rfl, rfl⟩⟩
  · exact ⟨_, _, _, _, _, _, _, _, _, Or.inr (Or.inl ⟨rfl, rfl, rfl, rfl, rfl, rfl, rfl, rfl, rfl, rfl⟩)⟩
  · exact ⟨_, _, _, _, _, _, _, _, _, Or.inr (Or.inr ⟨rfl, rfl, rfl, rfl, rfl, rfl, rfl, rfl, rfl, rfl⟩)⟩
section
variable {j s c0 c1 c2 l0 l1 l2 h0 h1 h2 cj L H p0 p1 p2 : Int} {o ol oh : Nat}
theorem atS_addr (h : AtS j s c0 c1 c2 l0 l1 l2 h0 h1 h2 cj L H p0 p1 p2 o ol oh) (b : Nat) (w : World) : (Instr.indexAt 25 (.pointer (some ⟨b, 0, none⟩)) (.int .i64 j)).run Tryd.prog w = .ok (.pointer (some ⟨b, o, none⟩)) w ∧ (Instr.indexAt 25 (.pointer (some ⟨b, 6, none⟩)) (.int .i64 j)).run Tryd.prog w = .ok (.pointer (some ⟨b, ol, none⟩)) w ∧ (Instr.indexAt 25 (.pointer (some ⟨b, 9, none⟩)) (.int .i64 j)).run Tryd.prog w = .ok (.pointer (some ⟨b, oh, none⟩)) w := by
  rcases h with h | h | h
  all_goals
    obtain ⟨rfl, rfl, rfl, rfl, -⟩ := h
    refine ⟨?_, ?_, ?_⟩ <;> kernel_rfl
theorem atS_q (h : AtS j s c0 c1 c2 l0 l1 l2 h0 h1 h2 cj L H p0 p1 p2 o ol oh) {w : World} {b : Nat} (hb : w.heap[b]? = some (.cells #[.int .i64 c0, .int .i64 c1, .int .i64 c2] 25 (0, 0))) : w.cell? ⟨b, o, none⟩ = some (.int .i64 cj) := by
  rcases h with h | h | h
  all_goals
    obtain ⟨-, rfl, -, -, rfl, -⟩ := h
    exact blk_cell hb _ _ rfl
theorem atS_r (h : AtS j s c0 c1 c2 l0 l1 l2 h0 h1 h2 cj L H p0 p1 p2 o ol oh) {w : World} {b : Nat} (hb : w.heap[b]? = some (.cells #[.int .i64 p0, .int .i64 p1, .int .i64 p2] 25 (0, 0))) : w.cell? ⟨b, o, none⟩ = some (.int .i64 (cj + s)) := by
  rcases h with h | h | h
  all_goals
    obtain ⟨-, rfl, -, -, rfl, -, -, rfl, rfl, rfl⟩ := h
    exact blk_cell hb _ _ rfl
theorem atS_lim {X Y n0 n1 n2 W : Int} (h : AtS j s c0 c1 c2 l0 l1 l2 h0 h1 h2 cj L H p0 p1 p2 o ol oh) {w : World} {b : Nat} (hb : w.heap[b]? = some (.cells #[.int .i64 X, .int .i64 Y, .int .i64 n0, .int .i64 n1, .int .i64 n2, .int .i64 W, .int .i64 l0, .int .i64 l1, .int .i64 l2, .int .i64 h0, .int .i64 h1, .int .i64 h2] 27 (0, 0))) : w.cell? ⟨b, ol, none⟩ = some (.int .i64 L) ∧ w.cell? ⟨b, oh, none⟩ = some (.int .i64 H) := by
  rcases h with h | h | h
  all_goals
    obtain ⟨-, -, rfl, rfl, -, rfl, rfl, -⟩ := h
    exact ⟨blk_cell hb _ _ rfl, blk_cell hb _ _ rfl⟩
theorem atS_bd (h : AtS j s c0 c1 c2 l0 l1 l2 h0 h1 h2 cj L H p0 p1 p2 o ol oh) (cb : ((l0 ≤ c0 ∧ c0 ≤ h0) ∧ (l1 ≤ c1 ∧ c1 ≤ h1) ∧ l2 ≤ c2 ∧ c2 ≤ h2)) (lm : ((-17 ≤ l0 ∧ l0 ≤ h0 ∧ h0 ≤ 18) ∧ (-17 ≤ l1 ∧ l1 ≤ h1 ∧ h1 ≤ 18) ∧ -17 ≤ l2 ∧ l2 ≤ h2 ∧ h2 ≤ 18)) : L ≤ cj ∧ cj ≤ H ∧ -17 ≤ L ∧ H ≤ 18 := by
  rcases h with h | h | h <;> omega
theorem atS_fit (h : AtS j s c0 c1 c2 l0 l1 l2 h0 h1 h2 cj L H p0 p1 p2 o ol oh) (cb : ((l0 ≤ c0 ∧ c0 ≤ h0) ∧ (l1 ≤ c1 ∧ c1 ≤ h1) ∧ l2 ≤ c2 ∧ c2 ≤ h2)) (hs : s = 1 ∨ s = -1) : fitB l0 l1 l2 h0 h1 h2 p0 p1 p2 = decide (L ≤ cj + s ∧ cj + s ≤ H) := by
  unfold fitB
  rw [decide_eq_decide]
  rcases h with h | h | h <;> omega
theorem atS_new (h : AtS j s c0 c1 c2 l0 l1 l2 h0 h1 h2 cj L H p0 p1 p2 o ol oh) (cb : ((l0 ≤ c0 ∧ c0 ≤ h0) ∧ (l1 ≤ c1 ∧ c1 ≤ h1) ∧ l2 ≤ c2 ∧ c2 ≤ h2)) (hf : L ≤ cj + s ∧ cj + s ≤ H) : (l0 ≤ p0 ∧ p0 ≤ h0) ∧ (l1 ≤ p1 ∧ p1 ≤ h1) ∧ l2 ≤ p2 ∧ p2 ≤ h2 := by
  rcases h with h | h | h <;> omega
theorem atS_yes {X Y n0 n1 n2 W : Int} (h : AtS j s c0 c1 c2 l0 l1 l2 h0 h1 h2 cj L H p0 p1 p2 o ol oh) (cb : ((l0 ≤ c0 ∧ c0 ≤ h0) ∧ (l1 ≤ c1 ∧ c1 ≤ h1) ∧ l2 ≤ c2 ∧ c2 ≤ h2)) (lm : ((-17 ≤ l0 ∧ l0 ≤ h0 ∧ h0 ≤ 18) ∧ (-17 ≤ l1 ∧ l1 ≤ h1 ∧ h1 ≤ 18) ∧ -17 ≤ l2 ∧ l2 ≤ h2 ∧ h2 ≤ 18)) (hs : s = 1 ∨ s = -1) (hf : Hid (fitB l0 l1 l2 h0 h1 h2 p0 p1 p2 = true)) (w : World) :
    Calls Tryd.prog 19 #[.agg #[.int .i64 X, .int .i64 Y, .int .i64 n0, .int .i64 n1, .int .i64 n2, .int .i64 W, .int .i64 l0, .int .i64 l1, .int .i64 l2, .int .i64 h0, .int .i64 h1, .int .i64 h2], .agg #[.int .i64 c0, .int .i64 c1, .int .i64 c2], .int .i64 j, .int .i64 s] w fun e w' => e = .returned (.tuple #[.agg #[.int .i64 p0, .int .i64 p1, .int .i64 p2], .bool true]) ∧ Below w.heap.size w w' := by
  rcases h with h | h | h
  · obtain ⟨rfl, -, -, -, -, -, -, e0, e1, e2⟩ := h
    subst e0
    replace e1 := e1.symm
    subst e1
    replace e2 := e2.symm
    subst e2
    exact stepj0_yes X Y n0 n1 n2 W l0 l1 l2 h0 h1 h2 c0 c1 c2 s w hs (by omega) (by omega) (by omega) hf
  · obtain ⟨rfl, -, -, -, -, -, -, e0, e1, e2⟩ := h
    replace e0 := e0.symm
    subst e0
    subst e1
    replace e2 := e2.symm
    subst e2
    exact stepj1_yes X Y n0 n1 n2 W l0 l1 l2 h0 h1 h2 c0 c1 c2 s w hs (by omega) (by omega) (by omega) hf
  · obtain ⟨rfl, -, -, -, -, -, -, e0, e1, e2⟩ := h
    replace e0 := e0.symm
    subst e0
    replace e1 := e1.symm
    subst e1
    subst e2
    exact stepj2_yes X Y n0 n1 n2 W l0 l1 l2 h0 h1 h2 c0 c1 c2 s w hs (by omega) (by omega) (by omega) hf
theorem atS_no {X Y n0 n1 n2 W : Int} (h : AtS j s c0 c1 c2 l0 l1 l2 h0 h1 h2 cj L H p0 p1 p2 o ol oh) (cb : ((l0 ≤ c0 ∧ c0 ≤ h0) ∧ (l1 ≤ c1 ∧ c1 ≤ h1) ∧ l2 ≤ c2 ∧ c2 ≤ h2)) (lm : ((-17 ≤ l0 ∧ l0 ≤ h0 ∧ h0 ≤ 18) ∧ (-17 ≤ l1 ∧ l1 ≤ h1 ∧ h1 ≤ 18) ∧ -17 ≤ l2 ∧ l2 ≤ h2 ∧ h2 ≤ 18)) (hs : s = 1 ∨ s = -1) (hf : Hid (fitB l0 l1 l2 h0 h1 h2 p0 p1 p2 = false)) (w : World) :
    Calls Tryd.prog 19 #[.agg #[.int .i64 X, .int .i64 Y, .int .i64 n0, .int .i64 n1, .int .i64 n2, .int .i64 W, .int .i64 l0, .int .i64 l1, .int .i64 l2, .int .i64 h0, .int .i64 h1, .int .i64 h2], .agg #[.int .i64 c0, .int .i64 c1, .int .i64 c2], .int .i64 j, .int .i64 s] w fun e w' => e = .returned (.tuple #[.agg #[.int .i64 0, .int .i64 0, .int .i64 0], .bool false]) ∧ Below w.heap.size w w' := by
  rcases h with h | h | h
  · obtain ⟨rfl, -, -, -, -, -, -, e0, e1, e2⟩ := h
    subst e0
    replace e1 := e1.symm
    subst e1
    replace e2 := e2.symm
    subst e2
    exact stepj0_no X Y n0 n1 n2 W l0 l1 l2 h0 h1 h2 c0 c1 c2 s w hs (by omega) (by omega) (by omega) hf
  · obtain ⟨rfl, -, -, -, -, -, -, e0, e1, e2⟩ := h
    replace e0 := e0.symm
    subst e0
    subst e1
    replace e2 := e2.symm
    subst e2
    exact stepj1_no X Y n0 n1 n2 W l0 l1 l2 h0 h1 h2 c0 c1 c2 s w hs (by omega) (by omega) (by omega) hf
  · obtain ⟨rfl, -, -, -, -, -, -, e0, e1, e2⟩ := h
    replace e0 := e0.symm
    subst e0
    replace e1 := e1.symm
    subst e1
    subst e2
    exact stepj2_no X Y n0 n1 n2 W l0 l1 l2 h0 h1 h2 c0 c1 c2 s w hs (by omega) (by omega) (by omega) hf
theorem atS_back {X Y n0 n1 n2 W : Int} (h : AtS j s c0 c1 c2 l0 l1 l2 h0 h1 h2 cj L H p0 p1 p2 o ol oh) (cb : ((l0 ≤ c0 ∧ c0 ≤ h0) ∧ (l1 ≤ c1 ∧ c1 ≤ h1) ∧ l2 ≤ c2 ∧ c2 ≤ h2)) (lm : ((-17 ≤ l0 ∧ l0 ≤ h0 ∧ h0 ≤ 18) ∧ (-17 ≤ l1 ∧ l1 ≤ h1 ∧ h1 ≤ 18) ∧ -17 ≤ l2 ∧ l2 ≤ h2 ∧ h2 ≤ 18)) (hs : s = 1 ∨ s = -1) (hf : Hid (fitB l0 l1 l2 h0 h1 h2 c0 c1 c2 = true)) (w : World) :
    Calls Tryd.prog 19 #[.agg #[.int .i64 X, .int .i64 Y, .int .i64 n0, .int .i64 n1, .int .i64 n2, .int .i64 W, .int .i64 l0, .int .i64 l1, .int .i64 l2, .int .i64 h0, .int .i64 h1, .int .i64 h2], .agg #[.int .i64 p0, .int .i64 p1, .int .i64 p2], .int .i64 j, .int .i64 (-s)] w fun e w' => e = .returned (.tuple #[.agg #[.int .i64 c0, .int .i64 c1, .int .i64 c2], .bool true]) ∧ Below w.heap.size w w' := by
  rcases h with h | h | h
  · obtain ⟨rfl, -, -, -, -, -, -, e0, e1, e2⟩ := h
    subst e0
    replace e1 := e1.symm
    subst e1
    replace e2 := e2.symm
    subst e2
    have e : c0 + s + -s = c0 := by omega
    have := stepj0_yes X Y n0 n1 n2 W l0 l1 l2 h0 h1 h2 (c0 + s) c1 c2 (-s) w (by omega) (by omega) (by omega) (by omega) (by rw [e]; exact hf)
    rwa [e] at this
  · obtain ⟨rfl, -, -, -, -, -, -, e0, e1, e2⟩ := h
    replace e0 := e0.symm
    subst e0
    subst e1
    replace e2 := e2.symm
    subst e2
    have e : c1 + s + -s = c1 := by omega
    have := stepj1_yes X Y n0 n1 n2 W l0 l1 l2 h0 h1 h2 c0 (c1 + s) c2 (-s) w (by omega) (by omega) (by omega) (by omega) (by rw [e]; exact hf)
    rwa [e] at this
  · obtain ⟨rfl, -, -, -, -, -, -, e0, e1, e2⟩ := h
    replace e0 := e0.symm
    subst e0
    replace e1 := e1.symm
    subst e1
    subst e2
    have e : c2 + s + -s = c2 := by omega
    have := stepj2_yes X Y n0 n1 n2 W l0 l1 l2 h0 h1 h2 c0 c1 (c2 + s) (-s) w (by omega) (by omega) (by omega) (by omega) (by rw [e]; exact hf)
    rwa [e] at this
end

set_option maxHeartbeats 8000000 in
theorem walk (X Y n0 n1 n2 W l0 l1 l2 h0 h1 h2 : Int) (r0 r1 r2 : Int) (hr0 : 0 ≤ r0 ∧ r0 ≤ 255) (hr1 : 0 ≤ r1 ∧ r1 ≤ 255) (hr2 : 0 ≤ r2 ∧ r2 ≤ 255) (ao : Option Addr) (cap : Nat) (l : List Int) (nl : l.length ≤ 9223372036854775807) (w : World) (hU : URow w ao l) (hT : Tab w) :
    Calls Tryd.prog 7 #[.agg #[.int .i64 X, .int .i64 Y, .int .i64 n0, .int .i64 n1, .int .i64 n2, .int .i64 W, .int .i64 l0, .int .i64 l1, .int .i64 l2, .int .i64 h0, .int .i64 h1, .int .i64 h2], .agg #[.int .u8 r0, .int .u8 r1, .int .u8 r2], .slice ao l.length cap] w fun e w' => e = .returned (.bool true) ∧ Below w.heap.size w w' := by
  have B := Lib.hid (Below.refl w.heap.size w)
  have TT := Lib.hid hT
  clear hT
  have HU := Lib.hid hU
  clear hU
  go_enter Tryd.func7, Tryd.ntmps7
  go_wp2_with fail
  refine (head7_is _ (Tab.alloc (Tab.alloc TT.out (.cells #[.int .i64 X, .int .i64 Y, .int .i64 n0, .int .i64 n1, .int .i64 n2, .int .i64 W, .int .i64 l0, .int .i64 l1, .int .i64 l2, .int .i64 h0, .int .i64 h1, .int .i64 h2] 27)) (.cells #[.int .u8 r0, .int .u8 r1, .int .u8 r2] 28))).mono ?_
  rintro e w1 ⟨rfl, hb1⟩
  have HA := Lib.hid (blk_call (blk_alloc (blk_new w (.cells #[.int .i64 X, .int .i64 Y, .int .i64 n0, .int .i64 n1, .int .i64 n2, .int .i64 W, .int .i64 l0, .int .i64 l1, .int .i64 l2, .int .i64 h0, .int .i64 h1, .int .i64 h2] 27) (w.heap.size) rfl) (.cells #[.int .u8 r0, .int .u8 r1, .int .u8 r2] 28)) hb1)
  have HW := Lib.hid (blk_call (blk_new (w.alloc (.cells #[.int .i64 X, .int .i64 Y, .int .i64 n0, .int .i64 n1, .int .i64 n2, .int .i64 W, .int .i64 l0, .int .i64 l1, .int .i64 l2, .int .i64 h0, .int .i64 h1, .int .i64 h2] 27)) (.cells #[.int .u8 r0, .int .u8 r1, .int .u8 r2] 28) (w.heap.size + 1) (by simp)) hb1)
  replace B := Lib.hid (belT (belA (belA B.out (.cells #[.int .i64 X, .int .i64 Y, .int .i64 n0, .int .i64 n1, .int .i64 n2, .int .i64 W, .int .i64 l0, .int .i64 l1, .int .i64 l2, .int .i64 h0, .int .i64 h1, .int .i64 h2] 27)) (.cells #[.int .u8 r0, .int .u8 r1, .int .u8 r2] 28)) hb1)
  replace TT := Lib.hid (Tab.below (Tab.alloc (Tab.alloc TT.out (.cells #[.int .i64 X, .int .i64 Y, .int .i64 n0, .int .i64 n1, .int .i64 n2, .int .i64 W, .int .i64 l0, .int .i64 l1, .int .i64 l2, .int .i64 h0, .int .i64 h1, .int .i64 h2] 27)) (.cells #[.int .u8 r0, .int .u8 r1, .int .u8 r2] 28)) hb1)
  clear hb1
  obtain ⟨t, ht⟩ : ∃ t, armB X Y n0 n1 n2 W l0 l1 l2 h0 h1 h2 = t := ⟨_, rfl⟩
  have HT := Lib.hid ht
  clear ht
  have c0 := blk_cell HA.out 0 _ rfl
  have c1 := blk_cell HA.out 1 _ rfl
  have c2 := blk_cell HA.out 2 _ rfl
  have c3 := blk_cell HA.out 3 _ rfl
  have c4 := blk_cell HA.out 4 _ rfl
  have c5 := blk_cell HA.out 5 _ rfl
  have c6 := blk_cell HA.out 6 _ rfl
  have c7 := blk_cell HA.out 7 _ rfl
  have c8 := blk_cell HA.out 8 _ rfl
  have c9 := blk_cell HA.out 9 _ rfl
  have c10 := blk_cell HA.out 10 _ rfl
  have c11 := blk_cell HA.out 11 _ rfl
  go_wp2_with fail
  refine (armv_is X Y n0 n1 n2 W l0 l1 l2 h0 h1 h2 t _ HT).mono ?_
  rintro e w2 ⟨rfl, hb2⟩
  clear c0 c1 c2 c3 c4 c5 c6 c7 c8 c9 c10 c11
  replace HA := Lib.hid (blk_call HA.out hb2)
  replace HW := Lib.hid (blk_call HW.out hb2)
  replace B := Lib.hid (belT B.out hb2)
  replace TT := Lib.hid (Tab.below TT.out hb2)
  clear hb2
  cases t
  · go_wp2_with fail
    go_ret
    exact ⟨rfl, B.out⟩
  by_cases hl : (100 : Int) < (l.length : Int)
  · go_wp2_with fail
    go_ret
    exact ⟨rfl, B.out⟩
  have JB0 := Lib.hid (jq_bd (l := l0) (h := h0) (by have := (armB_iff X Y n0 n1 n2 W l0 l1 l2 h0 h1 h2).1 HT.out; omega) hr0.1)
  have JB1 := Lib.hid (jq_bd (l := l1) (h := h1) (by have := (armB_iff X Y n0 n1 n2 W l0 l1 l2 h0 h1 h2).1 HT.out; omega) hr1.1)
  have JB2 := Lib.hid (jq_bd (l := l2) (h := h2) (by have := (armB_iff X Y n0 n1 n2 W l0 l1 l2 h0 h1 h2).1 HT.out; omega) hr2.1)
  obtain ⟨q0, hq0⟩ : ∃ q, jq l0 h0 r0 = q := ⟨_, rfl⟩
  rw [hq0] at JB0
  replace hq0 := Lib.hid hq0
  obtain ⟨q1, hq1⟩ : ∃ q, jq l1 h1 r1 = q := ⟨_, rfl⟩
  rw [hq1] at JB1
  replace hq1 := Lib.hid hq1
  obtain ⟨q2, hq2⟩ : ∃ q, jq l2 h2 r2 = q := ⟨_, rfl⟩
  rw [hq2] at JB2
  replace hq2 := Lib.hid hq2
  have JQ : Hid (∀ w : World, Calls Tryd.prog 15 #[.agg #[.int .i64 X, .int .i64 Y, .int .i64 n0, .int .i64 n1, .int .i64 n2, .int .i64 W, .int .i64 l0, .int .i64 l1, .int .i64 l2, .int .i64 h0, .int .i64 h1, .int .i64 h2], .agg #[.int .u8 r0, .int .u8 r1, .int .u8 r2]] w fun e w' => e = .returned (.agg #[.int .i64 q0, .int .i64 q1, .int .i64 q2]) ∧ Below w.heap.size w w') := Lib.hid (fun w => by have := joint_is X Y n0 n1 n2 W l0 l1 l2 h0 h1 h2 r0 r1 r2 w HT hr0 hr1 hr2; rwa [hq0.out, hq1.out, hq2.out] at this)
  have c0 := blk_cell HA.out 0 _ rfl
  have c1 := blk_cell HA.out 1 _ rfl
  have c2 := blk_cell HA.out 2 _ rfl
  have c3 := blk_cell HA.out 3 _ rfl
  have c4 := blk_cell HA.out 4 _ rfl
  have c5 := blk_cell HA.out 5 _ rfl
  have c6 := blk_cell HA.out 6 _ rfl
  have c7 := blk_cell HA.out 7 _ rfl
  have c8 := blk_cell HA.out 8 _ rfl
  have c9 := blk_cell HA.out 9 _ rfl
  have c10 := blk_cell HA.out 10 _ rfl
  have c11 := blk_cell HA.out 11 _ rfl
  have d0 := blk_cell HW.out 0 _ rfl
  have d1 := blk_cell HW.out 1 _ rfl
  have d2 := blk_cell HW.out 2 _ rfl
  go_wp2_with fail
  refine (JQ.out _).mono ?_
  rintro e w3 ⟨rfl, hb3⟩
  clear c0 c1 c2 c3 c4 c5 c6 c7 c8 c9 c10 c11 d0 d1 d2
  replace HA := Lib.hid (blk_call HA.out hb3)
  replace HW := Lib.hid (blk_call HW.out hb3)
  replace B := Lib.hid (belT B.out hb3)
  replace TT := Lib.hid (Tab.below TT.out hb3)
  clear hb3
  have NQ : Hid (w.heap.size + 1 < w3.heap.size) := Lib.hid (blk_lt HW.out)
  go_upto_region 5 with fail
  replace HA := Lib.hid (blk_alloc HA.out (.cells #[.int .i64 q0, .int .i64 q1, .int .i64 q2] 25))
  replace HW := Lib.hid (blk_alloc HW.out (.cells #[.int .i64 q0, .int .i64 q1, .int .i64 q2] 25))
  have HQ := Lib.hid (blk_new w3 (.cells #[.int .i64 q0, .int .i64 q1, .int .i64 q2] 25) (w3.heap.size) rfl)
  replace B := Lib.hid (belA B.out (.cells #[.int .i64 q0, .int .i64 q1, .int .i64 q2] 25))
  replace TT := Lib.hid (Tab.alloc TT.out (.cells #[.int .i64 q0, .int .i64 q1, .int .i64 q2] 25))
  generalize (w3.alloc (.cells #[.int .i64 q0, .int .i64 q1, .int .i64 q2] 25)) = W1 at *
  have LM : Hid ((-17 ≤ l0 ∧ l0 ≤ h0 ∧ h0 ≤ 18) ∧ (-17 ≤ l1 ∧ l1 ≤ h1 ∧ h1 ≤ 18) ∧ -17 ≤ l2 ∧ l2 ≤ h2 ∧ h2 ≤ 18) := Lib.hid (by have := (armB_iff X Y n0 n1 n2 W l0 l1 l2 h0 h1 h2).1 HT.out; omega)
  go_wp2_with fail
  go_loopw [9] (fun i wr => ∃ (n : Nat) (c0 c1 c2 : Int), n ≤ l.length ∧ i = .int .i64 n ∧ ((l0 ≤ c0 ∧ c0 ≤ h0) ∧ (l1 ≤ c1 ∧ c1 ≤ h1) ∧ l2 ≤ c2 ∧ c2 ≤ h2) ∧ wr.heap[w.heap.size]? = some (.cells #[.int .i64 X, .int .i64 Y, .int .i64 n0, .int .i64 n1, .int .i64 n2, .int .i64 W, .int .i64 l0, .int .i64 l1, .int .i64 l2, .int .i64 h0, .int .i64 h1, .int .i64 h2] 27 (0, 0)) ∧ wr.heap[w3.heap.size]? = some (.cells #[.int .i64 c0, .int .i64 c1, .int .i64 c2] 25 (0, 0)) ∧ Below w.heap.size w wr) (fun i _ => l.length - (intOf i).toNat)
  case atStart => exact ⟨0, q0, q1, q2, Nat.zero_le _, rfl, ⟨JB0.out.2, JB1.out.2, JB2.out.2⟩, HA.out, HQ.out, B.out⟩
  case round =>
    clear HA HQ B TT HW JQ hq0 hq1 hq2 JB0 JB1 JB2
    obtain ⟨n, c0, c1, c2, hn, rfl, cb, hA, hQ, hB⟩ := hrel
    have HA := Lib.hid hA
    have HQ := Lib.hid hQ
    have B := Lib.hid hB
    clear hA hQ hB
    by_cases hlt : n < l.length
    rotate_left
    · have hge : ¬ (n : Int) < (l.length : Int) := by omega
      have x0 := blk_cell HA.out 0 _ rfl
      have x1 := blk_cell HA.out 1 _ rfl
      have x2 := blk_cell HA.out 2 _ rfl
      have x3 := blk_cell HA.out 3 _ rfl
      have x4 := blk_cell HA.out 4 _ rfl
      have x5 := blk_cell HA.out 5 _ rfl
      have x6 := blk_cell HA.out 6 _ rfl
      have x7 := blk_cell HA.out 7 _ rfl
      have x8 := blk_cell HA.out 8 _ rfl
      have x9 := blk_cell HA.out 9 _ rfl
      have x10 := blk_cell HA.out 10 _ rfl
      have x11 := blk_cell HA.out 11 _ rfl
      have y0 := blk_cell HQ.out 0 _ rfl
      have y1 := blk_cell HQ.out 1 _ rfl
      have y2 := blk_cell HQ.out 2 _ rfl
      go_wp2_with fail
      refine (inlim_is X Y n0 n1 n2 W l0 l1 l2 h0 h1 h2 c0 c1 c2 true _ (Lib.hid (decide_eq_true cb))).mono ?_
      rintro e we ⟨rfl, hb⟩
      have B2 := Lib.hid (belT B.out hb)
      clear hb
      go_wp2_with fail
      go_ret
      exact ⟨rfl, B2.out⟩
    have hlt' : (n : Int) < (l.length : Int) := by omega
    obtain ⟨bu, ou, rfl, cu, u0, u1⟩ := urow_cell (urow_below HU.out B.out) hlt
    obtain ⟨v, hv⟩ : ∃ v, l.getD n 0 = v := ⟨_, rfl⟩
    rw [hv] at cu u0 u1
    clear hv
    have et : v.tmod 3 = v % 3 := Int.tmod_eq_emod_of_nonneg u0
    have eq : v.tdiv 3 = v / 3 := by rw [Int.tdiv_eq_ediv]; simp [u0]
    have er : (v.tdiv 3).tmod 2 = v / 3 % 2 := by rw [eq]; exact Int.tmod_eq_emod_of_nonneg (by omega)
    obtain ⟨j, hj⟩ : ∃ j, v.tmod 3 = j := ⟨_, rfl⟩
    obtain ⟨g, hg⟩ : ∃ g, (v.tdiv 3).tmod 2 = g := ⟨_, rfl⟩
    have jc : j = 0 ∨ j = 1 ∨ j = 2 := by omega
    have gc : g = 0 ∨ g = 1 := by omega
    have hq' : 0 ≤ v.tdiv 3 ∧ v.tdiv 3 ≤ 85 := by omega
    clear et eq er
    skip
    have lm := LM.out
    rcases gc with rfl | rfl
    · obtain ⟨cj, L, H, p0, p1, p2, o, ol, oh, AT⟩ := atS_ex j 1 c0 c1 c2 l0 l1 l2 h0 h1 h2 jc
      have AD := fun b w => (atS_addr AT b w).1
      have AE := fun b w => (atS_addr AT b w).2.1
      have AF := fun b w => (atS_addr AT b w).2.2
      have BD := Lib.hid (atS_bd AT cb lm)
      replace AT := Lib.hid AT
      replace cb := Lib.hid cb
      clear lm
      by_cases hx : cj = H
      · replace hx := Lib.hid hx
        have x0 := blk_cell HA.out 0 _ rfl
        have x1 := blk_cell HA.out 1 _ rfl
        have x2 := blk_cell HA.out 2 _ rfl
        have x3 := blk_cell HA.out 3 _ rfl
        have x4 := blk_cell HA.out 4 _ rfl
        have x5 := blk_cell HA.out 5 _ rfl
        have x6 := blk_cell HA.out 6 _ rfl
        have x7 := blk_cell HA.out 7 _ rfl
        have x8 := blk_cell HA.out 8 _ rfl
        have x9 := blk_cell HA.out 9 _ rfl
        have x10 := blk_cell HA.out 10 _ rfl
        have x11 := blk_cell HA.out 11 _ rfl
        have y0 := blk_cell HQ.out 0 _ rfl
        have y1 := blk_cell HQ.out 1 _ rfl
        have y2 := blk_cell HQ.out 2 _ rfl
        have FB : Hid (fitB l0 l1 l2 h0 h1 h2 p0 p1 p2 = false) := Lib.hid (by rw [atS_fit AT.out cb.out (by omega)]; exact decide_eq_false (by have := BD.out; have := hx.out; omega))
        have hxb : (cj == H) = true := by have := hx.out; simpa using this
        go_upto_region 10 with fail
        go_wp2_with fail
        refine (atS_no AT.out cb.out LM.out (by omega) FB _).mono ?_
        rintro e w1 ⟨rfl, hb1⟩
        clear x0 x1 x2 x3 x4 x5 x6 x7 x8 x9 x10 x11 y0 y1 y2 cu
        replace HA := Lib.hid (blk_call HA.out hb1)
        replace HQ := Lib.hid (blk_call HQ.out hb1)
        replace B := Lib.hid (belT B.out hb1)
        clear hb1
        go_upto_region 11 with fail
        replace HA := Lib.hid (blk_alloc HA.out (.cells #[.int .i64 0, .int .i64 0, .int .i64 0] 25))
        replace HQ := Lib.hid (blk_alloc HQ.out (.cells #[.int .i64 0, .int .i64 0, .int .i64 0] 25))
        have HR := Lib.hid (blk_new w1 (.cells #[.int .i64 0, .int .i64 0, .int .i64 0] 25) (w1.heap.size) rfl)
        replace B := Lib.hid (belA B.out (.cells #[.int .i64 0, .int .i64 0, .int .i64 0] 25))
        generalize (w1.alloc (.cells #[.int .i64 0, .int .i64 0, .int .i64 0] 25)) = V1 at *
        obtain ⟨sp, hsp⟩ : ∃ sp : ToldS, sp = [none, none, none, none, none, none, none, none, none, none, none, none, none, none, some (eqS (.bool true)), none, none, none, none, none, none, none, none, none, none, none, none, none, none, none, none, none, none, none, none, none, none, none, none, none, none, none, none, none, none, none, none, none, none, none, none, none, none, none, none, none, none, none, none, some (eqS (.int .i64 1)), some (eqS (.bool true)), some (eqS (.bool true)), some (eqS (.int .i64 j)), some (eqS (.pointer (some ⟨w3.heap.size, o, none⟩))), some (eqS (.int .i64 cj)), some (eqS (.int .i64 j)), some (eqS (.pointer (some ⟨w.heap.size, 9, none⟩))), some (eqS (.pointer (some ⟨w.heap.size, oh, none⟩))), some (eqS (.int .i64 H)), some (eqS (.bool true)), some (eqS (.bool true)), some (eqS (.bool true)), some (eqS (undef)), some (eqS (undef)), some (eqS (undef)), some (eqS (undef)), some (eqS (undef)), some (eqS (undef)), some (eqS (undef)), some (eqS (undef)), some (eqS (undef)), some (eqS (undef)), some (eqS (undef)), some (eqS (undef)), some (eqS (.bool true))] := ⟨_, rfl⟩
        have s14 : sp.getD 14 none = some (eqS (.bool true)) := by rw [hsp]; rfl
        have s59 : sp.getD 59 none = some (eqS (.int .i64 1)) := by rw [hsp]; rfl
        have s60 : sp.getD 60 none = some (eqS (.bool true)) := by rw [hsp]; rfl
        have s61 : sp.getD 61 none = some (eqS (.bool true)) := by rw [hsp]; rfl
        have s62 : sp.getD 62 none = some (eqS (.int .i64 j)) := by rw [hsp]; rfl
        have s63 : sp.getD 63 none = some (eqS (.pointer (some ⟨w3.heap.size, o, none⟩))) := by rw [hsp]; rfl
        have s64 : sp.getD 64 none = some (eqS (.int .i64 cj)) := by rw [hsp]; rfl
        have s65 : sp.getD 65 none = some (eqS (.int .i64 j)) := by rw [hsp]; rfl
        have s66 : sp.getD 66 none = some (eqS (.pointer (some ⟨w.heap.size, 9, none⟩))) := by rw [hsp]; rfl
        have s67 : sp.getD 67 none = some (eqS (.pointer (some ⟨w.heap.size, oh, none⟩))) := by rw [hsp]; rfl
        have s68 : sp.getD 68 none = some (eqS (.int .i64 H)) := by rw [hsp]; rfl
        have s69 : sp.getD 69 none = some (eqS (.bool true)) := by rw [hsp]; rfl
        have s70 : sp.getD 70 none = some (eqS (.bool true)) := by rw [hsp]; rfl
        have s71 : sp.getD 71 none = some (eqS (.bool true)) := by rw [hsp]; rfl
        have s72 : sp.getD 72 none = some (eqS (undef)) := by rw [hsp]; rfl
        have s73 : sp.getD 73 none = some (eqS (undef)) := by rw [hsp]; rfl
        have s74 : sp.getD 74 none = some (eqS (undef)) := by rw [hsp]; rfl
        have s75 : sp.getD 75 none = some (eqS (undef)) := by rw [hsp]; rfl
        have s76 : sp.getD 76 none = some (eqS (undef)) := by rw [hsp]; rfl
        have s77 : sp.getD 77 none = some (eqS (undef)) := by rw [hsp]; rfl
        have s78 : sp.getD 78 none = some (eqS (undef)) := by rw [hsp]; rfl
        have s79 : sp.getD 79 none = some (eqS (undef)) := by rw [hsp]; rfl
        have s80 : sp.getD 80 none = some (eqS (undef)) := by rw [hsp]; rfl
        have s81 : sp.getD 81 none = some (eqS (undef)) := by rw [hsp]; rfl
        have s82 : sp.getD 82 none = some (eqS (undef)) := by rw [hsp]; rfl
        have s83 : sp.getD 83 none = some (eqS (undef)) := by rw [hsp]; rfl
        have s84 : sp.getD 84 none = some (eqS (.bool true)) := by rw [hsp]; rfl
        clear hsp
        refine (wpIn_wide (n := 0)).1 (region_allR (RtS sp) (rtS_keep sp) rfl rfl rfl (by kernel_rfl) (by kernel_rfl) (by kernel_rfl) ?_ ?_)
        · intro Q'
          refine obsR_cons ?_ ?_
          · intro T wx K hB hF hD hK
            have g11 : T[11]? = some (.int .i64 1) := hF 11 (freeM_of (by kernel_rfl))
            refine ob_yes (wanted_none rfl) ?_
            clear hF hD
            go_simp
            exact hK _ _ (Below.refl _ _) (rt_eqS s59)
          refine obsR_cons ?_ ?_
          · intro T wx K hB hF hD hK
            have g59 := get_eqS (hD 0 59 (by simp [Region.binds]) (by kernel_rfl)) s59
            refine ob_yes (wanted_none rfl) ?_
            clear hF hD
            go_simp
            exact hK _ _ (Below.refl _ _) (rt_eqS s60)
          refine obsR_cons ?_ ?_
          · intro T wx K hB hF hD hK
            have g60 := get_eqS (hD 1 60 (by simp [Region.binds]) (by kernel_rfl)) s60
            refine ob_yes (wanted_none rfl) ?_
            clear hF hD
            go_simp
            exact hK _ _ (Below.refl _ _) (rt_eqS s61)
          refine obsR_cons ?_ ?_
          · intro T wx K hB hF hD hK
            have g61 := get_eqS (hD 2 61 (by simp [Region.binds]) (by kernel_rfl)) s61
            have g10 : T[10]? = some (.int .i64 j) := hF 10 (freeM_of (by kernel_rfl))
            refine ob_yes (wanted_yes rfl (by kernel_rfl) g61) ?_
            clear hF hD
            go_simp
            exact hK _ _ (Below.refl _ _) (rt_eqS s62)
          refine obsR_cons ?_ ?_
          · intro T wx K hB hF hD hK
            have g61 := get_eqS (hD 2 61 (by simp [Region.binds]) (by kernel_rfl)) s61
            have g8 : T[8]? = some (.pointer (some ⟨w3.heap.size, 0, none⟩)) := hF 8 (freeM_of (by kernel_rfl))
            have g62 := get_eqS (hD 3 62 (by simp [Region.binds]) (by kernel_rfl)) s62
            refine ob_yes (wanted_yes rfl (by kernel_rfl) g61) ?_
            clear hF hD
            go_simp
            exact hK _ _ (Below.refl _ _) (rt_eqS s63)
          refine obsR_cons ?_ ?_
          · intro T wx K hB hF hD hK
            have g61 := get_eqS (hD 2 61 (by simp [Region.binds]) (by kernel_rfl)) s61
            have g63 := get_eqS (hD 4 63 (by simp [Region.binds]) (by kernel_rfl)) s63
            refine ob_yes (wanted_yes rfl (by kernel_rfl) g61) ?_
            clear hF hD
            have c0' := atS_q AT.out (blk_call HQ.out hB)
            go_simp
            exact hK _ _ (Below.refl _ _) (rt_eqS s64)
          refine obsR_cons ?_ ?_
          · intro T wx K hB hF hD hK
            have g61 := get_eqS (hD 2 61 (by simp [Region.binds]) (by kernel_rfl)) s61
            have g10 : T[10]? = some (.int .i64 j) := hF 10 (freeM_of (by kernel_rfl))
            refine ob_yes (wanted_yes rfl (by kernel_rfl) g61) ?_
            clear hF hD
            go_simp
            exact hK _ _ (Below.refl _ _) (rt_eqS s65)
          refine obsR_cons ?_ ?_
          · intro T wx K hB hF hD hK
            have g61 := get_eqS (hD 2 61 (by simp [Region.binds]) (by kernel_rfl)) s61
            have g3 : T[3]? = some (.pointer (some ⟨w.heap.size, 0, none⟩)) := hF 3 (freeM_of (by kernel_rfl))
            refine ob_yes (wanted_yes rfl (by kernel_rfl) g61) ?_
            clear hF hD
            go_simp
            exact hK _ _ (Below.refl _ _) (rt_eqS s66)
          refine obsR_cons ?_ ?_
          · intro T wx K hB hF hD hK
            have g61 := get_eqS (hD 2 61 (by simp [Region.binds]) (by kernel_rfl)) s61
            have g66 := get_eqS (hD 7 66 (by simp [Region.binds]) (by kernel_rfl)) s66
            have g65 := get_eqS (hD 6 65 (by simp [Region.binds]) (by kernel_rfl)) s65
            refine ob_yes (wanted_yes rfl (by kernel_rfl) g61) ?_
            clear hF hD
            go_simp
            exact hK _ _ (Below.refl _ _) (rt_eqS s67)
          refine obsR_cons ?_ ?_
          · intro T wx K hB hF hD hK
            have g61 := get_eqS (hD 2 61 (by simp [Region.binds]) (by kernel_rfl)) s61
            have g67 := get_eqS (hD 8 67 (by simp [Region.binds]) (by kernel_rfl)) s67
            refine ob_yes (wanted_yes rfl (by kernel_rfl) g61) ?_
            clear hF hD
            have c0' := (atS_lim AT.out (blk_call HA.out hB)).2
            go_simp
            exact hK _ _ (Below.refl _ _) (rt_eqS s68)
          refine obsR_cons ?_ ?_
          · intro T wx K hB hF hD hK
            have g61 := get_eqS (hD 2 61 (by simp [Region.binds]) (by kernel_rfl)) s61
            have g64 := get_eqS (hD 5 64 (by simp [Region.binds]) (by kernel_rfl)) s64
            have g68 := get_eqS (hD 9 68 (by simp [Region.binds]) (by kernel_rfl)) s68
            refine ob_yes (wanted_yes rfl (by kernel_rfl) g61) ?_
            clear hF hD
            go_simp
            exact hK _ _ (Below.refl _ _) (rt_eqS s69)
          refine obsR_cons ?_ ?_
          · intro T wx K hB hF hD hK
            have g61 := get_eqS (hD 2 61 (by simp [Region.binds]) (by kernel_rfl)) s61
            have g69 := get_eqS (hD 10 69 (by simp [Region.binds]) (by kernel_rfl)) s69
            refine ob_yes (wanted_none rfl) ?_
            clear hF hD
            go_simp
            exact hK _ _ (Below.refl _ _) (rt_eqS s70)
          refine obsR_cons ?_ ?_
          · intro T wx K hB hF hD hK
            have g70 := get_eqS (hD 11 70 (by simp [Region.binds]) (by kernel_rfl)) s70
            refine ob_yes (wanted_none rfl) ?_
            clear hF hD
            go_simp
            exact hK _ _ (Below.refl _ _) (rt_eqS s71)
          refine obsR_cons ?_ ?_
          · intro T wx K hB hF hD hK
            have g71 := get_eqS (hD 12 71 (by simp [Region.binds]) (by kernel_rfl)) s71
            refine ob_no (wanted_no rfl (by kernel_rfl) g71 rfl) ?_
            exact hK _ _ (Below.refl _ _) (rt_eqS s72)
          refine obsR_cons ?_ ?_
          · intro T wx K hB hF hD hK
            have g71 := get_eqS (hD 12 71 (by simp [Region.binds]) (by kernel_rfl)) s71
            refine ob_no (wanted_no rfl (by kernel_rfl) g71 rfl) ?_
            exact hK _ _ (Below.refl _ _) (rt_eqS s73)
          refine obsR_cons ?_ ?_
          · intro T wx K hB hF hD hK
            have g71 := get_eqS (hD 12 71 (by simp [Region.binds]) (by kernel_rfl)) s71
            refine ob_no (wanted_no rfl (by kernel_rfl) g71 rfl) ?_
            exact hK _ _ (Below.refl _ _) (rt_eqS s74)
          refine obsR_cons ?_ ?_
          · intro T wx K hB hF hD hK
            have g74 := get_eqS (hD 15 74 (by simp [Region.binds]) (by kernel_rfl)) s74
            refine ob_no (wanted_un rfl (by kernel_rfl) g74) ?_
            exact hK _ _ (Below.refl _ _) (rt_eqS s75)
          refine obsR_cons ?_ ?_
          · intro T wx K hB hF hD hK
            have g74 := get_eqS (hD 15 74 (by simp [Region.binds]) (by kernel_rfl)) s74
            refine ob_no (wanted_un rfl (by kernel_rfl) g74) ?_
            exact hK _ _ (Below.refl _ _) (rt_eqS s76)
          refine obsR_cons ?_ ?_
          · intro T wx K hB hF hD hK
            have g74 := get_eqS (hD 15 74 (by simp [Region.binds]) (by kernel_rfl)) s74
            refine ob_no (wanted_un rfl (by kernel_rfl) g74) ?_
            exact hK _ _ (Below.refl _ _) (rt_eqS s77)
          refine obsR_cons ?_ ?_
          · intro T wx K hB hF hD hK
            have g74 := get_eqS (hD 15 74 (by simp [Region.binds]) (by kernel_rfl)) s74
            refine ob_no (wanted_un rfl (by kernel_rfl) g74) ?_
            exact hK _ _ (Below.refl _ _) (rt_eqS s78)
          refine obsR_cons ?_ ?_
          · intro T wx K hB hF hD hK
            have g74 := get_eqS (hD 15 74 (by simp [Region.binds]) (by kernel_rfl)) s74
            refine ob_no (wanted_un rfl (by kernel_rfl) g74) ?_
            exact hK _ _ (Below.refl _ _) (rt_eqS s79)
          refine obsR_cons ?_ ?_
          · intro T wx K hB hF hD hK
            have g74 := get_eqS (hD 15 74 (by simp [Region.binds]) (by kernel_rfl)) s74
            refine ob_no (wanted_un rfl (by kernel_rfl) g74) ?_
            exact hK _ _ (Below.refl _ _) (rt_eqS s80)
          refine obsR_cons ?_ ?_
          · intro T wx K hB hF hD hK
            have g74 := get_eqS (hD 15 74 (by simp [Region.binds]) (by kernel_rfl)) s74
            refine ob_no (wanted_un rfl (by kernel_rfl) g74) ?_
            exact hK _ _ (Below.refl _ _) (rt_eqS s81)
          refine obsR_cons ?_ ?_
          · intro T wx K hB hF hD hK
            have g74 := get_eqS (hD 15 74 (by simp [Region.binds]) (by kernel_rfl)) s74
            refine ob_no (wanted_un rfl (by kernel_rfl) g74) ?_
            exact hK _ _ (Below.refl _ _) (rt_eqS s82)
          refine obsR_cons ?_ ?_
          · intro T wx K hB hF hD hK
            have g71 := get_eqS (hD 12 71 (by simp [Region.binds]) (by kernel_rfl)) s71
            refine ob_no (wanted_no rfl (by kernel_rfl) g71 rfl) ?_
            exact hK _ _ (Below.refl _ _) (rt_eqS s83)
          refine obsR_cons ?_ ?_
          · intro T wx K hB hF hD hK
            have g71 := get_eqS (hD 12 71 (by simp [Region.binds]) (by kernel_rfl)) s71
            have g83 := get_eqS (hD 24 83 (by simp [Region.binds]) (by kernel_rfl)) s83
            refine ob_yes (wanted_none rfl) ?_
            clear hF hD
            go_simp
            exact hK _ _ (Below.refl _ _) (rt_eqS s84)
          refine obsR_cons ?_ ?_
          · intro T wx K hB hF hD hK
            have g84 := get_eqS (hD 25 84 (by simp [Region.binds]) (by kernel_rfl)) s84
            refine ob_yes (wanted_none rfl) ?_
            clear hF hD
            go_simp
            exact hK _ _ (Below.refl _ _) (rt_eqS s14)
          exact obsR_nil
        · intro S1 V2 hb8 hF hs hD
          have g59 := get_eqS (hD 0 59 (by decide) (by kernel_rfl)) s59
          have g60 := get_eqS (hD 1 60 (by decide) (by kernel_rfl)) s60
          have g61 := get_eqS (hD 2 61 (by decide) (by kernel_rfl)) s61
          have g62 := get_eqS (hD 3 62 (by decide) (by kernel_rfl)) s62
          have g63 := get_eqS (hD 4 63 (by decide) (by kernel_rfl)) s63
          have g64 := get_eqS (hD 5 64 (by decide) (by kernel_rfl)) s64
          have g65 := get_eqS (hD 6 65 (by decide) (by kernel_rfl)) s65
          have g66 := get_eqS (hD 7 66 (by decide) (by kernel_rfl)) s66
          have g67 := get_eqS (hD 8 67 (by decide) (by kernel_rfl)) s67
          have g68 := get_eqS (hD 9 68 (by decide) (by kernel_rfl)) s68
          have g69 := get_eqS (hD 10 69 (by decide) (by kernel_rfl)) s69
          have g70 := get_eqS (hD 11 70 (by decide) (by kernel_rfl)) s70
          have g71 := get_eqS (hD 12 71 (by decide) (by kernel_rfl)) s71
          have g72 := get_eqS (hD 13 72 (by decide) (by kernel_rfl)) s72
          have g73 := get_eqS (hD 14 73 (by decide) (by kernel_rfl)) s73
          have g74 := get_eqS (hD 15 74 (by decide) (by kernel_rfl)) s74
          have g75 := get_eqS (hD 16 75 (by decide) (by kernel_rfl)) s75
          have g76 := get_eqS (hD 17 76 (by decide) (by kernel_rfl)) s76
          have g77 := get_eqS (hD 18 77 (by decide) (by kernel_rfl)) s77
          have g78 := get_eqS (hD 19 78 (by decide) (by kernel_rfl)) s78
          have g79 := get_eqS (hD 20 79 (by decide) (by kernel_rfl)) s79
          have g80 := get_eqS (hD 21 80 (by decide) (by kernel_rfl)) s80
          have g81 := get_eqS (hD 22 81 (by decide) (by kernel_rfl)) s81
          have g82 := get_eqS (hD 23 82 (by decide) (by kernel_rfl)) s82
          have g83 := get_eqS (hD 24 83 (by decide) (by kernel_rfl)) s83
          have g84 := get_eqS (hD 25 84 (by decide) (by kernel_rfl)) s84
          have g14 := get_eqS (hD 26 14 (by decide) (by kernel_rfl)) s14
          have hT := conc [(59, .int .i64 1), (60, .bool true), (61, .bool true), (62, .int .i64 j), (63, .pointer (some ⟨w3.heap.size, o, none⟩)), (64, .int .i64 cj), (65, .int .i64 j), (66, .pointer (some ⟨w.heap.size, 9, none⟩)), (67, .pointer (some ⟨w.heap.size, oh, none⟩)), (68, .int .i64 H), (69, .bool true), (70, .bool true), (71, .bool true), (72, undef), (73, undef), (74, undef), (75, undef), (76, undef), (77, undef), (78, undef), (79, undef), (80, undef), (81, undef), (82, undef), (83, undef), (84, .bool true), (14, .bool true)] hs hF (by simp only [List.forall_mem_cons]; exact ⟨g59, g60, g61, g62, g63, g64, g65, g66, g67, g68, g69, g70, g71, g72, g73, g74, g75, g76, g77, g78, g79, g80, g81, g82, g83, g84, g14, fun p hp => absurd hp List.not_mem_nil⟩) (by kernel_rfl)
          simp only [List.foldl, List.setIfInBounds_toArray, List.set_cons_succ, List.set_cons_zero] at hT
          subst hT
          clear hF hD hs g59 g60 g61 g62 g63 g64 g65 g66 g67 g68 g69 g70 g71 g72 g73 g74 g75 g76 g77 g78 g79 g80 g81 g82 g83 g84 g14 s14 s59 s60 s61 s62 s63 s64 s65 s66 s67 s68 s69 s70 s71 s72 s73 s74 s75 s76 s77 s78 s79 s80 s81 s82 s83 s84
          replace HA := Lib.hid (blk_call HA.out hb8)
          replace HQ := Lib.hid (blk_call HQ.out hb8)
          replace HR := Lib.hid (blk_call HR.out hb8)
          replace B := Lib.hid (belT B.out hb8)
          clear hb8
          go_wp2_with fail
          go_roundw
          case rel => exact ⟨n + 1, _, _, _, by omega, by go_num, cb.out, HA.out, HQ.out, B.out⟩
          case measure => simp [intOf]; omega
      replace hx := Lib.hid hx
      have x0 := blk_cell HA.out 0 _ rfl
      have x1 := blk_cell HA.out 1 _ rfl
      have x2 := blk_cell HA.out 2 _ rfl
      have x3 := blk_cell HA.out 3 _ rfl
      have x4 := blk_cell HA.out 4 _ rfl
      have x5 := blk_cell HA.out 5 _ rfl
      have x6 := blk_cell HA.out 6 _ rfl
      have x7 := blk_cell HA.out 7 _ rfl
      have x8 := blk_cell HA.out 8 _ rfl
      have x9 := blk_cell HA.out 9 _ rfl
      have x10 := blk_cell HA.out 10 _ rfl
      have x11 := blk_cell HA.out 11 _ rfl
      have y0 := blk_cell HQ.out 0 _ rfl
      have y1 := blk_cell HQ.out 1 _ rfl
      have y2 := blk_cell HQ.out 2 _ rfl
      have FB : Hid (fitB l0 l1 l2 h0 h1 h2 p0 p1 p2 = true) := Lib.hid (by rw [atS_fit AT.out cb.out (by omega)]; exact decide_eq_true (by have := BD.out; have := hx.out; omega))
      have hxb : (cj == H) = false := by have := hx.out; simpa using this
      go_upto_region 10 with fail
      go_wp2_with fail
      refine (atS_yes AT.out cb.out LM.out (by omega) FB _).mono ?_
      rintro e w1 ⟨rfl, hb1⟩
      clear x0 x1 x2 x3 x4 x5 x6 x7 x8 x9 x10 x11 y0 y1 y2 cu
      replace HA := Lib.hid (blk_call HA.out hb1)
      replace HQ := Lib.hid (blk_call HQ.out hb1)
      replace B := Lib.hid (belT B.out hb1)
      clear hb1
      go_upto_region 11 with fail
      replace HA := Lib.hid (blk_alloc HA.out (.cells #[.int .i64 p0, .int .i64 p1, .int .i64 p2] 25))
      replace HQ := Lib.hid (blk_alloc HQ.out (.cells #[.int .i64 p0, .int .i64 p1, .int .i64 p2] 25))
      have HR := Lib.hid (blk_new w1 (.cells #[.int .i64 p0, .int .i64 p1, .int .i64 p2] 25) (w1.heap.size) rfl)
      replace B := Lib.hid (belA B.out (.cells #[.int .i64 p0, .int .i64 p1, .int .i64 p2] 25))
      generalize (w1.alloc (.cells #[.int .i64 p0, .int .i64 p1, .int .i64 p2] 25)) = V1 at *
      obtain ⟨sp, hsp⟩ : ∃ sp : ToldS, sp = [none, none, none, none, none, none, none, none, none, none, none, none, none, none, some (eqS (.bool false)), none, none, none, none, none, none, none, none, none, none, none, none, none, none, none, none, none, none, none, none, none, none, none, none, none, none, none, none, none, none, none, none, none, none, none, none, none, none, none, none, none, none, none, none, some (eqS (.int .i64 1)), some (eqS (.bool true)), some (eqS (.bool true)), some (eqS (.int .i64 j)), some (eqS (.pointer (some ⟨w3.heap.size, o, none⟩))), some (eqS (.int .i64 cj)), some (eqS (.int .i64 j)), some (eqS (.pointer (some ⟨w.heap.size, 9, none⟩))), some (eqS (.pointer (some ⟨w.heap.size, oh, none⟩))), some (eqS (.int .i64 H)), some (eqS (.bool false)), some (eqS (.bool false)), some (eqS (.bool false)), some (eqS (.int .i64 1)), some (eqS (.bool false)), some (eqS (.bool false)), some (eqS (undef)), some (eqS (undef)), some (eqS (undef)), some (eqS (undef)), some (eqS (undef)), some (eqS (undef)), some (eqS (undef)), some (eqS (undef)), some (eqS (.bool false)), some (eqS (.bool false))] := ⟨_, rfl⟩
      have s14 : sp.getD 14 none = some (eqS (.bool false)) := by rw [hsp]; rfl
      have s59 : sp.getD 59 none = some (eqS (.int .i64 1)) := by rw [hsp]; rfl
      have s60 : sp.getD 60 none = some (eqS (.bool true)) := by rw [hsp]; rfl
      have s61 : sp.getD 61 none = some (eqS (.bool true)) := by rw [hsp]; rfl
      have s62 : sp.getD 62 none = some (eqS (.int .i64 j)) := by rw [hsp]; rfl
      have s63 : sp.getD 63 none = some (eqS (.pointer (some ⟨w3.heap.size, o, none⟩))) := by rw [hsp]; rfl
      have s64 : sp.getD 64 none = some (eqS (.int .i64 cj)) := by rw [hsp]; rfl
      have s65 : sp.getD 65 none = some (eqS (.int .i64 j)) := by rw [hsp]; rfl
      have s66 : sp.getD 66 none = some (eqS (.pointer (some ⟨w.heap.size, 9, none⟩))) := by rw [hsp]; rfl
      have s67 : sp.getD 67 none = some (eqS (.pointer (some ⟨w.heap.size, oh, none⟩))) := by rw [hsp]; rfl
      have s68 : sp.getD 68 none = some (eqS (.int .i64 H)) := by rw [hsp]; rfl
      have s69 : sp.getD 69 none = some (eqS (.bool false)) := by rw [hsp]; rfl
      have s70 : sp.getD 70 none = some (eqS (.bool false)) := by rw [hsp]; rfl
      have s71 : sp.getD 71 none = some (eqS (.bool false)) := by rw [hsp]; rfl
      have s72 : sp.getD 72 none = some (eqS (.int .i64 1)) := by rw [hsp]; rfl
      have s73 : sp.getD 73 none = some (eqS (.bool false)) := by rw [hsp]; rfl
      have s74 : sp.getD 74 none = some (eqS (.bool false)) := by rw [hsp]; rfl
      have s75 : sp.getD 75 none = some (eqS (undef)) := by rw [hsp]; rfl
      have s76 : sp.getD 76 none = some (eqS (undef)) := by rw [hsp]; rfl
      have s77 : sp.getD 77 none = some (eqS (undef)) := by rw [hsp]; rfl
      have s78 : sp.getD 78 none = some (eqS (undef)) := by rw [hsp]; rfl
      have s79 : sp.getD 79 none = some (eqS (undef)) := by rw [hsp]; rfl
      have s80 : sp.getD 80 none = some (eqS (undef)) := by rw [hsp]; rfl
      have s81 : sp.getD 81 none = some (eqS (undef)) := by rw [hsp]; rfl
      have s82 : sp.getD 82 none = some (eqS (undef)) := by rw [hsp]; rfl
      have s83 : sp.getD 83 none = some (eqS (.bool false)) := by rw [hsp]; rfl
      have s84 : sp.getD 84 none = some (eqS (.bool false)) := by rw [hsp]; rfl
      clear hsp
      refine (wpIn_wide (n := 0)).1 (region_allR (RtS sp) (rtS_keep sp) rfl rfl rfl (by kernel_rfl) (by kernel_rfl) (by kernel_rfl) ?_ ?_)
      · intro Q'
        refine obsR_cons ?_ ?_
        · intro T wx K hB hF hD hK
          have g11 : T[11]? = some (.int .i64 1) := hF 11 (freeM_of (by kernel_rfl))
          refine ob_yes (wanted_none rfl) ?_
          clear hF hD
          go_simp
          exact hK _ _ (Below.refl _ _) (rt_eqS s59)
        refine obsR_cons ?_ ?_
        · intro T wx K hB hF hD hK
          have g59 := get_eqS (hD 0 59 (by simp [Region.binds]) (by kernel_rfl)) s59
          refine ob_yes (wanted_none rfl) ?_
          clear hF hD
          go_simp
          exact hK _ _ (Below.refl _ _) (rt_eqS s60)
        refine obsR_cons ?_ ?_
        · intro T wx K hB hF hD hK
          have g60 := get_eqS (hD 1 60 (by simp [Region.binds]) (by kernel_rfl)) s60
          refine ob_yes (wanted_none rfl) ?_
          clear hF hD
          go_simp
          exact hK _ _ (Below.refl _ _) (rt_eqS s61)
        refine obsR_cons ?_ ?_
        · intro T wx K hB hF hD hK
          have g61 := get_eqS (hD 2 61 (by simp [Region.binds]) (by kernel_rfl)) s61
          have g10 : T[10]? = some (.int .i64 j) := hF 10 (freeM_of (by kernel_rfl))
          refine ob_yes (wanted_yes rfl (by kernel_rfl) g61) ?_
          clear hF hD
          go_simp
          exact hK _ _ (Below.refl _ _) (rt_eqS s62)
        refine obsR_cons ?_ ?_
        · intro T wx K hB hF hD hK
          have g61 := get_eqS (hD 2 61 (by simp [Region.binds]) (by kernel_rfl)) s61
          have g8 : T[8]? = some (.pointer (some ⟨w3.heap.size, 0, none⟩)) := hF 8 (freeM_of (by kernel_rfl))
          have g62 := get_eqS (hD 3 62 (by simp [Region.binds]) (by kernel_rfl)) s62
          refine ob_yes (wanted_yes rfl (by kernel_rfl) g61) ?_
          clear hF hD
          go_simp
          exact hK _ _ (Below.refl _ _) (rt_eqS s63)
        refine obsR_cons ?_ ?_
        · intro T wx K hB hF hD hK
          have g61 := get_eqS (hD 2 61 (by simp [Region.binds]) (by kernel_rfl)) s61
          have g63 := get_eqS (hD 4 63 (by simp [Region.binds]) (by kernel_rfl)) s63
          refine ob_yes (wanted_yes rfl (by kernel_rfl) g61) ?_
          clear hF hD
          have c0' := atS_q AT.out (blk_call HQ.out hB)
          go_simp
          exact hK _ _ (Below.refl _ _) (rt_eqS s64)
        refine obsR_cons ?_ ?_
        · intro T wx K hB hF hD hK
          have g61 := get_eqS (hD 2 61 (by simp [Region.binds]) (by kernel_rfl)) s61
          have g10 : T[10]? = some (.int .i64 j) := hF 10 (freeM_of (by kernel_rfl))
          refine ob_yes (wanted_yes rfl (by kernel_rfl) g61) ?_
          clear hF hD
          go_simp
          exact hK _ _ (Below.refl _ _) (rt_eqS s65)
        refine obsR_cons ?_ ?_
        · intro T wx K hB hF hD hK
          have g61 := get_eqS (hD 2 61 (by simp [Region.binds]) (by kernel_rfl)) s61
          have g3 : T[3]? = some (.pointer (some ⟨w.heap.size, 0, none⟩)) := hF 3 (freeM_of (by kernel_rfl))
          refine ob_yes (wanted_yes rfl (by kernel_rfl) g61) ?_
          clear hF hD
          go_simp
          exact hK _ _ (Below.refl _ _) (rt_eqS s66)
        refine obsR_cons ?_ ?_
        · intro T wx K hB hF hD hK
          have g61 := get_eqS (hD 2 61 (by simp [Region.binds]) (by kernel_rfl)) s61
          have g66 := get_eqS (hD 7 66 (by simp [Region.binds]) (by kernel_rfl)) s66
          have g65 := get_eqS (hD 6 65 (by simp [Region.binds]) (by kernel_rfl)) s65
          refine ob_yes (wanted_yes rfl (by kernel_rfl) g61) ?_
          clear hF hD
          go_simp
          exact hK _ _ (Below.refl _ _) (rt_eqS s67)
        refine obsR_cons ?_ ?_
        · intro T wx K hB hF hD hK
          have g61 := get_eqS (hD 2 61 (by simp [Region.binds]) (by kernel_rfl)) s61
          have g67 := get_eqS (hD 8 67 (by simp [Region.binds]) (by kernel_rfl)) s67
          refine ob_yes (wanted_yes rfl (by kernel_rfl) g61) ?_
          clear hF hD
          have c0' := (atS_lim AT.out (blk_call HA.out hB)).2
          go_simp
          exact hK _ _ (Below.refl _ _) (rt_eqS s68)
        refine obsR_cons ?_ ?_
        · intro T wx K hB hF hD hK
          have g61 := get_eqS (hD 2 61 (by simp [Region.binds]) (by kernel_rfl)) s61
          have g64 := get_eqS (hD 5 64 (by simp [Region.binds]) (by kernel_rfl)) s64
          have g68 := get_eqS (hD 9 68 (by simp [Region.binds]) (by kernel_rfl)) s68
          refine ob_yes (wanted_yes rfl (by kernel_rfl) g61) ?_
          clear hF hD
          go_simp
          exact hK _ _ (Below.refl _ _) (rt_eqS s69)
        refine obsR_cons ?_ ?_
        · intro T wx K hB hF hD hK
          have g61 := get_eqS (hD 2 61 (by simp [Region.binds]) (by kernel_rfl)) s61
          have g69 := get_eqS (hD 10 69 (by simp [Region.binds]) (by kernel_rfl)) s69
          refine ob_yes (wanted_none rfl) ?_
          clear hF hD
          go_simp
          exact hK _ _ (Below.refl _ _) (rt_eqS s70)
        refine obsR_cons ?_ ?_
        · intro T wx K hB hF hD hK
          have g70 := get_eqS (hD 11 70 (by simp [Region.binds]) (by kernel_rfl)) s70
          refine ob_yes (wanted_none rfl) ?_
          clear hF hD
          go_simp
          exact hK _ _ (Below.refl _ _) (rt_eqS s71)
        refine obsR_cons ?_ ?_
        · intro T wx K hB hF hD hK
          have g71 := get_eqS (hD 12 71 (by simp [Region.binds]) (by kernel_rfl)) s71
          have g11 : T[11]? = some (.int .i64 1) := hF 11 (freeM_of (by kernel_rfl))
          refine ob_yes (wanted_yes rfl (by kernel_rfl) g71) ?_
          clear hF hD
          go_simp
          exact hK _ _ (Below.refl _ _) (rt_eqS s72)
        refine obsR_cons ?_ ?_
        · intro T wx K hB hF hD hK
          have g71 := get_eqS (hD 12 71 (by simp [Region.binds]) (by kernel_rfl)) s71
          have g72 := get_eqS (hD 13 72 (by simp [Region.binds]) (by kernel_rfl)) s72
          refine ob_yes (wanted_yes rfl (by kernel_rfl) g71) ?_
          clear hF hD
          go_simp
          exact hK _ _ (Below.refl _ _) (rt_eqS s73)
        refine obsR_cons ?_ ?_
        · intro T wx K hB hF hD hK
          have g71 := get_eqS (hD 12 71 (by simp [Region.binds]) (by kernel_rfl)) s71
          have g73 := get_eqS (hD 14 73 (by simp [Region.binds]) (by kernel_rfl)) s73
          refine ob_yes (wanted_yes rfl (by kernel_rfl) g71) ?_
          clear hF hD
          go_simp
          exact hK _ _ (Below.refl _ _) (rt_eqS s74)
        refine obsR_cons ?_ ?_
        · intro T wx K hB hF hD hK
          have g74 := get_eqS (hD 15 74 (by simp [Region.binds]) (by kernel_rfl)) s74
          refine ob_no (wanted_no rfl (by kernel_rfl) g74 rfl) ?_
          exact hK _ _ (Below.refl _ _) (rt_eqS s75)
        refine obsR_cons ?_ ?_
        · intro T wx K hB hF hD hK
          have g74 := get_eqS (hD 15 74 (by simp [Region.binds]) (by kernel_rfl)) s74
          refine ob_no (wanted_no rfl (by kernel_rfl) g74 rfl) ?_
          exact hK _ _ (Below.refl _ _) (rt_eqS s76)
        refine obsR_cons ?_ ?_
        · intro T wx K hB hF hD hK
          have g74 := get_eqS (hD 15 74 (by simp [Region.binds]) (by kernel_rfl)) s74
          refine ob_no (wanted_no rfl (by kernel_rfl) g74 rfl) ?_
          exact hK _ _ (Below.refl _ _) (rt_eqS s77)
        refine obsR_cons ?_ ?_
        · intro T wx K hB hF hD hK
          have g74 := get_eqS (hD 15 74 (by simp [Region.binds]) (by kernel_rfl)) s74
          refine ob_no (wanted_no rfl (by kernel_rfl) g74 rfl) ?_
          exact hK _ _ (Below.refl _ _) (rt_eqS s78)
        refine obsR_cons ?_ ?_
        · intro T wx K hB hF hD hK
          have g74 := get_eqS (hD 15 74 (by simp [Region.binds]) (by kernel_rfl)) s74
          refine ob_no (wanted_no rfl (by kernel_rfl) g74 rfl) ?_
          exact hK _ _ (Below.refl _ _) (rt_eqS s79)
        refine obsR_cons ?_ ?_
        · intro T wx K hB hF hD hK
          have g74 := get_eqS (hD 15 74 (by simp [Region.binds]) (by kernel_rfl)) s74
          refine ob_no (wanted_no rfl (by kernel_rfl) g74 rfl) ?_
          exact hK _ _ (Below.refl _ _) (rt_eqS s80)
        refine obsR_cons ?_ ?_
        · intro T wx K hB hF hD hK
          have g74 := get_eqS (hD 15 74 (by simp [Region.binds]) (by kernel_rfl)) s74
          refine ob_no (wanted_no rfl (by kernel_rfl) g74 rfl) ?_
          exact hK _ _ (Below.refl _ _) (rt_eqS s81)
        refine obsR_cons ?_ ?_
        · intro T wx K hB hF hD hK
          have g74 := get_eqS (hD 15 74 (by simp [Region.binds]) (by kernel_rfl)) s74
          refine ob_no (wanted_no rfl (by kernel_rfl) g74 rfl) ?_
          exact hK _ _ (Below.refl _ _) (rt_eqS s82)
        refine obsR_cons ?_ ?_
        · intro T wx K hB hF hD hK
          have g71 := get_eqS (hD 12 71 (by simp [Region.binds]) (by kernel_rfl)) s71
          have g74 := get_eqS (hD 15 74 (by simp [Region.binds]) (by kernel_rfl)) s74
          have g82 := get_eqS (hD 23 82 (by simp [Region.binds]) (by kernel_rfl)) s82
          refine ob_yes (wanted_yes rfl (by kernel_rfl) g71) ?_
          clear hF hD
          go_simp
          exact hK _ _ (Below.refl _ _) (rt_eqS s83)
        refine obsR_cons ?_ ?_
        · intro T wx K hB hF hD hK
          have g71 := get_eqS (hD 12 71 (by simp [Region.binds]) (by kernel_rfl)) s71
          have g83 := get_eqS (hD 24 83 (by simp [Region.binds]) (by kernel_rfl)) s83
          refine ob_yes (wanted_none rfl) ?_
          clear hF hD
          go_simp
          exact hK _ _ (Below.refl _ _) (rt_eqS s84)
        refine obsR_cons ?_ ?_
        · intro T wx K hB hF hD hK
          have g84 := get_eqS (hD 25 84 (by simp [Region.binds]) (by kernel_rfl)) s84
          refine ob_yes (wanted_none rfl) ?_
          clear hF hD
          go_simp
          exact hK _ _ (Below.refl _ _) (rt_eqS s14)
        exact obsR_nil
      · intro S1 V2 hb8 hF hs hD
        have g59 := get_eqS (hD 0 59 (by decide) (by kernel_rfl)) s59
        have g60 := get_eqS (hD 1 60 (by decide) (by kernel_rfl)) s60
        have g61 := get_eqS (hD 2 61 (by decide) (by kernel_rfl)) s61
        have g62 := get_eqS (hD 3 62 (by decide) (by kernel_rfl)) s62
        have g63 := get_eqS (hD 4 63 (by decide) (by kernel_rfl)) s63
        have g64 := get_eqS (hD 5 64 (by decide) (by kernel_rfl)) s64
        have g65 := get_eqS (hD 6 65 (by decide) (by kernel_rfl)) s65
        have g66 := get_eqS (hD 7 66 (by decide) (by kernel_rfl)) s66
        have g67 := get_eqS (hD 8 67 (by decide) (by kernel_rfl)) s67
        have g68 := get_eqS (hD 9 68 (by decide) (by kernel_rfl)) s68
        have g69 := get_eqS (hD 10 69 (by decide) (by kernel_rfl)) s69
        have g70 := get_eqS (hD 11 70 (by decide) (by kernel_rfl)) s70
        have g71 := get_eqS (hD 12 71 (by decide) (by kernel_rfl)) s71
        have g72 := get_eqS (hD 13 72 (by decide) (by kernel_rfl)) s72
        have g73 := get_eqS (hD 14 73 (by decide) (by kernel_rfl)) s73
        have g74 := get_eqS (hD 15 74 (by decide) (by kernel_rfl)) s74
        have g75 := get_eqS (hD 16 75 (by decide) (by kernel_rfl)) s75
        have g76 := get_eqS (hD 17 76 (by decide) (by kernel_rfl)) s76
        have g77 := get_eqS (hD 18 77 (by decide) (by kernel_rfl)) s77
        have g78 := get_eqS (hD 19 78 (by decide) (by kernel_rfl)) s78
        have g79 := get_eqS (hD 20 79 (by decide) (by kernel_rfl)) s79
        have g80 := get_eqS (hD 21 80 (by decide) (by kernel_rfl)) s80
        have g81 := get_eqS (hD 22 81 (by decide) (by kernel_rfl)) s81
        have g82 := get_eqS (hD 23 82 (by decide) (by kernel_rfl)) s82
        have g83 := get_eqS (hD 24 83 (by decide) (by kernel_rfl)) s83
        have g84 := get_eqS (hD 25 84 (by decide) (by kernel_rfl)) s84
        have g14 := get_eqS (hD 26 14 (by decide) (by kernel_rfl)) s14
        have hT := conc [(59, .int .i64 1), (60, .bool true), (61, .bool true), (62, .int .i64 j), (63, .pointer (some ⟨w3.heap.size, o, none⟩)), (64, .int .i64 cj), (65, .int .i64 j), (66, .pointer (some ⟨w.heap.size, 9, none⟩)), (67, .pointer (some ⟨w.heap.size, oh, none⟩)), (68, .int .i64 H), (69, .bool false), (70, .bool false), (71, .bool false), (72, .int .i64 1), (73, .bool false), (74, .bool false), (75, undef), (76, undef), (77, undef), (78, undef), (79, undef), (80, undef), (81, undef), (82, undef), (83, .bool false), (84, .bool false), (14, .bool false)] hs hF (by simp only [List.forall_mem_cons]; exact ⟨g59, g60, g61, g62, g63, g64, g65, g66, g67, g68, g69, g70, g71, g72, g73, g74, g75, g76, g77, g78, g79, g80, g81, g82, g83, g84, g14, fun p hp => absurd hp List.not_mem_nil⟩) (by kernel_rfl)
        simp only [List.foldl, List.setIfInBounds_toArray, List.set_cons_succ, List.set_cons_zero] at hT
        subst hT
        clear hF hD hs g59 g60 g61 g62 g63 g64 g65 g66 g67 g68 g69 g70 g71 g72 g73 g74 g75 g76 g77 g78 g79 g80 g81 g82 g83 g84 g14 s14 s59 s60 s61 s62 s63 s64 s65 s66 s67 s68 s69 s70 s71 s72 s73 s74 s75 s76 s77 s78 s79 s80 s81 s82 s83 s84
        replace HA := Lib.hid (blk_call HA.out hb8)
        replace HQ := Lib.hid (blk_call HQ.out hb8)
        replace HR := Lib.hid (blk_call HR.out hb8)
        replace B := Lib.hid (belT B.out hb8)
        clear hb8
        have x0 := blk_cell HA.out 0 _ rfl
        have x1 := blk_cell HA.out 1 _ rfl
        have x2 := blk_cell HA.out 2 _ rfl
        have x3 := blk_cell HA.out 3 _ rfl
        have x4 := blk_cell HA.out 4 _ rfl
        have x5 := blk_cell HA.out 5 _ rfl
        have x6 := blk_cell HA.out 6 _ rfl
        have x7 := blk_cell HA.out 7 _ rfl
        have x8 := blk_cell HA.out 8 _ rfl
        have x9 := blk_cell HA.out 9 _ rfl
        have x10 := blk_cell HA.out 10 _ rfl
        have x11 := blk_cell HA.out 11 _ rfl
        have y0 := blk_cell HR.out 0 _ rfl
        have y1 := blk_cell HR.out 1 _ rfl
        have y2 := blk_cell HR.out 2 _ rfl
        have FC : Hid (fitB l0 l1 l2 h0 h1 h2 c0 c1 c2 = true) := Lib.hid (decide_eq_true cb.out)
        have SB := Lib.hid (fun w => atS_back (X := X) (Y := Y) (n0 := n0) (n1 := n1) (n2 := n2) (W := W) AT.out cb.out LM.out (by omega) FC w)
        go_upto_region 15 with fail
        go_wp2_with fail
        refine (SB.out _).mono ?_
        rintro e w2 ⟨rfl, hb2⟩
        clear x0 x1 x2 x3 x4 x5 x6 x7 x8 x9 x10 x11 y0 y1 y2
        replace HA := Lib.hid (blk_call HA.out hb2)
        replace HQ := Lib.hid (blk_call HQ.out hb2)
        replace HR := Lib.hid (blk_call HR.out hb2)
        replace B := Lib.hid (belT B.out hb2)
        clear hb2
        go_upto_region 16 with fail
        replace HA := Lib.hid (blk_alloc HA.out (.cells #[.int .i64 c0, .int .i64 c1, .int .i64 c2] 25))
        replace HQ := Lib.hid (blk_alloc HQ.out (.cells #[.int .i64 c0, .int .i64 c1, .int .i64 c2] 25))
        replace HR := Lib.hid (blk_alloc HR.out (.cells #[.int .i64 c0, .int .i64 c1, .int .i64 c2] 25))
        have HS := Lib.hid (blk_new w2 (.cells #[.int .i64 c0, .int .i64 c1, .int .i64 c2] 25) (w2.heap.size) rfl)
        replace B := Lib.hid (belA B.out (.cells #[.int .i64 c0, .int .i64 c1, .int .i64 c2] 25))
        generalize (w2.alloc (.cells #[.int .i64 c0, .int .i64 c1, .int .i64 c2] 25)) = V3 at *
        obtain ⟨sp, hsp⟩ : ∃ sp : ToldS, sp = [none, none, none, none, none, none, none, none, none, none, none, none, none, none, none, none, none, none, none, none, none, none, none, none, none, none, none, none, none, none, none, none, none, none, none, none, none, none, none, none, none, none, none, none, none, none, none, none, none, none, none, none, none, none, none, none, none, none, none, none, none, none, none, none, none, none, none, none, none, none, none, none, none, none, none, none, none, none, none, none, none, none, none, none, none, none, none, none, none, none, none, none, none, none, none, none, none, none, none, some (eqS (.bool true)), some (eqS (.bool false)), some (eqS (.bool false)), some (eqS (.agg #[.int .i64 c0, .int .i64 c1, .int .i64 c2])), some (eqS (.agg #[.int .i64 c0, .int .i64 c1, .int .i64 c2])), some (eqS (.bool false)), some (eqS (.bool false)), some (eqS (.bool false)), some (eqS (.agg #[.int .i64 X, .int .i64 Y, .int .i64 n0, .int .i64 n1, .int .i64 n2, .int .i64 W, .int .i64 l0, .int .i64 l1, .int .i64 l2, .int .i64 h0, .int .i64 h1, .int .i64 h2])), some (eqS (.agg #[.int .i64 p0, .int .i64 p1, .int .i64 p2])), some (eqS (.bool true)), some (eqS (.bool false)), some (eqS (.bool false)), some (eqS (.bool false)), some (eqS (.int .i64 j)), some (eqS (.pointer (some ⟨w1.heap.size, o, none⟩))), some (eqS (.int .i64 (cj + 1))), some (eqS (.int .i64 j)), some (eqS (.pointer (some ⟨w3.heap.size, o, none⟩))), some (eqS (.int .i64 cj)), some (eqS (.int .i64 1)), some (eqS (.int .i64 (cj + 1))), some (eqS (.bool false)), some (eqS (.bool false))] := ⟨_, rfl⟩
        have s99 : sp.getD 99 none = some (eqS (.bool true)) := by rw [hsp]; rfl
        have s100 : sp.getD 100 none = some (eqS (.bool false)) := by rw [hsp]; rfl
        have s101 : sp.getD 101 none = some (eqS (.bool false)) := by rw [hsp]; rfl
        have s102 : sp.getD 102 none = some (eqS (.agg #[.int .i64 c0, .int .i64 c1, .int .i64 c2])) := by rw [hsp]; rfl
        have s103 : sp.getD 103 none = some (eqS (.agg #[.int .i64 c0, .int .i64 c1, .int .i64 c2])) := by rw [hsp]; rfl
        have s104 : sp.getD 104 none = some (eqS (.bool false)) := by rw [hsp]; rfl
        have s105 : sp.getD 105 none = some (eqS (.bool false)) := by rw [hsp]; rfl
        have s106 : sp.getD 106 none = some (eqS (.bool false)) := by rw [hsp]; rfl
        have s107 : sp.getD 107 none = some (eqS (.agg #[.int .i64 X, .int .i64 Y, .int .i64 n0, .int .i64 n1, .int .i64 n2, .int .i64 W, .int .i64 l0, .int .i64 l1, .int .i64 l2, .int .i64 h0, .int .i64 h1, .int .i64 h2])) := by rw [hsp]; rfl
        have s108 : sp.getD 108 none = some (eqS (.agg #[.int .i64 p0, .int .i64 p1, .int .i64 p2])) := by rw [hsp]; rfl
        have s109 : sp.getD 109 none = some (eqS (.bool true)) := by rw [hsp]; rfl
        have s110 : sp.getD 110 none = some (eqS (.bool false)) := by rw [hsp]; rfl
        have s111 : sp.getD 111 none = some (eqS (.bool false)) := by rw [hsp]; rfl
        have s112 : sp.getD 112 none = some (eqS (.bool false)) := by rw [hsp]; rfl
        have s113 : sp.getD 113 none = some (eqS (.int .i64 j)) := by rw [hsp]; rfl
        have s114 : sp.getD 114 none = some (eqS (.pointer (some ⟨w1.heap.size, o, none⟩))) := by rw [hsp]; rfl
        have s115 : sp.getD 115 none = some (eqS (.int .i64 (cj + 1))) := by rw [hsp]; rfl
        have s116 : sp.getD 116 none = some (eqS (.int .i64 j)) := by rw [hsp]; rfl
        have s117 : sp.getD 117 none = some (eqS (.pointer (some ⟨w3.heap.size, o, none⟩))) := by rw [hsp]; rfl
        have s118 : sp.getD 118 none = some (eqS (.int .i64 cj)) := by rw [hsp]; rfl
        have s119 : sp.getD 119 none = some (eqS (.int .i64 1)) := by rw [hsp]; rfl
        have s120 : sp.getD 120 none = some (eqS (.int .i64 (cj + 1))) := by rw [hsp]; rfl
        have s121 : sp.getD 121 none = some (eqS (.bool false)) := by rw [hsp]; rfl
        have s122 : sp.getD 122 none = some (eqS (.bool false)) := by rw [hsp]; rfl
        clear hsp
        refine (wpIn_wide (n := 0)).1 (region_allR (RtS sp) (rtS_keep sp) rfl rfl rfl (by kernel_rfl) (by kernel_rfl) (by kernel_rfl) ?_ ?_)
        · intro Q'
          refine obsR_cons ?_ ?_
          · intro T wx K hB hF hD hK
            have g16 : T[16]? = some (.bool true) := hF 16 (freeM_of (by kernel_rfl))
            refine ob_yes (wanted_none rfl) ?_
            clear hF hD
            go_simp
            exact hK _ _ (Below.refl _ _) (rt_eqS s99)
          refine obsR_cons ?_ ?_
          · intro T wx K hB hF hD hK
            have g99 := get_eqS (hD 0 99 (by simp [Region.binds]) (by kernel_rfl)) s99
            refine ob_yes (wanted_none rfl) ?_
            clear hF hD
            go_simp
            exact hK _ _ (Below.refl _ _) (rt_eqS s100)
          refine obsR_cons ?_ ?_
          · intro T wx K hB hF hD hK
            have g100 := get_eqS (hD 1 100 (by simp [Region.binds]) (by kernel_rfl)) s100
            refine ob_yes (wanted_none rfl) ?_
            clear hF hD
            go_simp
            exact hK _ _ (Below.refl _ _) (rt_eqS s101)
          refine obsR_cons ?_ ?_
          · intro T wx K hB hF hD hK
            have g101 := get_eqS (hD 2 101 (by simp [Region.binds]) (by kernel_rfl)) s101
            have g15 : T[15]? = some (.pointer (some ⟨w2.heap.size, 0, none⟩)) := hF 15 (freeM_of (by kernel_rfl))
            refine ob_yes (wanted_yes rfl (by kernel_rfl) g101) ?_
            clear hF hD
            exact wp_load_row 25 (.tmp 15) rfl (w2.heap.size) (eval_tmp g15) _ _ _ _ (blk_call HS.out hB) Tryd.underlying25 rfl (by kernel_rfl) (hK _ _ (Below.refl _ _) (rt_eqS s102))
          refine obsR_cons ?_ ?_
          · intro T wx K hB hF hD hK
            have g101 := get_eqS (hD 2 101 (by simp [Region.binds]) (by kernel_rfl)) s101
            have g8 : T[8]? = some (.pointer (some ⟨w3.heap.size, 0, none⟩)) := hF 8 (freeM_of (by kernel_rfl))
            refine ob_yes (wanted_yes rfl (by kernel_rfl) g101) ?_
            clear hF hD
            exact wp_load_row 25 (.tmp 8) rfl (w3.heap.size) (eval_tmp g8) _ _ _ _ (blk_call HQ.out hB) Tryd.underlying25 rfl (by kernel_rfl) (hK _ _ (Below.refl _ _) (rt_eqS s103))
          refine obsR_cons ?_ ?_
          · intro T wx K hB hF hD hK
            have g101 := get_eqS (hD 2 101 (by simp [Region.binds]) (by kernel_rfl)) s101
            have g102 := get_eqS (hD 3 102 (by simp [Region.binds]) (by kernel_rfl)) s102
            have g103 := get_eqS (hD 4 103 (by simp [Region.binds]) (by kernel_rfl)) s103
            refine ob_yes (wanted_yes rfl (by kernel_rfl) g101) ?_
            clear hF hD
            have nj := fun w => neq_joints c0 c1 c2 w
            go_simp
            exact hK _ _ (Below.refl _ _) (rt_eqS s104)
          refine obsR_cons ?_ ?_
          · intro T wx K hB hF hD hK
            have g101 := get_eqS (hD 2 101 (by simp [Region.binds]) (by kernel_rfl)) s101
            have g104 := get_eqS (hD 5 104 (by simp [Region.binds]) (by kernel_rfl)) s104
            refine ob_yes (wanted_none rfl) ?_
            clear hF hD
            go_simp
            exact hK _ _ (Below.refl _ _) (rt_eqS s105)
          refine obsR_cons ?_ ?_
          · intro T wx K hB hF hD hK
            have g105 := get_eqS (hD 6 105 (by simp [Region.binds]) (by kernel_rfl)) s105
            refine ob_yes (wanted_none rfl) ?_
            clear hF hD
            go_simp
            exact hK _ _ (Below.refl _ _) (rt_eqS s106)
          refine obsR_cons ?_ ?_
          · intro T wx K hB hF hD hK
            have g106 := get_eqS (hD 7 106 (by simp [Region.binds]) (by kernel_rfl)) s106
            have g3 : T[3]? = some (.pointer (some ⟨w.heap.size, 0, none⟩)) := hF 3 (freeM_of (by kernel_rfl))
            refine ob_yes (wanted_yes rfl (by kernel_rfl) g106) ?_
            clear hF hD
            exact wp_load_row 27 (.tmp 3) rfl w.heap.size (eval_tmp g3) _ _ _ _ (blk_call HA.out hB) Tryd.underlying27 rfl (by kernel_rfl) (hK _ _ (Below.refl _ _) (rt_eqS s107))
          refine obsR_cons ?_ ?_
          · intro T wx K hB hF hD hK
            have g106 := get_eqS (hD 7 106 (by simp [Region.binds]) (by kernel_rfl)) s106
            have g12 : T[12]? = some (.pointer (some ⟨w1.heap.size, 0, none⟩)) := hF 12 (freeM_of (by kernel_rfl))
            refine ob_yes (wanted_yes rfl (by kernel_rfl) g106) ?_
            clear hF hD
            exact wp_load_row 25 (.tmp 12) rfl (w1.heap.size) (eval_tmp g12) _ _ _ _ (blk_call HR.out hB) Tryd.underlying25 rfl (by kernel_rfl) (hK _ _ (Below.refl _ _) (rt_eqS s108))
          refine obsR_cons ?_ ?_
          · intro T wx K hB hF hD hK
            have g106 := get_eqS (hD 7 106 (by simp [Region.binds]) (by kernel_rfl)) s106
            have g107 := get_eqS (hD 8 107 (by simp [Region.binds]) (by kernel_rfl)) s107
            have g108 := get_eqS (hD 9 108 (by simp [Region.binds]) (by kernel_rfl)) s108
            refine ob_yes (wanted_yes rfl (by kernel_rfl) g106) ?_
            clear hF hD
            go_simp
            refine (inlim_is X Y n0 n1 n2 W l0 l1 l2 h0 h1 h2 p0 p1 p2 true _ FB).mono ?_; rintro e w9 ⟨rfl, hb⟩
            exact hK _ _ hb (rt_eqS s109)
          refine obsR_cons ?_ ?_
          · intro T wx K hB hF hD hK
            have g106 := get_eqS (hD 7 106 (by simp [Region.binds]) (by kernel_rfl)) s106
            have g109 := get_eqS (hD 10 109 (by simp [Region.binds]) (by kernel_rfl)) s109
            refine ob_yes (wanted_yes rfl (by kernel_rfl) g106) ?_
            clear hF hD
            go_simp
            exact hK _ _ (Below.refl _ _) (rt_eqS s110)
          refine obsR_cons ?_ ?_
          · intro T wx K hB hF hD hK
            have g106 := get_eqS (hD 7 106 (by simp [Region.binds]) (by kernel_rfl)) s106
            have g110 := get_eqS (hD 11 110 (by simp [Region.binds]) (by kernel_rfl)) s110
            refine ob_yes (wanted_none rfl) ?_
            clear hF hD
            go_simp
            exact hK _ _ (Below.refl _ _) (rt_eqS s111)
          refine obsR_cons ?_ ?_
          · intro T wx K hB hF hD hK
            have g111 := get_eqS (hD 12 111 (by simp [Region.binds]) (by kernel_rfl)) s111
            refine ob_yes (wanted_none rfl) ?_
            clear hF hD
            go_simp
            exact hK _ _ (Below.refl _ _) (rt_eqS s112)
          refine obsR_cons ?_ ?_
          · intro T wx K hB hF hD hK
            have g112 := get_eqS (hD 13 112 (by simp [Region.binds]) (by kernel_rfl)) s112
            have g10 : T[10]? = some (.int .i64 j) := hF 10 (freeM_of (by kernel_rfl))
            refine ob_yes (wanted_yes rfl (by kernel_rfl) g112) ?_
            clear hF hD
            go_simp
            exact hK _ _ (Below.refl _ _) (rt_eqS s113)
          refine obsR_cons ?_ ?_
          · intro T wx K hB hF hD hK
            have g112 := get_eqS (hD 13 112 (by simp [Region.binds]) (by kernel_rfl)) s112
            have g12 : T[12]? = some (.pointer (some ⟨w1.heap.size, 0, none⟩)) := hF 12 (freeM_of (by kernel_rfl))
            have g113 := get_eqS (hD 14 113 (by simp [Region.binds]) (by kernel_rfl)) s113
            refine ob_yes (wanted_yes rfl (by kernel_rfl) g112) ?_
            clear hF hD
            go_simp
            exact hK _ _ (Below.refl _ _) (rt_eqS s114)
          refine obsR_cons ?_ ?_
          · intro T wx K hB hF hD hK
            have g112 := get_eqS (hD 13 112 (by simp [Region.binds]) (by kernel_rfl)) s112
            have g114 := get_eqS (hD 15 114 (by simp [Region.binds]) (by kernel_rfl)) s114
            refine ob_yes (wanted_yes rfl (by kernel_rfl) g112) ?_
            clear hF hD
            have c0' := atS_r AT.out (blk_call HR.out hB)
            go_simp
            exact hK _ _ (Below.refl _ _) (rt_eqS s115)
          refine obsR_cons ?_ ?_
          · intro T wx K hB hF hD hK
            have g112 := get_eqS (hD 13 112 (by simp [Region.binds]) (by kernel_rfl)) s112
            have g10 : T[10]? = some (.int .i64 j) := hF 10 (freeM_of (by kernel_rfl))
            refine ob_yes (wanted_yes rfl (by kernel_rfl) g112) ?_
            clear hF hD
            go_simp
            exact hK _ _ (Below.refl _ _) (rt_eqS s116)
          refine obsR_cons ?_ ?_
          · intro T wx K hB hF hD hK
            have g112 := get_eqS (hD 13 112 (by simp [Region.binds]) (by kernel_rfl)) s112
            have g8 : T[8]? = some (.pointer (some ⟨w3.heap.size, 0, none⟩)) := hF 8 (freeM_of (by kernel_rfl))
            have g116 := get_eqS (hD 17 116 (by simp [Region.binds]) (by kernel_rfl)) s116
            refine ob_yes (wanted_yes rfl (by kernel_rfl) g112) ?_
            clear hF hD
            go_simp
            exact hK _ _ (Below.refl _ _) (rt_eqS s117)
          refine obsR_cons ?_ ?_
          · intro T wx K hB hF hD hK
            have g112 := get_eqS (hD 13 112 (by simp [Region.binds]) (by kernel_rfl)) s112
            have g117 := get_eqS (hD 18 117 (by simp [Region.binds]) (by kernel_rfl)) s117
            refine ob_yes (wanted_yes rfl (by kernel_rfl) g112) ?_
            clear hF hD
            have c0' := atS_q AT.out (blk_call HQ.out hB)
            go_simp
            exact hK _ _ (Below.refl _ _) (rt_eqS s118)
          refine obsR_cons ?_ ?_
          · intro T wx K hB hF hD hK
            have g112 := get_eqS (hD 13 112 (by simp [Region.binds]) (by kernel_rfl)) s112
            have g11 : T[11]? = some (.int .i64 1) := hF 11 (freeM_of (by kernel_rfl))
            refine ob_yes (wanted_yes rfl (by kernel_rfl) g112) ?_
            clear hF hD
            go_simp
            exact hK _ _ (Below.refl _ _) (rt_eqS s119)
          refine obsR_cons ?_ ?_
          · intro T wx K hB hF hD hK
            have g112 := get_eqS (hD 13 112 (by simp [Region.binds]) (by kernel_rfl)) s112
            have g118 := get_eqS (hD 19 118 (by simp [Region.binds]) (by kernel_rfl)) s118
            have g119 := get_eqS (hD 20 119 (by simp [Region.binds]) (by kernel_rfl)) s119
            refine ob_yes (wanted_yes rfl (by kernel_rfl) g112) ?_
            clear hF hD
            go_simp
            rw [wrapi7 _ (by have := BD.out; omega)]
            exact hK _ _ (Below.refl _ _) (rt_eqS s120)
          refine obsR_cons ?_ ?_
          · intro T wx K hB hF hD hK
            have g112 := get_eqS (hD 13 112 (by simp [Region.binds]) (by kernel_rfl)) s112
            have g115 := get_eqS (hD 16 115 (by simp [Region.binds]) (by kernel_rfl)) s115
            have g120 := get_eqS (hD 21 120 (by simp [Region.binds]) (by kernel_rfl)) s120
            refine ob_yes (wanted_yes rfl (by kernel_rfl) g112) ?_
            clear hF hD
            go_simp
            exact hK _ _ (Below.refl _ _) (rt_eqS s121)
          refine obsR_cons ?_ ?_
          · intro T wx K hB hF hD hK
            have g112 := get_eqS (hD 13 112 (by simp [Region.binds]) (by kernel_rfl)) s112
            have g121 := get_eqS (hD 22 121 (by simp [Region.binds]) (by kernel_rfl)) s121
            refine ob_yes (wanted_none rfl) ?_
            clear hF hD
            go_simp
            exact hK _ _ (Below.refl _ _) (rt_eqS s122)
          exact obsR_nil
        · intro S2 V4 hb8 hF hs hD
          have g99 := get_eqS (hD 0 99 (by decide) (by kernel_rfl)) s99
          have g100 := get_eqS (hD 1 100 (by decide) (by kernel_rfl)) s100
          have g101 := get_eqS (hD 2 101 (by decide) (by kernel_rfl)) s101
          have g102 := get_eqS (hD 3 102 (by decide) (by kernel_rfl)) s102
          have g103 := get_eqS (hD 4 103 (by decide) (by kernel_rfl)) s103
          have g104 := get_eqS (hD 5 104 (by decide) (by kernel_rfl)) s104
          have g105 := get_eqS (hD 6 105 (by decide) (by kernel_rfl)) s105
          have g106 := get_eqS (hD 7 106 (by decide) (by kernel_rfl)) s106
          have g107 := get_eqS (hD 8 107 (by decide) (by kernel_rfl)) s107
          have g108 := get_eqS (hD 9 108 (by decide) (by kernel_rfl)) s108
          have g109 := get_eqS (hD 10 109 (by decide) (by kernel_rfl)) s109
          have g110 := get_eqS (hD 11 110 (by decide) (by kernel_rfl)) s110
          have g111 := get_eqS (hD 12 111 (by decide) (by kernel_rfl)) s111
          have g112 := get_eqS (hD 13 112 (by decide) (by kernel_rfl)) s112
          have g113 := get_eqS (hD 14 113 (by decide) (by kernel_rfl)) s113
          have g114 := get_eqS (hD 15 114 (by decide) (by kernel_rfl)) s114
          have g115 := get_eqS (hD 16 115 (by decide) (by kernel_rfl)) s115
          have g116 := get_eqS (hD 17 116 (by decide) (by kernel_rfl)) s116
          have g117 := get_eqS (hD 18 117 (by decide) (by kernel_rfl)) s117
          have g118 := get_eqS (hD 19 118 (by decide) (by kernel_rfl)) s118
          have g119 := get_eqS (hD 20 119 (by decide) (by kernel_rfl)) s119
          have g120 := get_eqS (hD 21 120 (by decide) (by kernel_rfl)) s120
          have g121 := get_eqS (hD 22 121 (by decide) (by kernel_rfl)) s121
          have g122 := get_eqS (hD 23 122 (by decide) (by kernel_rfl)) s122
          have hT := conc [(99, .bool true), (100, .bool false), (101, .bool false), (102, .agg #[.int .i64 c0, .int .i64 c1, .int .i64 c2]), (103, .agg #[.int .i64 c0, .int .i64 c1, .int .i64 c2]), (104, .bool false), (105, .bool false), (106, .bool false), (107, .agg #[.int .i64 X, .int .i64 Y, .int .i64 n0, .int .i64 n1, .int .i64 n2, .int .i64 W, .int .i64 l0, .int .i64 l1, .int .i64 l2, .int .i64 h0, .int .i64 h1, .int .i64 h2]), (108, .agg #[.int .i64 p0, .int .i64 p1, .int .i64 p2]), (109, .bool true), (110, .bool false), (111, .bool false), (112, .bool false), (113, .int .i64 j), (114, .pointer (some ⟨w1.heap.size, o, none⟩)), (115, .int .i64 (cj + 1)), (116, .int .i64 j), (117, .pointer (some ⟨w3.heap.size, o, none⟩)), (118, .int .i64 cj), (119, .int .i64 1), (120, .int .i64 (cj + 1)), (121, .bool false), (122, .bool false)] hs hF (by simp only [List.forall_mem_cons]; exact ⟨g99, g100, g101, g102, g103, g104, g105, g106, g107, g108, g109, g110, g111, g112, g113, g114, g115, g116, g117, g118, g119, g120, g121, g122, fun p hp => absurd hp List.not_mem_nil⟩) (by kernel_rfl)
          simp only [List.foldl, List.setIfInBounds_toArray, List.set_cons_succ, List.set_cons_zero] at hT
          subst hT
          clear hF hD hs g99 g100 g101 g102 g103 g104 g105 g106 g107 g108 g109 g110 g111 g112 g113 g114 g115 g116 g117 g118 g119 g120 g121 g122 s99 s100 s101 s102 s103 s104 s105 s106 s107 s108 s109 s110 s111 s112 s113 s114 s115 s116 s117 s118 s119 s120 s121 s122
          replace HA := Lib.hid (blk_call HA.out hb8)
          replace HQ := Lib.hid (blk_call HQ.out hb8)
          replace HR := Lib.hid (blk_call HR.out hb8)
          replace HS := Lib.hid (blk_call HS.out hb8)
          replace B := Lib.hid (belT B.out hb8)
          clear hb8
          have y0 := blk_cell HR.out 0 _ rfl
          have y1 := blk_cell HR.out 1 _ rfl
          have y2 := blk_cell HR.out 2 _ rfl
          have z0 := blk_cell HQ.out 0 _ rfl
          have zz0 := blk_fz HQ.out 0
          have z1 := blk_cell HQ.out 1 _ rfl
          have zz1 := blk_fz HQ.out 1
          have z2 := blk_cell HQ.out 2 _ rfl
          have zz2 := blk_fz HQ.out 2
          have nq := NQ.out
          go_wp2_with fail
          clear y0 y1 y2 z0 zz0 z1 zz1 z2 zz2
          go_roundw
          case rel => exact ⟨n + 1, p0, p1, p2, by omega, by go_num, atS_new AT.out cb.out (by have := BD.out; have := hx.out; omega), (blk_other (blk_other (blk_other HA.out (show w3.heap.size ≠ w.heap.size by omega) (.int .i64 p0)) (show w3.heap.size ≠ w.heap.size by omega) (.int .i64 p1)) (show w3.heap.size ≠ w.heap.size by omega) (.int .i64 p2)), (blk_set (blk_set (blk_set HQ.out (.int .i64 p0)) (.int .i64 p1)) (.int .i64 p2)), (belS (p := ⟨w3.heap.size, 2, none⟩) (belS (p := ⟨w3.heap.size, 1, none⟩) (belS (p := ⟨w3.heap.size, 0, none⟩) B.out (show w.heap.size ≤ w3.heap.size by omega) (.int .i64 p0)) (show w.heap.size ≤ w3.heap.size by omega) (.int .i64 p1)) (show w.heap.size ≤ w3.heap.size by omega) (.int .i64 p2))⟩
          case measure => simp [intOf]; omega
    · obtain ⟨cj, L, H, p0, p1, p2, o, ol, oh, AT⟩ := atS_ex j (-1) c0 c1 c2 l0 l1 l2 h0 h1 h2 jc
      have AD := fun b w => (atS_addr AT b w).1
      have AE := fun b w => (atS_addr AT b w).2.1
      have AF := fun b w => (atS_addr AT b w).2.2
      have BD := Lib.hid (atS_bd AT cb lm)
      replace AT := Lib.hid AT
      replace cb := Lib.hid cb
      clear lm
      by_cases hx : cj = L
      · replace hx := Lib.hid hx
        have x0 := blk_cell HA.out 0 _ rfl
        have x1 := blk_cell HA.out 1 _ rfl
        have x2 := blk_cell HA.out 2 _ rfl
        have x3 := blk_cell HA.out 3 _ rfl
        have x4 := blk_cell HA.out 4 _ rfl
        have x5 := blk_cell HA.out 5 _ rfl
        have x6 := blk_cell HA.out 6 _ rfl
        have x7 := blk_cell HA.out 7 _ rfl
        have x8 := blk_cell HA.out 8 _ rfl
        have x9 := blk_cell HA.out 9 _ rfl
        have x10 := blk_cell HA.out 10 _ rfl
        have x11 := blk_cell HA.out 11 _ rfl
        have y0 := blk_cell HQ.out 0 _ rfl
        have y1 := blk_cell HQ.out 1 _ rfl
        have y2 := blk_cell HQ.out 2 _ rfl
        have FB : Hid (fitB l0 l1 l2 h0 h1 h2 p0 p1 p2 = false) := Lib.hid (by rw [atS_fit AT.out cb.out (by omega)]; exact decide_eq_false (by have := BD.out; have := hx.out; omega))
        have hxb : (cj == L) = true := by have := hx.out; simpa using this
        go_upto_region 10 with fail
        go_wp2_with fail
        refine (atS_no AT.out cb.out LM.out (by omega) FB _).mono ?_
        rintro e w1 ⟨rfl, hb1⟩
        clear x0 x1 x2 x3 x4 x5 x6 x7 x8 x9 x10 x11 y0 y1 y2 cu
        replace HA := Lib.hid (blk_call HA.out hb1)
        replace HQ := Lib.hid (blk_call HQ.out hb1)
        replace B := Lib.hid (belT B.out hb1)
        clear hb1
        go_upto_region 11 with fail
        replace HA := Lib.hid (blk_alloc HA.out (.cells #[.int .i64 0, .int .i64 0, .int .i64 0] 25))
        replace HQ := Lib.hid (blk_alloc HQ.out (.cells #[.int .i64 0, .int .i64 0, .int .i64 0] 25))
        have HR := Lib.hid (blk_new w1 (.cells #[.int .i64 0, .int .i64 0, .int .i64 0] 25) (w1.heap.size) rfl)
        replace B := Lib.hid (belA B.out (.cells #[.int .i64 0, .int .i64 0, .int .i64 0] 25))
        generalize (w1.alloc (.cells #[.int .i64 0, .int .i64 0, .int .i64 0] 25)) = V1 at *
        obtain ⟨sp, hsp⟩ : ∃ sp : ToldS, sp = [none, none, none, none, none, none, none, none, none, none, none, none, none, none, some (eqS (.bool true)), none, none, none, none, none, none, none, none, none, none, none, none, none, none, none, none, none, none, none, none, none, none, none, none, none, none, none, none, none, none, none, none, none, none, none, none, none, none, none, none, none, none, none, none, some (eqS (.int .i64 (-1))), some (eqS (.bool false)), some (eqS (.bool false)), some (eqS (undef)), some (eqS (undef)), some (eqS (undef)), some (eqS (undef)), some (eqS (undef)), some (eqS (undef)), some (eqS (undef)), some (eqS (undef)), some (eqS (.bool false)), some (eqS (.bool false)), some (eqS (.int .i64 (-1))), some (eqS (.bool true)), some (eqS (.bool true)), some (eqS (.int .i64 j)), some (eqS (.pointer (some ⟨w3.heap.size, o, none⟩))), some (eqS (.int .i64 cj)), some (eqS (.int .i64 j)), some (eqS (.pointer (some ⟨w.heap.size, 6, none⟩))), some (eqS (.pointer (some ⟨w.heap.size, ol, none⟩))), some (eqS (.int .i64 L)), some (eqS (.bool true)), some (eqS (.bool true)), some (eqS (.bool true))] := ⟨_, rfl⟩
        have s14 : sp.getD 14 none = some (eqS (.bool true)) := by rw [hsp]; rfl
        have s59 : sp.getD 59 none = some (eqS (.int .i64 (-1))) := by rw [hsp]; rfl
        have s60 : sp.getD 60 none = some (eqS (.bool false)) := by rw [hsp]; rfl
        have s61 : sp.getD 61 none = some (eqS (.bool false)) := by rw [hsp]; rfl
        have s62 : sp.getD 62 none = some (eqS (undef)) := by rw [hsp]; rfl
        have s63 : sp.getD 63 none = some (eqS (undef)) := by rw [hsp]; rfl
        have s64 : sp.getD 64 none = some (eqS (undef)) := by rw [hsp]; rfl
        have s65 : sp.getD 65 none = some (eqS (undef)) := by rw [hsp]; rfl
        have s66 : sp.getD 66 none = some (eqS (undef)) := by rw [hsp]; rfl
        have s67 : sp.getD 67 none = some (eqS (undef)) := by rw [hsp]; rfl
        have s68 : sp.getD 68 none = some (eqS (undef)) := by rw [hsp]; rfl
        have s69 : sp.getD 69 none = some (eqS (undef)) := by rw [hsp]; rfl
        have s70 : sp.getD 70 none = some (eqS (.bool false)) := by rw [hsp]; rfl
        have s71 : sp.getD 71 none = some (eqS (.bool false)) := by rw [hsp]; rfl
        have s72 : sp.getD 72 none = some (eqS (.int .i64 (-1))) := by rw [hsp]; rfl
        have s73 : sp.getD 73 none = some (eqS (.bool true)) := by rw [hsp]; rfl
        have s74 : sp.getD 74 none = some (eqS (.bool true)) := by rw [hsp]; rfl
        have s75 : sp.getD 75 none = some (eqS (.int .i64 j)) := by rw [hsp]; rfl
        have s76 : sp.getD 76 none = some (eqS (.pointer (some ⟨w3.heap.size, o, none⟩))) := by rw [hsp]; rfl
        have s77 : sp.getD 77 none = some (eqS (.int .i64 cj)) := by rw [hsp]; rfl
        have s78 : sp.getD 78 none = some (eqS (.int .i64 j)) := by rw [hsp]; rfl
        have s79 : sp.getD 79 none = some (eqS (.pointer (some ⟨w.heap.size, 6, none⟩))) := by rw [hsp]; rfl
        have s80 : sp.getD 80 none = some (eqS (.pointer (some ⟨w.heap.size, ol, none⟩))) := by rw [hsp]; rfl
        have s81 : sp.getD 81 none = some (eqS (.int .i64 L)) := by rw [hsp]; rfl
        have s82 : sp.getD 82 none = some (eqS (.bool true)) := by rw [hsp]; rfl
        have s83 : sp.getD 83 none = some (eqS (.bool true)) := by rw [hsp]; rfl
        have s84 : sp.getD 84 none = some (eqS (.bool true)) := by rw [hsp]; rfl
        clear hsp
        refine (wpIn_wide (n := 0)).1 (region_allR (RtS sp) (rtS_keep sp) rfl rfl rfl (by kernel_rfl) (by kernel_rfl) (by kernel_rfl) ?_ ?_)
        · intro Q'
          refine obsR_cons ?_ ?_
          · intro T wx K hB hF hD hK
            have g11 : T[11]? = some (.int .i64 (-1)) := hF 11 (freeM_of (by kernel_rfl))
            refine ob_yes (wanted_none rfl) ?_
            clear hF hD
            go_simp
            exact hK _ _ (Below.refl _ _) (rt_eqS s59)
          refine obsR_cons ?_ ?_
          · intro T wx K hB hF hD hK
            have g59 := get_eqS (hD 0 59 (by simp [Region.binds]) (by kernel_rfl)) s59
            refine ob_yes (wanted_none rfl) ?_
            clear hF hD
            go_simp
            exact hK _ _ (Below.refl _ _) (rt_eqS s60)
          refine obsR_cons ?_ ?_
          · intro T wx K hB hF hD hK
            have g60 := get_eqS (hD 1 60 (by simp [Region.binds]) (by kernel_rfl)) s60
            refine ob_yes (wanted_none rfl) ?_
            clear hF hD
            go_simp
            exact hK _ _ (Below.refl _ _) (rt_eqS s61)
          refine obsR_cons ?_ ?_
          · intro T wx K hB hF hD hK
            have g61 := get_eqS (hD 2 61 (by simp [Region.binds]) (by kernel_rfl)) s61
            refine ob_no (wanted_no rfl (by kernel_rfl) g61 rfl) ?_
            exact hK _ _ (Below.refl _ _) (rt_eqS s62)
          refine obsR_cons ?_ ?_
          · intro T wx K hB hF hD hK
            have g61 := get_eqS (hD 2 61 (by simp [Region.binds]) (by kernel_rfl)) s61
            refine ob_no (wanted_no rfl (by kernel_rfl) g61 rfl) ?_
            exact hK _ _ (Below.refl _ _) (rt_eqS s63)
          refine obsR_cons ?_ ?_
          · intro T wx K hB hF hD hK
            have g61 := get_eqS (hD 2 61 (by simp [Region.binds]) (by kernel_rfl)) s61
            refine ob_no (wanted_no rfl (by kernel_rfl) g61 rfl) ?_
            exact hK _ _ (Below.refl _ _) (rt_eqS s64)
          refine obsR_cons ?_ ?_
          · intro T wx K hB hF hD hK
            have g61 := get_eqS (hD 2 61 (by simp [Region.binds]) (by kernel_rfl)) s61
            refine ob_no (wanted_no rfl (by kernel_rfl) g61 rfl) ?_
            exact hK _ _ (Below.refl _ _) (rt_eqS s65)
          refine obsR_cons ?_ ?_
          · intro T wx K hB hF hD hK
            have g61 := get_eqS (hD 2 61 (by simp [Region.binds]) (by kernel_rfl)) s61
            refine ob_no (wanted_no rfl (by kernel_rfl) g61 rfl) ?_
            exact hK _ _ (Below.refl _ _) (rt_eqS s66)
          refine obsR_cons ?_ ?_
          · intro T wx K hB hF hD hK
            have g61 := get_eqS (hD 2 61 (by simp [Region.binds]) (by kernel_rfl)) s61
            refine ob_no (wanted_no rfl (by kernel_rfl) g61 rfl) ?_
            exact hK _ _ (Below.refl _ _) (rt_eqS s67)
          refine obsR_cons ?_ ?_
          · intro T wx K hB hF hD hK
            have g61 := get_eqS (hD 2 61 (by simp [Region.binds]) (by kernel_rfl)) s61
            refine ob_no (wanted_no rfl (by kernel_rfl) g61 rfl) ?_
            exact hK _ _ (Below.refl _ _) (rt_eqS s68)
          refine obsR_cons ?_ ?_
          · intro T wx K hB hF hD hK
            have g61 := get_eqS (hD 2 61 (by simp [Region.binds]) (by kernel_rfl)) s61
            refine ob_no (wanted_no rfl (by kernel_rfl) g61 rfl) ?_
            exact hK _ _ (Below.refl _ _) (rt_eqS s69)
          refine obsR_cons ?_ ?_
          · intro T wx K hB hF hD hK
            have g61 := get_eqS (hD 2 61 (by simp [Region.binds]) (by kernel_rfl)) s61
            have g69 := get_eqS (hD 10 69 (by simp [Region.binds]) (by kernel_rfl)) s69
            refine ob_yes (wanted_none rfl) ?_
            clear hF hD
            go_simp
            exact hK _ _ (Below.refl _ _) (rt_eqS s70)
          refine obsR_cons ?_ ?_
          · intro T wx K hB hF hD hK
            have g70 := get_eqS (hD 11 70 (by simp [Region.binds]) (by kernel_rfl)) s70
            refine ob_yes (wanted_none rfl) ?_
            clear hF hD
            go_simp
            exact hK _ _ (Below.refl _ _) (rt_eqS s71)
          refine obsR_cons ?_ ?_
          · intro T wx K hB hF hD hK
            have g71 := get_eqS (hD 12 71 (by simp [Region.binds]) (by kernel_rfl)) s71
            have g11 : T[11]? = some (.int .i64 (-1)) := hF 11 (freeM_of (by kernel_rfl))
            refine ob_yes (wanted_yes rfl (by kernel_rfl) g71) ?_
            clear hF hD
            go_simp
            exact hK _ _ (Below.refl _ _) (rt_eqS s72)
          refine obsR_cons ?_ ?_
          · intro T wx K hB hF hD hK
            have g71 := get_eqS (hD 12 71 (by simp [Region.binds]) (by kernel_rfl)) s71
            have g72 := get_eqS (hD 13 72 (by simp [Region.binds]) (by kernel_rfl)) s72
            refine ob_yes (wanted_yes rfl (by kernel_rfl) g71) ?_
            clear hF hD
            go_simp
            exact hK _ _ (Below.refl _ _) (rt_eqS s73)
          refine obsR_cons ?_ ?_
          · intro T wx K hB hF hD hK
            have g71 := get_eqS (hD 12 71 (by simp [Region.binds]) (by kernel_rfl)) s71
            have g73 := get_eqS (hD 14 73 (by simp [Region.binds]) (by kernel_rfl)) s73
            refine ob_yes (wanted_yes rfl (by kernel_rfl) g71) ?_
            clear hF hD
            go_simp
            exact hK _ _ (Below.refl _ _) (rt_eqS s74)
          refine obsR_cons ?_ ?_
          · intro T wx K hB hF hD hK
            have g74 := get_eqS (hD 15 74 (by simp [Region.binds]) (by kernel_rfl)) s74
            have g10 : T[10]? = some (.int .i64 j) := hF 10 (freeM_of (by kernel_rfl))
            refine ob_yes (wanted_yes rfl (by kernel_rfl) g74) ?_
            clear hF hD
            go_simp
            exact hK _ _ (Below.refl _ _) (rt_eqS s75)
          refine obsR_cons ?_ ?_
          · intro T wx K hB hF hD hK
            have g74 := get_eqS (hD 15 74 (by simp [Region.binds]) (by kernel_rfl)) s74
            have g8 : T[8]? = some (.pointer (some ⟨w3.heap.size, 0, none⟩)) := hF 8 (freeM_of (by kernel_rfl))
            have g75 := get_eqS (hD 16 75 (by simp [Region.binds]) (by kernel_rfl)) s75
            refine ob_yes (wanted_yes rfl (by kernel_rfl) g74) ?_
            clear hF hD
            go_simp
            exact hK _ _ (Below.refl _ _) (rt_eqS s76)
          refine obsR_cons ?_ ?_
          · intro T wx K hB hF hD hK
            have g74 := get_eqS (hD 15 74 (by simp [Region.binds]) (by kernel_rfl)) s74
            have g76 := get_eqS (hD 17 76 (by simp [Region.binds]) (by kernel_rfl)) s76
            refine ob_yes (wanted_yes rfl (by kernel_rfl) g74) ?_
            clear hF hD
            have c0' := atS_q AT.out (blk_call HQ.out hB)
            go_simp
            exact hK _ _ (Below.refl _ _) (rt_eqS s77)
          refine obsR_cons ?_ ?_
          · intro T wx K hB hF hD hK
            have g74 := get_eqS (hD 15 74 (by simp [Region.binds]) (by kernel_rfl)) s74
            have g10 : T[10]? = some (.int .i64 j) := hF 10 (freeM_of (by kernel_rfl))
            refine ob_yes (wanted_yes rfl (by kernel_rfl) g74) ?_
            clear hF hD
            go_simp
            exact hK _ _ (Below.refl _ _) (rt_eqS s78)
          refine obsR_cons ?_ ?_
          · intro T wx K hB hF hD hK
            have g74 := get_eqS (hD 15 74 (by simp [Region.binds]) (by kernel_rfl)) s74
            have g3 : T[3]? = some (.pointer (some ⟨w.heap.size, 0, none⟩)) := hF 3 (freeM_of (by kernel_rfl))
            refine ob_yes (wanted_yes rfl (by kernel_rfl) g74) ?_
            clear hF hD
            go_simp
            exact hK _ _ (Below.refl _ _) (rt_eqS s79)
          refine obsR_cons ?_ ?_
          · intro T wx K hB hF hD hK
            have g74 := get_eqS (hD 15 74 (by simp [Region.binds]) (by kernel_rfl)) s74
            have g79 := get_eqS (hD 20 79 (by simp [Region.binds]) (by kernel_rfl)) s79
            have g78 := get_eqS (hD 19 78 (by simp [Region.binds]) (by kernel_rfl)) s78
            refine ob_yes (wanted_yes rfl (by kernel_rfl) g74) ?_
            clear hF hD
            go_simp
            exact hK _ _ (Below.refl _ _) (rt_eqS s80)
          refine obsR_cons ?_ ?_
          · intro T wx K hB hF hD hK
            have g74 := get_eqS (hD 15 74 (by simp [Region.binds]) (by kernel_rfl)) s74
            have g80 := get_eqS (hD 21 80 (by simp [Region.binds]) (by kernel_rfl)) s80
            refine ob_yes (wanted_yes rfl (by kernel_rfl) g74) ?_
            clear hF hD
            have c0' := (atS_lim AT.out (blk_call HA.out hB)).1
            go_simp
            exact hK _ _ (Below.refl _ _) (rt_eqS s81)
          refine obsR_cons ?_ ?_
          · intro T wx K hB hF hD hK
            have g74 := get_eqS (hD 15 74 (by simp [Region.binds]) (by kernel_rfl)) s74
            have g77 := get_eqS (hD 18 77 (by simp [Region.binds]) (by kernel_rfl)) s77
            have g81 := get_eqS (hD 22 81 (by simp [Region.binds]) (by kernel_rfl)) s81
            refine ob_yes (wanted_yes rfl (by kernel_rfl) g74) ?_
            clear hF hD
            go_simp
            exact hK _ _ (Below.refl _ _) (rt_eqS s82)
          refine obsR_cons ?_ ?_
          · intro T wx K hB hF hD hK
            have g71 := get_eqS (hD 12 71 (by simp [Region.binds]) (by kernel_rfl)) s71
            have g74 := get_eqS (hD 15 74 (by simp [Region.binds]) (by kernel_rfl)) s74
            have g82 := get_eqS (hD 23 82 (by simp [Region.binds]) (by kernel_rfl)) s82
            refine ob_yes (wanted_yes rfl (by kernel_rfl) g71) ?_
            clear hF hD
            go_simp
            exact hK _ _ (Below.refl _ _) (rt_eqS s83)
          refine obsR_cons ?_ ?_
          · intro T wx K hB hF hD hK
            have g71 := get_eqS (hD 12 71 (by simp [Region.binds]) (by kernel_rfl)) s71
            have g83 := get_eqS (hD 24 83 (by simp [Region.binds]) (by kernel_rfl)) s83
            refine ob_yes (wanted_none rfl) ?_
            clear hF hD
            go_simp
            exact hK _ _ (Below.refl _ _) (rt_eqS s84)
          refine obsR_cons ?_ ?_
          · intro T wx K hB hF hD hK
            have g84 := get_eqS (hD 25 84 (by simp [Region.binds]) (by kernel_rfl)) s84
            refine ob_yes (wanted_none rfl) ?_
            clear hF hD
            go_simp
            exact hK _ _ (Below.refl _ _) (rt_eqS s14)
          exact obsR_nil
        · intro S1 V2 hb8 hF hs hD
          have g59 := get_eqS (hD 0 59 (by decide) (by kernel_rfl)) s59
          have g60 := get_eqS (hD 1 60 (by decide) (by kernel_rfl)) s60
          have g61 := get_eqS (hD 2 61 (by decide) (by kernel_rfl)) s61
          have g62 := get_eqS (hD 3 62 (by decide) (by kernel_rfl)) s62
          have g63 := get_eqS (hD 4 63 (by decide) (by kernel_rfl)) s63
          have g64 := get_eqS (hD 5 64 (by decide) (by kernel_rfl)) s64
          have g65 := get_eqS (hD 6 65 (by decide) (by kernel_rfl)) s65
          have g66 := get_eqS (hD 7 66 (by decide) (by kernel_rfl)) s66
          have g67 := get_eqS (hD 8 67 (by decide) (by kernel_rfl)) s67
          have g68 := get_eqS (hD 9 68 (by decide) (by kernel_rfl)) s68
          have g69 := get_eqS (hD 10 69 (by decide) (by kernel_rfl)) s69
          have g70 := get_eqS (hD 11 70 (by decide) (by kernel_rfl)) s70
          have g71 := get_eqS (hD 12 71 (by decide) (by kernel_rfl)) s71
          have g72 := get_eqS (hD 13 72 (by decide) (by kernel_rfl)) s72
          have g73 := get_eqS (hD 14 73 (by decide) (by kernel_rfl)) s73
          have g74 := get_eqS (hD 15 74 (by decide) (by kernel_rfl)) s74
          have g75 := get_eqS (hD 16 75 (by decide) (by kernel_rfl)) s75
          have g76 := get_eqS (hD 17 76 (by decide) (by kernel_rfl)) s76
          have g77 := get_eqS (hD 18 77 (by decide) (by kernel_rfl)) s77
          have g78 := get_eqS (hD 19 78 (by decide) (by kernel_rfl)) s78
          have g79 := get_eqS (hD 20 79 (by decide) (by kernel_rfl)) s79
          have g80 := get_eqS (hD 21 80 (by decide) (by kernel_rfl)) s80
          have g81 := get_eqS (hD 22 81 (by decide) (by kernel_rfl)) s81
          have g82 := get_eqS (hD 23 82 (by decide) (by kernel_rfl)) s82
          have g83 := get_eqS (hD 24 83 (by decide) (by kernel_rfl)) s83
          have g84 := get_eqS (hD 25 84 (by decide) (by kernel_rfl)) s84
          have g14 := get_eqS (hD 26 14 (by decide) (by kernel_rfl)) s14
          have hT := conc [(59, .int .i64 (-1)), (60, .bool false), (61, .bool false), (62, undef), (63, undef), (64, undef), (65, undef), (66, undef), (67, undef), (68, undef), (69, undef), (70, .bool false), (71, .bool false), (72, .int .i64 (-1)), (73, .bool true), (74, .bool true), (75, .int .i64 j), (76, .pointer (some ⟨w3.heap.size, o, none⟩)), (77, .int .i64 cj), (78, .int .i64 j), (79, .pointer (some ⟨w.heap.size, 6, none⟩)), (80, .pointer (some ⟨w.heap.size, ol, none⟩)), (81, .int .i64 L), (82, .bool true), (83, .bool true), (84, .bool true), (14, .bool true)] hs hF (by simp only [List.forall_mem_cons]; exact ⟨g59, g60, g61, g62, g63, g64, g65, g66, g67, g68, g69, g70, g71, g72, g73, g74, g75, g76, g77, g78, g79, g80, g81, g82, g83, g84, g14, fun p hp => absurd hp List.not_mem_nil⟩) (by kernel_rfl)
          simp only [List.foldl, List.setIfInBounds_toArray, List.set_cons_succ, List.set_cons_zero] at hT
          subst hT
          clear hF hD hs g59 g60 g61 g62 g63 g64 g65 g66 g67 g68 g69 g70 g71 g72 g73 g74 g75 g76 g77 g78 g79 g80 g81 g82 g83 g84 g14 s14 s59 s60 s61 s62 s63 s64 s65 s66 s67 s68 s69 s70 s71 s72 s73 s74 s75 s76 s77 s78 s79 s80 s81 s82 s83 s84
          replace HA := Lib.hid (blk_call HA.out hb8)
          replace HQ := Lib.hid (blk_call HQ.out hb8)
          replace HR := Lib.hid (blk_call HR.out hb8)
          replace B := Lib.hid (belT B.out hb8)
          clear hb8
          go_wp2_with fail
          go_roundw
          case rel => exact ⟨n + 1, _, _, _, by omega, by go_num, cb.out, HA.out, HQ.out, B.out⟩
          case measure => simp [intOf]; omega
      replace hx := Lib.hid hx
      have x0 := blk_cell HA.out 0 _ rfl
      have x1 := blk_cell HA.out 1 _ rfl
      have x2 := blk_cell HA.out 2 _ rfl
      have x3 := blk_cell HA.out 3 _ rfl
      have x4 := blk_cell HA.out 4 _ rfl
      have x5 := blk_cell HA.out 5 _ rfl
      have x6 := blk_cell HA.out 6 _ rfl
      have x7 := blk_cell HA.out 7 _ rfl
      have x8 := blk_cell HA.out 8 _ rfl
      have x9 := blk_cell HA.out 9 _ rfl
      have x10 := blk_cell HA.out 10 _ rfl
      have x11 := blk_cell HA.out 11 _ rfl
      have y0 := blk_cell HQ.out 0 _ rfl
      have y1 := blk_cell HQ.out 1 _ rfl
      have y2 := blk_cell HQ.out 2 _ rfl
      have FB : Hid (fitB l0 l1 l2 h0 h1 h2 p0 p1 p2 = true) := Lib.hid (by rw [atS_fit AT.out cb.out (by omega)]; exact decide_eq_true (by have := BD.out; have := hx.out; omega))
      have hxb : (cj == L) = false := by have := hx.out; simpa using this
      go_upto_region 10 with fail
      go_wp2_with fail
      refine (atS_yes AT.out cb.out LM.out (by omega) FB _).mono ?_
      rintro e w1 ⟨rfl, hb1⟩
      clear x0 x1 x2 x3 x4 x5 x6 x7 x8 x9 x10 x11 y0 y1 y2 cu
      replace HA := Lib.hid (blk_call HA.out hb1)
      replace HQ := Lib.hid (blk_call HQ.out hb1)
      replace B := Lib.hid (belT B.out hb1)
      clear hb1
      go_upto_region 11 with fail
      replace HA := Lib.hid (blk_alloc HA.out (.cells #[.int .i64 p0, .int .i64 p1, .int .i64 p2] 25))
      replace HQ := Lib.hid (blk_alloc HQ.out (.cells #[.int .i64 p0, .int .i64 p1, .int .i64 p2] 25))
      have HR := Lib.hid (blk_new w1 (.cells #[.int .i64 p0, .int .i64 p1, .int .i64 p2] 25) (w1.heap.size) rfl)
      replace B := Lib.hid (belA B.out (.cells #[.int .i64 p0, .int .i64 p1, .int .i64 p2] 25))
      generalize (w1.alloc (.cells #[.int .i64 p0, .int .i64 p1, .int .i64 p2] 25)) = V1 at *
      obtain ⟨sp, hsp⟩ : ∃ sp : ToldS, sp = [none, none, none, none, none, none, none, none, none, none, none, none, none, none, some (eqS (.bool false)), none, none, none, none, none, none, none, none, none, none, none, none, none, none, none, none, none, none, none, none, none, none, none, none, none, none, none, none, none, none, none, none, none, none, none, none, none, none, none, none, none, none, none, none, some (eqS (.int .i64 (-1))), some (eqS (.bool false)), some (eqS (.bool false)), some (eqS (undef)), some (eqS (undef)), some (eqS (undef)), some (eqS (undef)), some (eqS (undef)), some (eqS (undef)), some (eqS (undef)), some (eqS (undef)), some (eqS (.bool false)), some (eqS (.bool false)), some (eqS (.int .i64 (-1))), some (eqS (.bool true)), some (eqS (.bool true)), some (eqS (.int .i64 j)), some (eqS (.pointer (some ⟨w3.heap.size, o, none⟩))), some (eqS (.int .i64 cj)), some (eqS (.int .i64 j)), some (eqS (.pointer (some ⟨w.heap.size, 6, none⟩))), some (eqS (.pointer (some ⟨w.heap.size, ol, none⟩))), some (eqS (.int .i64 L)), some (eqS (.bool false)), some (eqS (.bool false)), some (eqS (.bool false))] := ⟨_, rfl⟩
      have s14 : sp.getD 14 none = some (eqS (.bool false)) := by rw [hsp]; rfl
      have s59 : sp.getD 59 none = some (eqS (.int .i64 (-1))) := by rw [hsp]; rfl
      have s60 : sp.getD 60 none = some (eqS (.bool false)) := by rw [hsp]; rfl
      have s61 : sp.getD 61 none = some (eqS (.bool false)) := by rw [hsp]; rfl
      have s62 : sp.getD 62 none = some (eqS (undef)) := by rw [hsp]; rfl
      have s63 : sp.getD 63 none = some (eqS (undef)) := by rw [hsp]; rfl
      have s64 : sp.getD 64 none = some (eqS (undef)) := by rw [hsp]; rfl
      have s65 : sp.getD 65 none = some (eqS (undef)) := by rw [hsp]; rfl
      have s66 : sp.getD 66 none = some (eqS (undef)) := by rw [hsp]; rfl
      have s67 : sp.getD 67 none = some (eqS (undef)) := by rw [hsp]; rfl
      have s68 : sp.getD 68 none = some (eqS (undef)) := by rw [hsp]; rfl
      have s69 : sp.getD 69 none = some (eqS (undef)) := by rw [hsp]; rfl
      have s70 : sp.getD 70 none = some (eqS (.bool false)) := by rw [hsp]; rfl
      have s71 : sp.getD 71 none = some (eqS (.bool false)) := by rw [hsp]; rfl
      have s72 : sp.getD 72 none = some (eqS (.int .i64 (-1))) := by rw [hsp]; rfl
      have s73 : sp.getD 73 none = some (eqS (.bool true)) := by rw [hsp]; rfl
      have s74 : sp.getD 74 none = some (eqS (.bool true)) := by rw [hsp]; rfl
      have s75 : sp.getD 75 none = some (eqS (.int .i64 j)) := by rw [hsp]; rfl
      have s76 : sp.getD 76 none = some (eqS (.pointer (some ⟨w3.heap.size, o, none⟩))) := by rw [hsp]; rfl
      have s77 : sp.getD 77 none = some (eqS (.int .i64 cj)) := by rw [hsp]; rfl
      have s78 : sp.getD 78 none = some (eqS (.int .i64 j)) := by rw [hsp]; rfl
      have s79 : sp.getD 79 none = some (eqS (.pointer (some ⟨w.heap.size, 6, none⟩))) := by rw [hsp]; rfl
      have s80 : sp.getD 80 none = some (eqS (.pointer (some ⟨w.heap.size, ol, none⟩))) := by rw [hsp]; rfl
      have s81 : sp.getD 81 none = some (eqS (.int .i64 L)) := by rw [hsp]; rfl
      have s82 : sp.getD 82 none = some (eqS (.bool false)) := by rw [hsp]; rfl
      have s83 : sp.getD 83 none = some (eqS (.bool false)) := by rw [hsp]; rfl
      have s84 : sp.getD 84 none = some (eqS (.bool false)) := by rw [hsp]; rfl
      clear hsp
      refine (wpIn_wide (n := 0)).1 (region_allR (RtS sp) (rtS_keep sp) rfl rfl rfl (by kernel_rfl) (by kernel_rfl) (by kernel_rfl) ?_ ?_)
      · intro Q'
        refine obsR_cons ?_ ?_
        · intro T wx K hB hF hD hK
          have g11 : T[11]? = some (.int .i64 (-1)) := hF 11 (freeM_of (by kernel_rfl))
          refine ob_yes (wanted_none rfl) ?_
          clear hF hD
          go_simp
          exact hK _ _ (Below.refl _ _) (rt_eqS s59)
        refine obsR_cons ?_ ?_
        · intro T wx K hB hF hD hK
          have g59 := get_eqS (hD 0 59 (by simp [Region.binds]) (by kernel_rfl)) s59
          refine ob_yes (wanted_none rfl) ?_
          clear hF hD
          go_simp
          exact hK _ _ (Below.refl _ _) (rt_eqS s60)
        refine obsR_cons ?_ ?_
        · intro T wx K hB hF hD hK
          have g60 := get_eqS (hD 1 60 (by simp [Region.binds]) (by kernel_rfl)) s60
          refine ob_yes (wanted_none rfl) ?_
          clear hF hD
          go_simp
          exact hK _ _ (Below.refl _ _) (rt_eqS s61)
        refine obsR_cons ?_ ?_
        · intro T wx K hB hF hD hK
          have g61 := get_eqS (hD 2 61 (by simp [Region.binds]) (by kernel_rfl)) s61
          refine ob_no (wanted_no rfl (by kernel_rfl) g61 rfl) ?_
          exact hK _ _ (Below.refl _ _) (rt_eqS s62)
        refine obsR_cons ?_ ?_
        · intro T wx K hB hF hD hK
          have g61 := get_eqS (hD 2 61 (by simp [Region.binds]) (by kernel_rfl)) s61
          refine ob_no (wanted_no rfl (by kernel_rfl) g61 rfl) ?_
          exact hK _ _ (Below.refl _ _) (rt_eqS s63)
        refine obsR_cons ?_ ?_
        · intro T wx K hB hF hD hK
          have g61 := get_eqS (hD 2 61 (by simp [Region.binds]) (by kernel_rfl)) s61
          refine ob_no (wanted_no rfl (by kernel_rfl) g61 rfl) ?_
          exact hK _ _ (Below.refl _ _) (rt_eqS s64)
        refine obsR_cons ?_ ?_
        · intro T wx K hB hF hD hK
          have g61 := get_eqS (hD 2 61 (by simp [Region.binds]) (by kernel_rfl)) s61
          refine ob_no (wanted_no rfl (by kernel_rfl) g61 rfl) ?_
          exact hK _ _ (Below.refl _ _) (rt_eqS s65)
        refine obsR_cons ?_ ?_
        · intro T wx K hB hF hD hK
          have g61 := get_eqS (hD 2 61 (by simp [Region.binds]) (by kernel_rfl)) s61
          refine ob_no (wanted_no rfl (by kernel_rfl) g61 rfl) ?_
          exact hK _ _ (Below.refl _ _) (rt_eqS s66)
        refine obsR_cons ?_ ?_
        · intro T wx K hB hF hD hK
          have g61 := get_eqS (hD 2 61 (by simp [Region.binds]) (by kernel_rfl)) s61
          refine ob_no (wanted_no rfl (by kernel_rfl) g61 rfl) ?_
          exact hK _ _ (Below.refl _ _) (rt_eqS s67)
        refine obsR_cons ?_ ?_
        · intro T wx K hB hF hD hK
          have g61 := get_eqS (hD 2 61 (by simp [Region.binds]) (by kernel_rfl)) s61
          refine ob_no (wanted_no rfl (by kernel_rfl) g61 rfl) ?_
          exact hK _ _ (Below.refl _ _) (rt_eqS s68)
        refine obsR_cons ?_ ?_
        · intro T wx K hB hF hD hK
          have g61 := get_eqS (hD 2 61 (by simp [Region.binds]) (by kernel_rfl)) s61
          refine ob_no (wanted_no rfl (by kernel_rfl) g61 rfl) ?_
          exact hK _ _ (Below.refl _ _) (rt_eqS s69)
        refine obsR_cons ?_ ?_
        · intro T wx K hB hF hD hK
          have g61 := get_eqS (hD 2 61 (by simp [Region.binds]) (by kernel_rfl)) s61
          have g69 := get_eqS (hD 10 69 (by simp [Region.binds]) (by kernel_rfl)) s69
          refine ob_yes (wanted_none rfl) ?_
          clear hF hD
          go_simp
          exact hK _ _ (Below.refl _ _) (rt_eqS s70)
        refine obsR_cons ?_ ?_
        · intro T wx K hB hF hD hK
          have g70 := get_eqS (hD 11 70 (by simp [Region.binds]) (by kernel_rfl)) s70
          refine ob_yes (wanted_none rfl) ?_
          clear hF hD
          go_simp
          exact hK _ _ (Below.refl _ _) (rt_eqS s71)
        refine obsR_cons ?_ ?_
        · intro T wx K hB hF hD hK
          have g71 := get_eqS (hD 12 71 (by simp [Region.binds]) (by kernel_rfl)) s71
          have g11 : T[11]? = some (.int .i64 (-1)) := hF 11 (freeM_of (by kernel_rfl))
          refine ob_yes (wanted_yes rfl (by kernel_rfl) g71) ?_
          clear hF hD
          go_simp
          exact hK _ _ (Below.refl _ _) (rt_eqS s72)
        refine obsR_cons ?_ ?_
        · intro T wx K hB hF hD hK
          have g71 := get_eqS (hD 12 71 (by simp [Region.binds]) (by kernel_rfl)) s71
          have g72 := get_eqS (hD 13 72 (by simp [Region.binds]) (by kernel_rfl)) s72
          refine ob_yes (wanted_yes rfl (by kernel_rfl) g71) ?_
          clear hF hD
          go_simp
          exact hK _ _ (Below.refl _ _) (rt_eqS s73)
        refine obsR_cons ?_ ?_
        · intro T wx K hB hF hD hK
          have g71 := get_eqS (hD 12 71 (by simp [Region.binds]) (by kernel_rfl)) s71
          have g73 := get_eqS (hD 14 73 (by simp [Region.binds]) (by kernel_rfl)) s73
          refine ob_yes (wanted_yes rfl (by kernel_rfl) g71) ?_
          clear hF hD
          go_simp
          exact hK _ _ (Below.refl _ _) (rt_eqS s74)
        refine obsR_cons ?_ ?_
        · intro T wx K hB hF hD hK
          have g74 := get_eqS (hD 15 74 (by simp [Region.binds]) (by kernel_rfl)) s74
          have g10 : T[10]? = some (.int .i64 j) := hF 10 (freeM_of (by kernel_rfl))
          refine ob_yes (wanted_yes rfl (by kernel_rfl) g74) ?_
          clear hF hD
          go_simp
          exact hK _ _ (Below.refl _ _) (rt_eqS s75)
        refine obsR_cons ?_ ?_
        · intro T wx K hB hF hD hK
          have g74 := get_eqS (hD 15 74 (by simp [Region.binds]) (by kernel_rfl)) s74
          have g8 : T[8]? = some (.pointer (some ⟨w3.heap.size, 0, none⟩)) := hF 8 (freeM_of (by kernel_rfl))
          have g75 := get_eqS (hD 16 75 (by simp [Region.binds]) (by kernel_rfl)) s75
          refine ob_yes (wanted_yes rfl (by kernel_rfl) g74) ?_
          clear hF hD
          go_simp
          exact hK _ _ (Below.refl _ _) (rt_eqS s76)
        refine obsR_cons ?_ ?_
        · intro T wx K hB hF hD hK
          have g74 := get_eqS (hD 15 74 (by simp [Region.binds]) (by kernel_rfl)) s74
          have g76 := get_eqS (hD 17 76 (by simp [Region.binds]) (by kernel_rfl)) s76
          refine ob_yes (wanted_yes rfl (by kernel_rfl) g74) ?_
          clear hF hD
          have c0' := atS_q AT.out (blk_call HQ.out hB)
          go_simp
          exact hK _ _ (Below.refl _ _) (rt_eqS s77)
        refine obsR_cons ?_ ?_
        · intro T wx K hB hF hD hK
          have g74 := get_eqS (hD 15 74 (by simp [Region.binds]) (by kernel_rfl)) s74
          have g10 : T[10]? = some (.int .i64 j) := hF 10 (freeM_of (by kernel_rfl))
          refine ob_yes (wanted_yes rfl (by kernel_rfl) g74) ?_
          clear hF hD
          go_simp
          exact hK _ _ (Below.refl _ _) (rt_eqS s78)
        refine obsR_cons ?_ ?_
        · intro T wx K hB hF hD hK
          have g74 := get_eqS (hD 15 74 (by simp [Region.binds]) (by kernel_rfl)) s74
          have g3 : T[3]? = some (.pointer (some ⟨w.heap.size, 0, none⟩)) := hF 3 (freeM_of (by kernel_rfl))
          refine ob_yes (wanted_yes rfl (by kernel_rfl) g74) ?_
          clear hF hD
          go_simp
          exact hK _ _ (Below.refl _ _) (rt_eqS s79)
        refine obsR_cons ?_ ?_
        · intro T wx K hB hF hD hK
          have g74 := get_eqS (hD 15 74 (by simp [Region.binds]) (by kernel_rfl)) s74
          have g79 := get_eqS (hD 20 79 (by simp [Region.binds]) (by kernel_rfl)) s79
          have g78 := get_eqS (hD 19 78 (by simp [Region.binds]) (by kernel_rfl)) s78
          refine ob_yes (wanted_yes rfl (by kernel_rfl) g74) ?_
          clear hF hD
          go_simp
          exact hK _ _ (Below.refl _ _) (rt_eqS s80)
        refine obsR_cons ?_ ?_
        · intro T wx K hB hF hD hK
          have g74 := get_eqS (hD 15 74 (by simp [Region.binds]) (by kernel_rfl)) s74
          have g80 := get_eqS (hD 21 80 (by simp [Region.binds]) (by kernel_rfl)) s80
          refine ob_yes (wanted_yes rfl (by kernel_rfl) g74) ?_
          clear hF hD
          have c0' := (atS_lim AT.out (blk_call HA.out hB)).1
          go_simp
          exact hK _ _ (Below.refl _ _) (rt_eqS s81)
        refine obsR_cons ?_ ?_
        · intro T wx K hB hF hD hK
          have g74 := get_eqS (hD 15 74 (by simp [Region.binds]) (by kernel_rfl)) s74
          have g77 := get_eqS (hD 18 77 (by simp [Region.binds]) (by kernel_rfl)) s77
          have g81 := get_eqS (hD 22 81 (by simp [Region.binds]) (by kernel_rfl)) s81
          refine ob_yes (wanted_yes rfl (by kernel_rfl) g74) ?_
          clear hF hD
          go_simp
          exact hK _ _ (Below.refl _ _) (rt_eqS s82)
        refine obsR_cons ?_ ?_
        · intro T wx K hB hF hD hK
          have g71 := get_eqS (hD 12 71 (by simp [Region.binds]) (by kernel_rfl)) s71
          have g74 := get_eqS (hD 15 74 (by simp [Region.binds]) (by kernel_rfl)) s74
          have g82 := get_eqS (hD 23 82 (by simp [Region.binds]) (by kernel_rfl)) s82
          refine ob_yes (wanted_yes rfl (by kernel_rfl) g71) ?_
          clear hF hD
          go_simp
          exact hK _ _ (Below.refl _ _) (rt_eqS s83)
        refine obsR_cons ?_ ?_
        · intro T wx K hB hF hD hK
          have g71 := get_eqS (hD 12 71 (by simp [Region.binds]) (by kernel_rfl)) s71
          have g83 := get_eqS (hD 24 83 (by simp [Region.binds]) (by kernel_rfl)) s83
          refine ob_yes (wanted_none rfl) ?_
          clear hF hD
          go_simp
          exact hK _ _ (Below.refl _ _) (rt_eqS s84)
        refine obsR_cons ?_ ?_
        · intro T wx K hB hF hD hK
          have g84 := get_eqS (hD 25 84 (by simp [Region.binds]) (by kernel_rfl)) s84
          refine ob_yes (wanted_none rfl) ?_
          clear hF hD
          go_simp
          exact hK _ _ (Below.refl _ _) (rt_eqS s14)
        exact obsR_nil
      · intro S1 V2 hb8 hF hs hD
        have g59 := get_eqS (hD 0 59 (by decide) (by kernel_rfl)) s59
        have g60 := get_eqS (hD 1 60 (by decide) (by kernel_rfl)) s60
        have g61 := get_eqS (hD 2 61 (by decide) (by kernel_rfl)) s61
        have g62 := get_eqS (hD 3 62 (by decide) (by kernel_rfl)) s62
        have g63 := get_eqS (hD 4 63 (by decide) (by kernel_rfl)) s63
        have g64 := get_eqS (hD 5 64 (by decide) (by kernel_rfl)) s64
        have g65 := get_eqS (hD 6 65 (by decide) (by kernel_rfl)) s65
        have g66 := get_eqS (hD 7 66 (by decide) (by kernel_rfl)) s66
        have g67 := get_eqS (hD 8 67 (by decide) (by kernel_rfl)) s67
        have g68 := get_eqS (hD 9 68 (by decide) (by kernel_rfl)) s68
        have g69 := get_eqS (hD 10 69 (by decide) (by kernel_rfl)) s69
        have g70 := get_eqS (hD 11 70 (by decide) (by kernel_rfl)) s70
        have g71 := get_eqS (hD 12 71 (by decide) (by kernel_rfl)) s71
        have g72 := get_eqS (hD 13 72 (by decide) (by kernel_rfl)) s72
        have g73 := get_eqS (hD 14 73 (by decide) (by kernel_rfl)) s73
        have g74 := get_eqS (hD 15 74 (by decide) (by kernel_rfl)) s74
        have g75 := get_eqS (hD 16 75 (by decide) (by kernel_rfl)) s75
        have g76 := get_eqS (hD 17 76 (by decide) (by kernel_rfl)) s76
        have g77 := get_eqS (hD 18 77 (by decide) (by kernel_rfl)) s77
        have g78 := get_eqS (hD 19 78 (by decide) (by kernel_rfl)) s78
        have g79 := get_eqS (hD 20 79 (by decide) (by kernel_rfl)) s79
        have g80 := get_eqS (hD 21 80 (by decide) (by kernel_rfl)) s80
        have g81 := get_eqS (hD 22 81 (by decide) (by kernel_rfl)) s81
        have g82 := get_eqS (hD 23 82 (by decide) (by kernel_rfl)) s82
        have g83 := get_eqS (hD 24 83 (by decide) (by kernel_rfl)) s83
        have g84 := get_eqS (hD 25 84 (by decide) (by kernel_rfl)) s84
        have g14 := get_eqS (hD 26 14 (by decide) (by kernel_rfl)) s14
        have hT := conc [(59, .int .i64 (-1)), (60, .bool false), (61, .bool false), (62, undef), (63, undef), (64, undef), (65, undef), (66, undef), (67, undef), (68, undef), (69, undef), (70, .bool false), (71, .bool false), (72, .int .i64 (-1)), (73, .bool true), (74, .bool true), (75, .int .i64 j), (76, .pointer (some ⟨w3.heap.size, o, none⟩)), (77, .int .i64 cj), (78, .int .i64 j), (79, .pointer (some ⟨w.heap.size, 6, none⟩)), (80, .pointer (some ⟨w.heap.size, ol, none⟩)), (81, .int .i64 L), (82, .bool false), (83, .bool false), (84, .bool false), (14, .bool false)] hs hF (by simp only [List.forall_mem_cons]; exact ⟨g59, g60, g61, g62, g63, g64, g65, g66, g67, g68, g69, g70, g71, g72, g73, g74, g75, g76, g77, g78, g79, g80, g81, g82, g83, g84, g14, fun p hp => absurd hp List.not_mem_nil⟩) (by kernel_rfl)
        simp only [List.foldl, List.setIfInBounds_toArray, List.set_cons_succ, List.set_cons_zero] at hT
        subst hT
        clear hF hD hs g59 g60 g61 g62 g63 g64 g65 g66 g67 g68 g69 g70 g71 g72 g73 g74 g75 g76 g77 g78 g79 g80 g81 g82 g83 g84 g14 s14 s59 s60 s61 s62 s63 s64 s65 s66 s67 s68 s69 s70 s71 s72 s73 s74 s75 s76 s77 s78 s79 s80 s81 s82 s83 s84
        replace HA := Lib.hid (blk_call HA.out hb8)
        replace HQ := Lib.hid (blk_call HQ.out hb8)
        replace HR := Lib.hid (blk_call HR.out hb8)
        replace B := Lib.hid (belT B.out hb8)
        clear hb8
        have x0 := blk_cell HA.out 0 _ rfl
        have x1 := blk_cell HA.out 1 _ rfl
        have x2 := blk_cell HA.out 2 _ rfl
        have x3 := blk_cell HA.out 3 _ rfl
        have x4 := blk_cell HA.out 4 _ rfl
        have x5 := blk_cell HA.out 5 _ rfl
        have x6 := blk_cell HA.out 6 _ rfl
        have x7 := blk_cell HA.out 7 _ rfl
        have x8 := blk_cell HA.out 8 _ rfl
        have x9 := blk_cell HA.out 9 _ rfl
        have x10 := blk_cell HA.out 10 _ rfl
        have x11 := blk_cell HA.out 11 _ rfl
        have y0 := blk_cell HR.out 0 _ rfl
        have y1 := blk_cell HR.out 1 _ rfl
        have y2 := blk_cell HR.out 2 _ rfl
        have FC : Hid (fitB l0 l1 l2 h0 h1 h2 c0 c1 c2 = true) := Lib.hid (decide_eq_true cb.out)
        have SB := Lib.hid (fun w => atS_back (X := X) (Y := Y) (n0 := n0) (n1 := n1) (n2 := n2) (W := W) AT.out cb.out LM.out (by omega) FC w)
        go_upto_region 15 with fail
        go_wp2_with fail
        refine (SB.out _).mono ?_
        rintro e w2 ⟨rfl, hb2⟩
        clear x0 x1 x2 x3 x4 x5 x6 x7 x8 x9 x10 x11 y0 y1 y2
        replace HA := Lib.hid (blk_call HA.out hb2)
        replace HQ := Lib.hid (blk_call HQ.out hb2)
        replace HR := Lib.hid (blk_call HR.out hb2)
        replace B := Lib.hid (belT B.out hb2)
        clear hb2
        go_upto_region 16 with fail
        replace HA := Lib.hid (blk_alloc HA.out (.cells #[.int .i64 c0, .int .i64 c1, .int .i64 c2] 25))
        replace HQ := Lib.hid (blk_alloc HQ.out (.cells #[.int .i64 c0, .int .i64 c1, .int .i64 c2] 25))
        replace HR := Lib.hid (blk_alloc HR.out (.cells #[.int .i64 c0, .int .i64 c1, .int .i64 c2] 25))
        have HS := Lib.hid (blk_new w2 (.cells #[.int .i64 c0, .int .i64 c1, .int .i64 c2] 25) (w2.heap.size) rfl)
        replace B := Lib.hid (belA B.out (.cells #[.int .i64 c0, .int .i64 c1, .int .i64 c2] 25))
        generalize (w2.alloc (.cells #[.int .i64 c0, .int .i64 c1, .int .i64 c2] 25)) = V3 at *
        obtain ⟨sp, hsp⟩ : ∃ sp : ToldS, sp = [none, none, none, none, none, none, none, none, none, none, none, none, none, none, none, none, none, none, none, none, none, none, none, none, none, none, none, none, none, none, none, none, none, none, none, none, none, none, none, none, none, none, none, none, none, none, none, none, none, none, none, none, none, none, none, none, none, none, none, none, none, none, none, none, none, none, none, none, none, none, none, none, none, none, none, none, none, none, none, none, none, none, none, none, none, none, none, none, none, none, none, none, none, none, none, none, none, none, none, some (eqS (.bool true)), some (eqS (.bool false)), some (eqS (.bool false)), some (eqS (.agg #[.int .i64 c0, .int .i64 c1, .int .i64 c2])), some (eqS (.agg #[.int .i64 c0, .int .i64 c1, .int .i64 c2])), some (eqS (.bool false)), some (eqS (.bool false)), some (eqS (.bool false)), some (eqS (.agg #[.int .i64 X, .int .i64 Y, .int .i64 n0, .int .i64 n1, .int .i64 n2, .int .i64 W, .int .i64 l0, .int .i64 l1, .int .i64 l2, .int .i64 h0, .int .i64 h1, .int .i64 h2])), some (eqS (.agg #[.int .i64 p0, .int .i64 p1, .int .i64 p2])), some (eqS (.bool true)), some (eqS (.bool false)), some (eqS (.bool false)), some (eqS (.bool false)), some (eqS (.int .i64 j)), some (eqS (.pointer (some ⟨w1.heap.size, o, none⟩))), some (eqS (.int .i64 (cj + -1))), some (eqS (.int .i64 j)), some (eqS (.pointer (some ⟨w3.heap.size, o, none⟩))), some (eqS (.int .i64 cj)), some (eqS (.int .i64 (-1))), some (eqS (.int .i64 (cj + -1))), some (eqS (.bool false)), some (eqS (.bool false))] := ⟨_, rfl⟩
        have s99 : sp.getD 99 none = some (eqS (.bool true)) := by rw [hsp]; rfl
        have s100 : sp.getD 100 none = some (eqS (.bool false)) := by rw [hsp]; rfl
        have s101 : sp.getD 101 none = some (eqS (.bool false)) := by rw [hsp]; rfl
        have s102 : sp.getD 102 none = some (eqS (.agg #[.int .i64 c0, .int .i64 c1, .int .i64 c2])) := by rw [hsp]; rfl
        have s103 : sp.getD 103 none = some (eqS (.agg #[.int .i64 c0, .int .i64 c1, .int .i64 c2])) := by rw [hsp]; rfl
        have s104 : sp.getD 104 none = some (eqS (.bool false)) := by rw [hsp]; rfl
        have s105 : sp.getD 105 none = some (eqS (.bool false)) := by rw [hsp]; rfl
        have s106 : sp.getD 106 none = some (eqS (.bool false)) := by rw [hsp]; rfl
        have s107 : sp.getD 107 none = some (eqS (.agg #[.int .i64 X, .int .i64 Y, .int .i64 n0, .int .i64 n1, .int .i64 n2, .int .i64 W, .int .i64 l0, .int .i64 l1, .int .i64 l2, .int .i64 h0, .int .i64 h1, .int .i64 h2])) := by rw [hsp]; rfl
        have s108 : sp.getD 108 none = some (eqS (.agg #[.int .i64 p0, .int .i64 p1, .int .i64 p2])) := by rw [hsp]; rfl
        have s109 : sp.getD 109 none = some (eqS (.bool true)) := by rw [hsp]; rfl
        have s110 : sp.getD 110 none = some (eqS (.bool false)) := by rw [hsp]; rfl
        have s111 : sp.getD 111 none = some (eqS (.bool false)) := by rw [hsp]; rfl
        have s112 : sp.getD 112 none = some (eqS (.bool false)) := by rw [hsp]; rfl
        have s113 : sp.getD 113 none = some (eqS (.int .i64 j)) := by rw [hsp]; rfl
        have s114 : sp.getD 114 none = some (eqS (.pointer (some ⟨w1.heap.size, o, none⟩))) := by rw [hsp]; rfl
        have s115 : sp.getD 115 none = some (eqS (.int .i64 (cj + -1))) := by rw [hsp]; rfl
        have s116 : sp.getD 116 none = some (eqS (.int .i64 j)) := by rw [hsp]; rfl
        have s117 : sp.getD 117 none = some (eqS (.pointer (some ⟨w3.heap.size, o, none⟩))) := by rw [hsp]; rfl
        have s118 : sp.getD 118 none = some (eqS (.int .i64 cj)) := by rw [hsp]; rfl
        have s119 : sp.getD 119 none = some (eqS (.int .i64 (-1))) := by rw [hsp]; rfl
        have s120 : sp.getD 120 none = some (eqS (.int .i64 (cj + -1))) := by rw [hsp]; rfl
        have s121 : sp.getD 121 none = some (eqS (.bool false)) := by rw [hsp]; rfl
        have s122 : sp.getD 122 none = some (eqS (.bool false)) := by rw [hsp]; rfl
        clear hsp
        refine (wpIn_wide (n := 0)).1 (region_allR (RtS sp) (rtS_keep sp) rfl rfl rfl (by kernel_rfl) (by kernel_rfl) (by kernel_rfl) ?_ ?_)
        · intro Q'
          refine obsR_cons ?_ ?_
          · intro T wx K hB hF hD hK
            have g16 : T[16]? = some (.bool true) := hF 16 (freeM_of (by kernel_rfl))
            refine ob_yes (wanted_none rfl) ?_
            clear hF hD
            go_simp
            exact hK _ _ (Below.refl _ _) (rt_eqS s99)
          refine obsR_cons ?_ ?_
          · intro T wx K hB hF hD hK
            have g99 := get_eqS (hD 0 99 (by simp [Region.binds]) (by kernel_rfl)) s99
            refine ob_yes (wanted_none rfl) ?_
            clear hF hD
            go_simp
            exact hK _ _ (Below.refl _ _) (rt_eqS s100)
          refine obsR_cons ?_ ?_
          · intro T wx K hB hF hD hK
            have g100 := get_eqS (hD 1 100 (by simp [Region.binds]) (by kernel_rfl)) s100
            refine ob_yes (wanted_none rfl) ?_
            clear hF hD
            go_simp
            exact hK _ _ (Below.refl _ _) (rt_eqS s101)
          refine obsR_cons ?_ ?_
          · intro T wx K hB hF hD hK
            have g101 := get_eqS (hD 2 101 (by simp [Region.binds]) (by kernel_rfl)) s101
            have g15 : T[15]? = some (.pointer (some ⟨w2.heap.size, 0, none⟩)) := hF 15 (freeM_of (by kernel_rfl))
            refine ob_yes (wanted_yes rfl (by kernel_rfl) g101) ?_
            clear hF hD
            exact wp_load_row 25 (.tmp 15) rfl (w2.heap.size) (eval_tmp g15) _ _ _ _ (blk_call HS.out hB) Tryd.underlying25 rfl (by kernel_rfl) (hK _ _ (Below.refl _ _) (rt_eqS s102))
          refine obsR_cons ?_ ?_
          · intro T wx K hB hF hD hK
            have g101 := get_eqS (hD 2 101 (by simp [Region.binds]) (by kernel_rfl)) s101
            have g8 : T[8]? = some (.pointer (some ⟨w3.heap.size, 0, none⟩)) := hF 8 (freeM_of (by kernel_rfl))
            refine ob_yes (wanted_yes rfl (by kernel_rfl) g101) ?_
            clear hF hD
            exact wp_load_row 25 (.tmp 8) rfl (w3.heap.size) (eval_tmp g8) _ _ _ _ (blk_call HQ.out hB) Tryd.underlying25 rfl (by kernel_rfl) (hK _ _ (Below.refl _ _) (rt_eqS s103))
          refine obsR_cons ?_ ?_
          · intro T wx K hB hF hD hK
            have g101 := get_eqS (hD 2 101 (by simp [Region.binds]) (by kernel_rfl)) s101
            have g102 := get_eqS (hD 3 102 (by simp [Region.binds]) (by kernel_rfl)) s102
            have g103 := get_eqS (hD 4 103 (by simp [Region.binds]) (by kernel_rfl)) s103
            refine ob_yes (wanted_yes rfl (by kernel_rfl) g101) ?_
            clear hF hD
            have nj := fun w => neq_joints c0 c1 c2 w
            go_simp
            exact hK _ _ (Below.refl _ _) (rt_eqS s104)
          refine obsR_cons ?_ ?_
          · intro T wx K hB hF hD hK
            have g101 := get_eqS (hD 2 101 (by simp [Region.binds]) (by kernel_rfl)) s101
            have g104 := get_eqS (hD 5 104 (by simp [Region.binds]) (by kernel_rfl)) s104
            refine ob_yes (wanted_none rfl) ?_
            clear hF hD
            go_simp
            exact hK _ _ (Below.refl _ _) (rt_eqS s105)
          refine obsR_cons ?_ ?_
          · intro T wx K hB hF hD hK
            have g105 := get_eqS (hD 6 105 (by simp [Region.binds]) (by kernel_rfl)) s105
            refine ob_yes (wanted_none rfl) ?_
            clear hF hD
            go_simp
            exact hK _ _ (Below.refl _ _) (rt_eqS s106)
          refine obsR_cons ?_ ?_
          · intro T wx K hB hF hD hK
            have g106 := get_eqS (hD 7 106 (by simp [Region.binds]) (by kernel_rfl)) s106
            have g3 : T[3]? = some (.pointer (some ⟨w.heap.size, 0, none⟩)) := hF 3 (freeM_of (by kernel_rfl))
            refine ob_yes (wanted_yes rfl (by kernel_rfl) g106) ?_
            clear hF hD
            exact wp_load_row 27 (.tmp 3) rfl w.heap.size (eval_tmp g3) _ _ _ _ (blk_call HA.out hB) Tryd.underlying27 rfl (by kernel_rfl) (hK _ _ (Below.refl _ _) (rt_eqS s107))
          refine obsR_cons ?_ ?_
          · intro T wx K hB hF hD hK
            have g106 := get_eqS (hD 7 106 (by simp [Region.binds]) (by kernel_rfl)) s106
            have g12 : T[12]? = some (.pointer (some ⟨w1.heap.size, 0, none⟩)) := hF 12 (freeM_of (by kernel_rfl))
            refine ob_yes (wanted_yes rfl (by kernel_rfl) g106) ?_
            clear hF hD
            exact wp_load_row 25 (.tmp 12) rfl (w1.heap.size) (eval_tmp g12) _ _ _ _ (blk_call HR.out hB) Tryd.underlying25 rfl (by kernel_rfl) (hK _ _ (Below.refl _ _) (rt_eqS s108))
          refine obsR_cons ?_ ?_
          · intro T wx K hB hF hD hK
            have g106 := get_eqS (hD 7 106 (by simp [Region.binds]) (by kernel_rfl)) s106
            have g107 := get_eqS (hD 8 107 (by simp [Region.binds]) (by kernel_rfl)) s107
            have g108 := get_eqS (hD 9 108 (by simp [Region.binds]) (by kernel_rfl)) s108
            refine ob_yes (wanted_yes rfl (by kernel_rfl) g106) ?_
            clear hF hD
            go_simp
            refine (inlim_is X Y n0 n1 n2 W l0 l1 l2 h0 h1 h2 p0 p1 p2 true _ FB).mono ?_; rintro e w9 ⟨rfl, hb⟩
            exact hK _ _ hb (rt_eqS s109)
          refine obsR_cons ?_ ?_
          · intro T wx K hB hF hD hK
            have g106 := get_eqS (hD 7 106 (by simp [Region.binds]) (by kernel_rfl)) s106
            have g109 := get_eqS (hD 10 109 (by simp [Region.binds]) (by kernel_rfl)) s109
            refine ob_yes (wanted_yes rfl (by kernel_rfl) g106) ?_
            clear hF hD
            go_simp
            exact hK _ _ (Below.refl _ _) (rt_eqS s110)
          refine obsR_cons ?_ ?_
          · intro T wx K hB hF hD hK
            have g106 := get_eqS (hD 7 106 (by simp [Region.binds]) (by kernel_rfl)) s106
            have g110 := get_eqS (hD 11 110 (by simp [Region.binds]) (by kernel_rfl)) s110
            refine ob_yes (wanted_none rfl) ?_
            clear hF hD
            go_simp
            exact hK _ _ (Below.refl _ _) (rt_eqS s111)
          refine obsR_cons ?_ ?_
          · intro T wx K hB hF hD hK
            have g111 := get_eqS (hD 12 111 (by simp [Region.binds]) (by kernel_rfl)) s111
            refine ob_yes (wanted_none rfl) ?_
            clear hF hD
            go_simp
            exact hK _ _ (Below.refl _ _) (rt_eqS s112)
          refine obsR_cons ?_ ?_
          · intro T wx K hB hF hD hK
            have g112 := get_eqS (hD 13 112 (by simp [Region.binds]) (by kernel_rfl)) s112
            have g10 : T[10]? = some (.int .i64 j) := hF 10 (freeM_of (by kernel_rfl))
            refine ob_yes (wanted_yes rfl (by kernel_rfl) g112) ?_
            clear hF hD
            go_simp
            exact hK _ _ (Below.refl _ _) (rt_eqS s113)
          refine obsR_cons ?_ ?_
          · intro T wx K hB hF hD hK
            have g112 := get_eqS (hD 13 112 (by simp [Region.binds]) (by kernel_rfl)) s112
            have g12 : T[12]? = some (.pointer (some ⟨w1.heap.size, 0, none⟩)) := hF 12 (freeM_of (by kernel_rfl))
            have g113 := get_eqS (hD 14 113 (by simp [Region.binds]) (by kernel_rfl)) s113
            refine ob_yes (wanted_yes rfl (by kernel_rfl) g112) ?_
            clear hF hD
            go_simp
            exact hK _ _ (Below.refl _ _) (rt_eqS s114)
          refine obsR_cons ?_ ?_
          · intro T wx K hB hF hD hK
            have g112 := get_eqS (hD 13 112 (by simp [Region.binds]) (by kernel_rfl)) s112
            have g114 := get_eqS (hD 15 114 (by simp [Region.binds]) (by kernel_rfl)) s114
            refine ob_yes (wanted_yes rfl (by kernel_rfl) g112) ?_
            clear hF hD
            have c0' := atS_r AT.out (blk_call HR.out hB)
            go_simp
            exact hK _ _ (Below.refl _ _) (rt_eqS s115)
          refine obsR_cons ?_ ?_
          · intro T wx K hB hF hD hK
            have g112 := get_eqS (hD 13 112 (by simp [Region.binds]) (by kernel_rfl)) s112
            have g10 : T[10]? = some (.int .i64 j) := hF 10 (freeM_of (by kernel_rfl))
            refine ob_yes (wanted_yes rfl (by kernel_rfl) g112) ?_
            clear hF hD
            go_simp
            exact hK _ _ (Below.refl _ _) (rt_eqS s116)
          refine obsR_cons ?_ ?_
          · intro T wx K hB hF hD hK
            have g112 := get_eqS (hD 13 112 (by simp [Region.binds]) (by kernel_rfl)) s112
            have g8 : T[8]? = some (.pointer (some ⟨w3.heap.size, 0, none⟩)) := hF 8 (freeM_of (by kernel_rfl))
            have g116 := get_eqS (hD 17 116 (by simp [Region.binds]) (by kernel_rfl)) s116
            refine ob_yes (wanted_yes rfl (by kernel_rfl) g112) ?_
            clear hF hD
            go_simp
            exact hK _ _ (Below.refl _ _) (rt_eqS s117)
          refine obsR_cons ?_ ?_
          · intro T wx K hB hF hD hK
            have g112 := get_eqS (hD 13 112 (by simp [Region.binds]) (by kernel_rfl)) s112
            have g117 := get_eqS (hD 18 117 (by simp [Region.binds]) (by kernel_rfl)) s117
            refine ob_yes (wanted_yes rfl (by kernel_rfl) g112) ?_
            clear hF hD
            have c0' := atS_q AT.out (blk_call HQ.out hB)
            go_simp
            exact hK _ _ (Below.refl _ _) (rt_eqS s118)
          refine obsR_cons ?_ ?_
          · intro T wx K hB hF hD hK
            have g112 := get_eqS (hD 13 112 (by simp [Region.binds]) (by kernel_rfl)) s112
            have g11 : T[11]? = some (.int .i64 (-1)) := hF 11 (freeM_of (by kernel_rfl))
            refine ob_yes (wanted_yes rfl (by kernel_rfl) g112) ?_
            clear hF hD
            go_simp
            exact hK _ _ (Below.refl _ _) (rt_eqS s119)
          refine obsR_cons ?_ ?_
          · intro T wx K hB hF hD hK
            have g112 := get_eqS (hD 13 112 (by simp [Region.binds]) (by kernel_rfl)) s112
            have g118 := get_eqS (hD 19 118 (by simp [Region.binds]) (by kernel_rfl)) s118
            have g119 := get_eqS (hD 20 119 (by simp [Region.binds]) (by kernel_rfl)) s119
            refine ob_yes (wanted_yes rfl (by kernel_rfl) g112) ?_
            clear hF hD
            go_simp
            rw [wrapi7 _ (by have := BD.out; omega)]
            exact hK _ _ (Below.refl _ _) (rt_eqS s120)
          refine obsR_cons ?_ ?_
          · intro T wx K hB hF hD hK
            have g112 := get_eqS (hD 13 112 (by simp [Region.binds]) (by kernel_rfl)) s112
            have g115 := get_eqS (hD 16 115 (by simp [Region.binds]) (by kernel_rfl)) s115
            have g120 := get_eqS (hD 21 120 (by simp [Region.binds]) (by kernel_rfl)) s120
            refine ob_yes (wanted_yes rfl (by kernel_rfl) g112) ?_
            clear hF hD
            go_simp
            exact hK _ _ (Below.refl _ _) (rt_eqS s121)
          refine obsR_cons ?_ ?_
          · intro T wx K hB hF hD hK
            have g112 := get_eqS (hD 13 112 (by simp [Region.binds]) (by kernel_rfl)) s112
            have g121 := get_eqS (hD 22 121 (by simp [Region.binds]) (by kernel_rfl)) s121
            refine ob_yes (wanted_none rfl) ?_
            clear hF hD
            go_simp
            exact hK _ _ (Below.refl _ _) (rt_eqS s122)
          exact obsR_nil
        · intro S2 V4 hb8 hF hs hD
          have g99 := get_eqS (hD 0 99 (by decide) (by kernel_rfl)) s99
          have g100 := get_eqS (hD 1 100 (by decide) (by kernel_rfl)) s100
          have g101 := get_eqS (hD 2 101 (by decide) (by kernel_rfl)) s101
          have g102 := get_eqS (hD 3 102 (by decide) (by kernel_rfl)) s102
          have g103 := get_eqS (hD 4 103 (by decide) (by kernel_rfl)) s103
          have g104 := get_eqS (hD 5 104 (by decide) (by kernel_rfl)) s104
          have g105 := get_eqS (hD 6 105 (by decide) (by kernel_rfl)) s105
          have g106 := get_eqS (hD 7 106 (by decide) (by kernel_rfl)) s106
          have g107 := get_eqS (hD 8 107 (by decide) (by kernel_rfl)) s107
          have g108 := get_eqS (hD 9 108 (by decide) (by kernel_rfl)) s108
          have g109 := get_eqS (hD 10 109 (by decide) (by kernel_rfl)) s109
          have g110 := get_eqS (hD 11 110 (by decide) (by kernel_rfl)) s110
          have g111 := get_eqS (hD 12 111 (by decide) (by kernel_rfl)) s111
          have g112 := get_eqS (hD 13 112 (by decide) (by kernel_rfl)) s112
          have g113 := get_eqS (hD 14 113 (by decide) (by kernel_rfl)) s113
          have g114 := get_eqS (hD 15 114 (by decide) (by kernel_rfl)) s114
          have g115 := get_eqS (hD 16 115 (by decide) (by kernel_rfl)) s115
          have g116 := get_eqS (hD 17 116 (by decide) (by kernel_rfl)) s116
          have g117 := get_eqS (hD 18 117 (by decide) (by kernel_rfl)) s117
          have g118 := get_eqS (hD 19 118 (by decide) (by kernel_rfl)) s118
          have g119 := get_eqS (hD 20 119 (by decide) (by kernel_rfl)) s119
          have g120 := get_eqS (hD 21 120 (by decide) (by kernel_rfl)) s120
          have g121 := get_eqS (hD 22 121 (by decide) (by kernel_rfl)) s121
          have g122 := get_eqS (hD 23 122 (by decide) (by kernel_rfl)) s122
          have hT := conc [(99, .bool true), (100, .bool false), (101, .bool false), (102, .agg #[.int .i64 c0, .int .i64 c1, .int .i64 c2]), (103, .agg #[.int .i64 c0, .int .i64 c1, .int .i64 c2]), (104, .bool false), (105, .bool false), (106, .bool false), (107, .agg #[.int .i64 X, .int .i64 Y, .int .i64 n0, .int .i64 n1, .int .i64 n2, .int .i64 W, .int .i64 l0, .int .i64 l1, .int .i64 l2, .int .i64 h0, .int .i64 h1, .int .i64 h2]), (108, .agg #[.int .i64 p0, .int .i64 p1, .int .i64 p2]), (109, .bool true), (110, .bool false), (111, .bool false), (112, .bool false), (113, .int .i64 j), (114, .pointer (some ⟨w1.heap.size, o, none⟩)), (115, .int .i64 (cj + -1)), (116, .int .i64 j), (117, .pointer (some ⟨w3.heap.size, o, none⟩)), (118, .int .i64 cj), (119, .int .i64 (-1)), (120, .int .i64 (cj + -1)), (121, .bool false), (122, .bool false)] hs hF (by simp only [List.forall_mem_cons]; exact ⟨g99, g100, g101, g102, g103, g104, g105, g106, g107, g108, g109, g110, g111, g112, g113, g114, g115, g116, g117, g118, g119, g120, g121, g122, fun p hp => absurd hp List.not_mem_nil⟩) (by kernel_rfl)
          simp only [List.foldl, List.setIfInBounds_toArray, List.set_cons_succ, List.set_cons_zero] at hT
          subst hT
          clear hF hD hs g99 g100 g101 g102 g103 g104 g105 g106 g107 g108 g109 g110 g111 g112 g113 g114 g115 g116 g117 g118 g119 g120 g121 g122 s99 s100 s101 s102 s103 s104 s105 s106 s107 s108 s109 s110 s111 s112 s113 s114 s115 s116 s117 s118 s119 s120 s121 s122
          replace HA := Lib.hid (blk_call HA.out hb8)
          replace HQ := Lib.hid (blk_call HQ.out hb8)
          replace HR := Lib.hid (blk_call HR.out hb8)
          replace HS := Lib.hid (blk_call HS.out hb8)
          replace B := Lib.hid (belT B.out hb8)
          clear hb8
          have y0 := blk_cell HR.out 0 _ rfl
          have y1 := blk_cell HR.out 1 _ rfl
          have y2 := blk_cell HR.out 2 _ rfl
          have z0 := blk_cell HQ.out 0 _ rfl
          have zz0 := blk_fz HQ.out 0
          have z1 := blk_cell HQ.out 1 _ rfl
          have zz1 := blk_fz HQ.out 1
          have z2 := blk_cell HQ.out 2 _ rfl
          have zz2 := blk_fz HQ.out 2
          have nq := NQ.out
          go_wp2_with fail
          clear y0 y1 y2 z0 zz0 z1 zz1 z2 zz2
          go_roundw
          case rel => exact ⟨n + 1, p0, p1, p2, by omega, by go_num, atS_new AT.out cb.out (by have := BD.out; have := hx.out; omega), (blk_other (blk_other (blk_other HA.out (show w3.heap.size ≠ w.heap.size by omega) (.int .i64 p0)) (show w3.heap.size ≠ w.heap.size by omega) (.int .i64 p1)) (show w3.heap.size ≠ w.heap.size by omega) (.int .i64 p2)), (blk_set (blk_set (blk_set HQ.out (.int .i64 p0)) (.int .i64 p1)) (.int .i64 p2)), (belS (p := ⟨w3.heap.size, 2, none⟩) (belS (p := ⟨w3.heap.size, 1, none⟩) (belS (p := ⟨w3.heap.size, 0, none⟩) B.out (show w.heap.size ≤ w3.heap.size by omega) (.int .i64 p0)) (show w.heap.size ≤ w3.heap.size by omega) (.int .i64 p1)) (show w.heap.size ≤ w3.heap.size by omega) (.int .i64 p2))⟩
          case measure => simp [intOf]; omega

set_option maxRecDepth 100000 in
theorem lifted (os : Os) (started : os.Started) (H : Type) (enc : TypeId × Value → H) :
    ReturnsInHanded {} Tryd.checked os 7 .any (fun w args => (Rows.armStepsAreReversibleSpec.pre enc Tryd.prog Tryd.f7 [] false w args ∧ laidMetH Tryd.prog Rows.armStepsAreReversibleRow.laid w) ∧ sizedMet enc Tryd.prog Tryd.f7 (OpenSpec.ofChange Rows.armStepsAreReversibleSpec) false w args)
      (Rows.armStepsAreReversibleSpec.post enc Tryd.prog Tryd.f7 false true false false) := by
  refine returnsInHanded_of_change_and (C := Tryd.checked) (X := fun w _ => laidMetH Tryd.prog Rows.armStepsAreReversibleRow.laid w) (fun _ _ _ hh h => h.of_heap hh) own started (by kernel_rfl) Tryd.func7
    (ChangeSpec.witness_shaped (enc := enc) (C := Tryd.checked) (os := os) (X := fun w _ => laidMetH Tryd.prog Rows.armStepsAreReversibleRow.laid w) false (World.doorLaid Tryd.prog 600 os) #[.agg #[.int .i64 0, .int .i64 0, .int .i64 0, .int .i64 0, .int .i64 0, .int .i64 0, .int .i64 0, .int .i64 0, .int .i64 0, .int .i64 0, .int .i64 0, .int .i64 0], .agg #[.int .u8 0, .int .u8 0, .int .u8 0], .slice none 0 0] 8 rfl (World.shaped_of_RefB (by kernel_rfl) (by kernel_rfl)) (by kernel_rfl) (by kernel_rfl) (by kernel_rfl) (show laidMetH Tryd.prog [(qn, Rows.laid_ambidexter_rotation_quadrant)] _ from door_met os _)) ?_
  intro W base args ds gs before hval0 hW _ _ hL _
  have hval : ∀ (j : Nat) t v, Tryd.f7.params[j]? = some t → args[j]? = some v → Value.okWide Tryd.prog W .any base t v := hval0
  have hW' := hW
  obtain ⟨p, q, hA0, hV, rfl, hfz, hnd⟩ := hW
  have hA : DataW.TrodAll enc Tryd.prog W 0 (fun _ => true) true Tryd.f7.params.toList args.toList ds p := hA0
  rw [Tryd.params7] at hA hval
  obtain ⟨v0, vs0, d0, ds0, p0, q0, hargs, rfl, rfl, h0, r0⟩ := trodAll_cons hA
  obtain ⟨v1, vs1, d1, ds1, p1, q1, rfl, rfl, rfl, h1, r1⟩ := trodAll_cons r0
  obtain ⟨v2, vs2, d2, ds2, p2, q2, rfl, rfl, rfl, h2, r2⟩ := trodAll_cons r1
  obtain ⟨rfl, rfl, rfl⟩ := trodAll_nil r2
  obtain rfl : args = #[v0, v1, v2] := by cases args; simp_all
  obtain ⟨rfl, rfl⟩ := trodVars_none hV
  have k0 := h0
  have lt0 : ∀ x ∈ p0, x.block < W.heap.size := by obtain ⟨m, hm⟩ := k0; exact DataW.trod_lt m _ _ _ hm
  obtain ⟨c0_0, c0_1, c0_2, c0_3, c0_4, c0_5, c0_6, c0_7, c0_8, c0_9, c0_10, c0_11, rfl⟩ := AFr.open_arm (hval 0 27 v0 rfl rfl) h0
  have k1 := h1
  have lt1 : ∀ x ∈ p1, x.block < W.heap.size := by obtain ⟨m, hm⟩ := k1; exact DataW.trod_lt m _ _ _ hm
  obtain ⟨c1_0, c1_1, c1_2, rfl, b1_0, b1_1, b1_2⟩ := AFr.open_raw (hval 1 28 v1 rfl rfl) h1
  have k2 := h2
  have lt2 : ∀ x ∈ p2, x.block < W.heap.size := by obtain ⟨m, hm⟩ := k2; exact DataW.trod_lt m _ _ _ hm
  obtain ⟨a2, cap2, l2, rfl, n2, w2⟩ := AFr.open_u8s (hval 2 57 v2 rfl rfl) h2
  clear hA0 hval0
  simp only [List.append_nil] at hW'
  refine (walk c0_0 c0_1 c0_2 c0_3 c0_4 c0_5 c0_6 c0_7 c0_8 c0_9 c0_10 c0_11 c1_0 c1_1 c1_2 b1_0 b1_1 b1_2 a2 cap2 l2 n2 W w2 (tab_of_laid hL)).mono fun e W' ⟨he, bel⟩ => ?_
  subst he
  exact ⟨_, rfl, _, _, _, [], _, [], hW', trodAll_mk1 (shut_bool Tryd.underlying4 _), (trodAll_cons_mk (Below.trod HFr.laidOut (by kernel_rfl) (of_decide_eq_true (by kernel_rfl)) k0 bel lt0) (trodAll_cons_mk (Below.trod HFr.laidOut (by kernel_rfl) (of_decide_eq_true (by kernel_rfl)) k1 bel lt1) (trodAll_cons_mk (Below.trod HFr.laidOut (by kernel_rfl) (of_decide_eq_true (by kernel_rfl)) k2 bel lt2) trodAll_mk0))), rfl, bel.frame _, fun h => by cases h⟩

theorem holds : Rows.ArmStepsAreReversibleSaid :=
  OpenClaim.holds_of_wide 7 Tryd.f7 rfl rfl rfl rfl rfl rfl rfl ⟨rfl, rfl, rfl, rfl, rfl⟩ rfl rfl rfl rfl rfl (by kernel_rfl) Tryd.func7 (by kernel_rfl)
    (of_decide_eq_true (by kernel_rfl)) (by unfold Func.isWrapper; first | (rw [if_pos (by decide +kernel)]; kernel_rfl) | (rw [if_neg (by decide +kernel)]; exact ⟨rfl, rfl⟩))
    (fun os started H enc _ => lifted os started H enc)

/-- THE STATEMENT: the tied card. -/
theorem card_holds : Rows.ArmStepsAreReversibleCardSaid :=
  Claim7.holds_tied_plain_at .later [] [.data] true Rows.armStepsAreReversibleCard.stood.harness false
    holds (fun _ h => by cases h) (by kernel_rfl) (fun _ h => by cases h) armStepsAreReversible_row_tie rfl ⟨rfl, rfl⟩ (by kernel_rfl) rfl
    (fun f fn hf hfn => by
      obtain rfl : f = 7 := Option.some.inj ((show Tryd.prog.funcNamed Rows.armStepsAreReversibleRow.func = some 7 by kernel_rfl).symm.trans hf) |>.symm
      obtain rfl : fn = Tryd.f7 := (Option.some.inj (Tryd.func7.symm.trans hfn)).symm
      exact ⟨by kernel_rfl, fun j t ht => by
        rw [Tryd.params7] at ht
        have hm : t ∈ [27, 28, 57] := by have := Array.mem_of_getElem? ht; simp only [List.mem_toArray, List.mem_cons, List.not_mem_nil, or_false] at this ⊢; grind
        have hall : ([27, 28, 57].all fun u => !Tryd.prog.wantsStandIn u) = true := by kernel_rfl
        exact (show Tryd.prog.wantsStandIn t = false by simpa using List.all_eq_true.1 hall t hm)⟩)
    (by kernel_rfl)
#print axioms card_holds
end Go.Proofs.YtalhkcmlacppjaaDoor.armStepsAreReversible
