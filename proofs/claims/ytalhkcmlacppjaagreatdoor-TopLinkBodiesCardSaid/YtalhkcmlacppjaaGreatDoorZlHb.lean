/- Helpers: what the law reaches. -/
import Derived.Test.YtalhkcmlacppjaaGreatDoorRows
import Derived.WalkKit
import Derived.ProofKit
import Derived.OpenShut
import Derived.Handy
import Derived.BigQuiet
import Derived.Deep.QuietTactic
import Derived.Lib.Hide
import Derived.Deep.RegionHeld3
import Derived.Deep.DeepCutAuto
import Derived.LoopN
import Derived.Orders
import Derived.RangeFuncNested
import Derived.RangeFuncBound
import Derived.RangeFuncCalls
import Derived.RangeFuncLeaves
import Derived.Shelf.Abstract
import Derived.OwnWalkIn
import Derived.TacticsInMore
import Derived.LoopNIn
import Derived.LoopIn
import Derived.Test.YtalhkcmlacppjaaGreatDoorZlRotC
namespace Go.Proofs.YtalhkcmlacppjaaGreatDoor
open Go.ChangeShapes Go.WideShapes Go.ChangeAt Go.RowKit

theorem ret_two {a b c d : Bool} (h : a = b) (g : c = d) : Ending.returned (.tuple #[.bool a, .bool c]) = .returned (.tuple #[.bool b, .bool d]) := by rw [h, g]
theorem bcell {W w1 : World} (hb : Below W.heap.size W w1) : (∀ b o, b < W.heap.size → w1.cell? ⟨b, o, none⟩ = W.cell? ⟨b, o, none⟩) ∧ (∀ b o, b < W.heap.size → w1.frozen? ⟨b, o, none⟩ = W.frozen? ⟨b, o, none⟩) :=
  ⟨fun b o h => hb.cell (p := ⟨b, o, none⟩) h, fun b o h => hb.frozen (p := ⟨b, o, none⟩) h⟩
theorem cell_call {w w1 : World} {p : Addr} {v : Value} (h : w.cell? p = some v) (hb : Below w.heap.size w w1) : w1.cell? p = some v :=
  (hb.cell (World.block_lt_of_cell? w p h)).trans h
theorem cell_alloc {w : World} {p : Addr} {v : Value} (h : w.cell? p = some v) (o : Obj) : (w.alloc o).cell? p = some v :=
  (World.cell?_alloc_lt w o p (World.block_lt_of_cell? w p h)).trans h

def cmpI (a b : Int) : Int := if a < b then -1 else if b < a then 1 else 0
theorem cmpI_lt {a b : Int} (h : a < b) : cmpI a b = -1 := by unfold cmpI; rw [if_pos h]
theorem cmpI_gt {a b : Int} (h : b < a) : cmpI a b = 1 := by unfold cmpI; rw [if_neg (by omega), if_pos h]
theorem cmpI_eq {a b : Int} (h : a = b) : cmpI a b = 0 := by unfold cmpI; rw [if_neg (by omega), if_neg (by omega)]
theorem cmpI_bd (a b : Int) : -1 ≤ cmpI a b ∧ cmpI a b ≤ 1 := by unfold cmpI; split <;> (try split) <;> omega
def mnI (a b : Int) : Int := if b < a then b else a
def mxI (a b : Int) : Int := if a < b then b else a
theorem mnI_bd (a b : Int) : (mnI a b ≤ a ∧ mnI a b ≤ b) ∧ (mnI a b = a ∨ mnI a b = b) := by unfold mnI; split <;> omega
theorem mxI_bd (a b : Int) : (a ≤ mxI a b ∧ b ≤ mxI a b) ∧ (mxI a b = a ∨ mxI a b = b) := by unfold mxI; split <;> omega
theorem run_min2 (a b : Int) (w : World) : (Builtin.min_ #[3, 3] 3 #[.int .i64 a, .int .i64 b]).run Tryz.prog w = .ok (.int .i64 (mnI a b)) w := by
  simp [Builtin.min_, Builtin.min2, mnI]
theorem run_max2 (a b : Int) (w : World) : (Builtin.max_ #[3, 3] 3 #[.int .i64 a, .int .i64 b]).run Tryz.prog w = .ok (.int .i64 (mxI a b)) w := by
  simp [Builtin.max_, Builtin.max2, mxI]

theorem sub_any (a b c d : Int) (w : World) :
    Calls Tryz.prog 52 #[.agg #[.int .i64 a, .int .i64 b], .agg #[.int .i64 c, .int .i64 d]] w fun e w' => e = .returned (.agg #[.int .i64 (wrap64 (a - c)), .int .i64 (wrap64 (b - d))]) ∧ Below w.heap.size w w' := by
  go_enter Tryz.func52, Tryz.ntmps52
  go_wp2
  go_returns
  exact ⟨rfl, by go_grown⟩

theorem sub_in (a b c d : Int) (w : World) (h1 : -9223372036854775808 ≤ a - c ∧ a - c ≤ 9223372036854775807) (h2 : -9223372036854775808 ≤ b - d ∧ b - d ≤ 9223372036854775807) :
    Calls Tryz.prog 52 #[.agg #[.int .i64 a, .int .i64 b], .agg #[.int .i64 c, .int .i64 d]] w fun e w' => e = .returned (.agg #[.int .i64 (a - c), .int .i64 (b - d)]) ∧ Below w.heap.size w w' := by
  have := sub_any a b c d w
  rw [IntWalk.wrap64_in _ h1, IntWalk.wrap64_in _ h2] at this
  exact this

theorem lower_any (a b c d : Int) (w : World) :
    Calls Tryz.prog 77 #[.agg #[.int .i64 a, .int .i64 b], .agg #[.int .i64 c, .int .i64 d]] w fun e w' => e = .returned (.agg #[.int .i64 (mnI a c), .int .i64 (mnI b d)]) ∧ Below w.heap.size w w' := by
  have m1 := run_min2 a c
  have m2 := run_min2 b d
  go_enter Tryz.func77, Tryz.ntmps77
  go_wp2
  go_returns
  exact ⟨rfl, by go_grown⟩

theorem upper_any (a b c d : Int) (w : World) :
    Calls Tryz.prog 78 #[.agg #[.int .i64 a, .int .i64 b], .agg #[.int .i64 c, .int .i64 d]] w fun e w' => e = .returned (.agg #[.int .i64 (mxI a c), .int .i64 (mxI b d)]) ∧ Below w.heap.size w w' := by
  have m1 := run_max2 a c
  have m2 := run_max2 b d
  go_enter Tryz.func78, Tryz.ntmps78
  go_wp2
  go_returns
  exact ⟨rfl, by go_grown⟩

theorem larger_any (a b : Int) (w : World) :
    Calls Tryz.prog 54 #[.int .i64 a, .int .i64 b] w fun e w' => e = .returned (.int .i64 (mxI a b)) ∧ w = w' := by
  have m1 := run_max2 a b
  go_enter Tryz.func54, Tryz.ntmps54
  go_wp2
  go_ret
  exact ⟨rfl, rfl⟩

theorem nan_any (x : Int) (w : World) :
    Calls Tryz.prog 105 #[.int .i64 x] w fun e w' => e = .returned (.bool false) ∧ w = w' := by
  go_enter Tryz.func105, Tryz.ntmps105
  go_wp2
  go_ret
  exact ⟨rfl, rfl⟩

theorem compare_any (x y : Int) (w : World) :
    Calls Tryz.prog 86 #[.int .i64 x, .int .i64 y] w fun e w' => e = .returned (.int .i64 (cmpI x y)) ∧ w = w' := by
  rcases Int.lt_trichotomy x y with h | h | h
  all_goals
    go_enter Tryz.func86, Tryz.ntmps86
    go_wp2_with (go_at_call 105; refine (nan_any _ _).mono ?_; rintro e w' ⟨rfl, rfl⟩)
    go_ret
    exact ⟨ret_int (by first | (rw [cmpI_lt h]) | (rw [cmpI_eq h]) | (rw [cmpI_gt h])), rfl⟩

end Go.Proofs.YtalhkcmlacppjaaGreatDoor


namespace Go.Proofs.YtalhkcmlacppjaaGreatDoor
open Go.ChangeShapes Go.WideShapes Go.ChangeAt Go.RowKit

def ori (a b c d p q : Int) : Int := cmpI ((c - a) * (q - b)) ((d - b) * (p - a))
theorem mul_bd {x c B C : Int} (hx : -B ≤ x ∧ x ≤ B) (hc : -C ≤ c ∧ c ≤ C) : -(C * B) ≤ x * c ∧ x * c ≤ C * B := by
  obtain ⟨x1, x2⟩ := hx
  obtain ⟨c1, c2⟩ := hc
  have a1 : 0 ≤ (B - x) * (C - c) := Int.mul_nonneg (by omega) (by omega)
  have a2 : 0 ≤ (B - x) * (C + c) := Int.mul_nonneg (by omega) (by omega)
  have a3 : 0 ≤ (B + x) * (C - c) := Int.mul_nonneg (by omega) (by omega)
  have a4 : 0 ≤ (B + x) * (C + c) := Int.mul_nonneg (by omega) (by omega)
  simp only [Int.add_mul, Int.sub_mul, Int.mul_add, Int.mul_sub] at a1 a2 a3 a4
  have e1 := Int.mul_comm B C
  have e2 := Int.mul_comm x C
  omega
/-- The bound of a coordinate. -/
def InR (x : Int) : Prop := -1500000000 ≤ x ∧ x ≤ 1500000000
theorem dif_bd {x y : Int} (hx : InR x) (hy : InR y) : -3000000000 ≤ x - y ∧ x - y ≤ 3000000000 := by unfold InR at *; omega

theorem cb0 (w : World) (x y : Int) (n : Nat) (h : w.heap.size = n) : (w.alloc (.cells #[.int .i64 x, .int .i64 y] 23)).cell? ⟨n, 0, none⟩ = some (.int .i64 x) := by subst h; simp
theorem cb1 (w : World) (x y : Int) (n : Nat) (h : w.heap.size = n) : (w.alloc (.cells #[.int .i64 x, .int .i64 y] 23)).cell? ⟨n, 1, none⟩ = some (.int .i64 y) := by subst h; simp
theorem belT {w0 w w' : World} (h : Below w0.heap.size w0 w) (hb : Below w.heap.size w w') : Below w0.heap.size w0 w' := h.trans (hb.mono h.size)
theorem belS {w0 w : World} {p : Addr} (h : Below w0.heap.size w0 w) (hp : w0.heap.size ≤ p.block) (v : Value) : Below w0.heap.size w0 (w.setCell p v) := h.setCell hp v
theorem setc {w : World} {p : Addr} {x : Value} (h : w.cell? p = some x) (v : Value) : (w.setCell p v).cell? p = some v := World.cell?_setCell_same w p v h
theorem belA {w0 w : World} (h : Below w0.heap.size w0 w) (o : Obj) : Below w0.heap.size w0 (w.alloc o) := h.alloc h.size o

set_option maxHeartbeats 2000000 in
theorem orient_any (a b c d p q : Int) (w : World) (ha : InR a) (hb : InR b) (hc : InR c) (hd : InR d) (hp : InR p) (hq : InR q) :
    Calls Tryz.prog 71 #[.agg #[.int .i64 a, .int .i64 b], .agg #[.int .i64 c, .int .i64 d], .agg #[.int .i64 p, .int .i64 q]] w fun e w' => e = .returned (.int .i64 (ori a b c d p q)) ∧ Below w.heap.size w w' := by
  have d1 := dif_bd hc ha
  have d2 := dif_bd hd hb
  have d3 := dif_bd hp ha
  have d4 := dif_bd hq hb
  obtain ⟨m1, m2⟩ := mul_bd d1 d4
  obtain ⟨m3, m4⟩ := mul_bd d2 d3
  have e1 : -9223372036854775808 ≤ c - a ∧ c - a ≤ 9223372036854775807 := by omega
  have e2 : -9223372036854775808 ≤ d - b ∧ d - b ≤ 9223372036854775807 := by omega
  have e3 : -9223372036854775808 ≤ p - a ∧ p - a ≤ 9223372036854775807 := by omega
  have e4 : -9223372036854775808 ≤ q - b ∧ q - b ≤ 9223372036854775807 := by omega
  obtain ⟨d11, d12⟩ := d1
  obtain ⟨d21, d22⟩ := d2
  obtain ⟨d31, d32⟩ := d3
  obtain ⟨d41, d42⟩ := d4
  clear ha hb hc hd hp hq
  go_enter Tryz.func71, Tryz.ntmps71
  go_upto_region 1 with fail
  have k0 : (((w.alloc (.cells #[.int .i64 a, .int .i64 b] 23)).alloc (.cells #[.int .i64 c, .int .i64 d] 23)).alloc (.cells #[.int .i64 p, .int .i64 q] 23)).cell? ⟨w.heap.size, 0, none⟩ = some (.int .i64 a) := (cell_alloc (cell_alloc (show (w.alloc (.cells #[.int .i64 a, .int .i64 b] 23)).cell? ⟨w.heap.size, 0, none⟩ = some (.int .i64 a) from cb0 _ _ _ _ rfl) _) _)
  have k1 : (((w.alloc (.cells #[.int .i64 a, .int .i64 b] 23)).alloc (.cells #[.int .i64 c, .int .i64 d] 23)).alloc (.cells #[.int .i64 p, .int .i64 q] 23)).cell? ⟨w.heap.size, 1, none⟩ = some (.int .i64 b) := (cell_alloc (cell_alloc (show (w.alloc (.cells #[.int .i64 a, .int .i64 b] 23)).cell? ⟨w.heap.size, 1, none⟩ = some (.int .i64 b) from cb1 _ _ _ _ rfl) _) _)
  have k2 : (((w.alloc (.cells #[.int .i64 a, .int .i64 b] 23)).alloc (.cells #[.int .i64 c, .int .i64 d] 23)).alloc (.cells #[.int .i64 p, .int .i64 q] 23)).cell? ⟨w.heap.size + 1, 0, none⟩ = some (.int .i64 c) := (cell_alloc (show ((w.alloc (.cells #[.int .i64 a, .int .i64 b] 23)).alloc (.cells #[.int .i64 c, .int .i64 d] 23)).cell? ⟨w.heap.size + 1, 0, none⟩ = some (.int .i64 c) from cb0 _ _ _ _ (by simp)) _)
  have k3 : (((w.alloc (.cells #[.int .i64 a, .int .i64 b] 23)).alloc (.cells #[.int .i64 c, .int .i64 d] 23)).alloc (.cells #[.int .i64 p, .int .i64 q] 23)).cell? ⟨w.heap.size + 1, 1, none⟩ = some (.int .i64 d) := (cell_alloc (show ((w.alloc (.cells #[.int .i64 a, .int .i64 b] 23)).alloc (.cells #[.int .i64 c, .int .i64 d] 23)).cell? ⟨w.heap.size + 1, 1, none⟩ = some (.int .i64 d) from cb1 _ _ _ _ (by simp)) _)
  have k4 : (((w.alloc (.cells #[.int .i64 a, .int .i64 b] 23)).alloc (.cells #[.int .i64 c, .int .i64 d] 23)).alloc (.cells #[.int .i64 p, .int .i64 q] 23)).cell? ⟨w.heap.size + 1 + 1, 0, none⟩ = some (.int .i64 p) := (show (((w.alloc (.cells #[.int .i64 a, .int .i64 b] 23)).alloc (.cells #[.int .i64 c, .int .i64 d] 23)).alloc (.cells #[.int .i64 p, .int .i64 q] 23)).cell? ⟨w.heap.size + 1 + 1, 0, none⟩ = some (.int .i64 p) from cb0 _ _ _ _ (by simp))
  have k5 : (((w.alloc (.cells #[.int .i64 a, .int .i64 b] 23)).alloc (.cells #[.int .i64 c, .int .i64 d] 23)).alloc (.cells #[.int .i64 p, .int .i64 q] 23)).cell? ⟨w.heap.size + 1 + 1, 1, none⟩ = some (.int .i64 q) := (show (((w.alloc (.cells #[.int .i64 a, .int .i64 b] 23)).alloc (.cells #[.int .i64 c, .int .i64 d] 23)).alloc (.cells #[.int .i64 p, .int .i64 q] 23)).cell? ⟨w.heap.size + 1 + 1, 1, none⟩ = some (.int .i64 q) from cb1 _ _ _ _ (by simp))
  have hB : Below w.heap.size w (((w.alloc (.cells #[.int .i64 a, .int .i64 b] 23)).alloc (.cells #[.int .i64 c, .int .i64 d] 23)).alloc (.cells #[.int .i64 p, .int .i64 q] 23)) := ((((Below.refl _ _).alloc (Nat.le_refl _) _).alloc (by first | omega | (simp; done) | (simp; omega)) _).alloc (by first | omega | (simp; done) | (simp; omega)) _)
  have z0 : w.heap.size + 1 + 1 < (((w.alloc (.cells #[.int .i64 a, .int .i64 b] 23)).alloc (.cells #[.int .i64 c, .int .i64 d] 23)).alloc (.cells #[.int .i64 p, .int .i64 q] 23)).heap.size := by first | omega | (simp; done) | (simp; omega)
  generalize (((w.alloc (.cells #[.int .i64 a, .int .i64 b] 23)).alloc (.cells #[.int .i64 c, .int .i64 d] 23)).alloc (.cells #[.int .i64 p, .int .i64 q] 23)) = w3 at *
  have hS : Hid (∀ w', Below w3.heap.size w3 w' → w'.cell? ⟨w.heap.size, 0, none⟩ = some (.int .i64 a) ∧ w'.cell? ⟨w.heap.size, 1, none⟩ = some (.int .i64 b) ∧ w'.cell? ⟨w.heap.size + 1, 0, none⟩ = some (.int .i64 c) ∧ w'.cell? ⟨w.heap.size + 1, 1, none⟩ = some (.int .i64 d) ∧ w'.cell? ⟨w.heap.size + 1 + 1, 0, none⟩ = some (.int .i64 p) ∧ w'.cell? ⟨w.heap.size + 1 + 1, 1, none⟩ = some (.int .i64 q) ∧ Below w3.heap.size w3 w') := Lib.hid (fun w' h => ⟨cell_call k0 h, cell_call k1 h, cell_call k2 h, cell_call k3 h, cell_call k4 h, cell_call k5 h, h⟩)
  have b3 : Below w3.heap.size w3 w3 := Below.refl _ _
  go_cut [7, 8] (fun s7 s8 wx => ∃ g h : Nat, s7 = .pointer (some ⟨g, 0, none⟩) ∧ s8 = .pointer (some ⟨h, 0, none⟩) ∧ wx.cell? ⟨g, 0, none⟩ = some (.int .i64 (c - a)) ∧ wx.cell? ⟨g, 1, none⟩ = some (.int .i64 (d - b)) ∧ wx.cell? ⟨h, 0, none⟩ = some (.int .i64 (p - a)) ∧ wx.cell? ⟨h, 1, none⟩ = some (.int .i64 (q - b)) ∧ Below w.heap.size w wx)
  case first =>
    go_region_held3 (fun w' => w'.cell? ⟨w.heap.size, 0, none⟩ = some (.int .i64 a) ∧ w'.cell? ⟨w.heap.size, 1, none⟩ = some (.int .i64 b) ∧ w'.cell? ⟨w.heap.size + 1, 0, none⟩ = some (.int .i64 c) ∧ w'.cell? ⟨w.heap.size + 1, 1, none⟩ = some (.int .i64 d) ∧ w'.cell? ⟨w.heap.size + 1 + 1, 0, none⟩ = some (.int .i64 p) ∧ w'.cell? ⟨w.heap.size + 1 + 1, 1, none⟩ = some (.int .i64 q) ∧ Below w3.heap.size w3 w')
      ((go_split_ands; refine hS.out _ ?_; repeat (first | exact hb8 | assumption | apply Below.drew | (with_reducible refine belA ?_ _) | (with_reducible refine belS ?_ (by first | assumption | exact Nat.le_refl _ | exact Nat.le_succ _ | exact Nat.le_succ_of_le (by assumption)) _))))
      (first | (go_at_call 52; (first | (with_reducible refine (sub_in c d a b _ e1 e2).mono ?_) | (with_reducible refine (sub_in p q a b _ e3 e4).mono ?_)); rintro e w9 ⟨rfl, hb9⟩; have hb8 : Below w3.heap.size w3 w9 := belT (by go_split_ands; repeat (first | assumption | apply Below.drew | (with_reducible refine belA ?_ _))) hb9; have hz8 : w3.heap.size ≤ w9.heap.size := hb8.size; obtain ⟨hc9, hf9⟩ := bcell hb9; have hs9 := hb9.size; (try simp at hs9); (try have hs9b := Nat.lt_of_succ_le hs9); (try have hs9c := Nat.lt_of_succ_lt hs9b); (try have hs9d : w3.heap.size < w9.heap.size := by omega); (try have hs9e : w3.heap.size + 1 < w9.heap.size := by omega)))
    all_goals
      rename_i hH
      obtain ⟨_, _, _, _, _, _, bz⟩ := hH
      have fin := Lib.hid (hB.trans (bz.mono hB.size))
      clear bz hS b3
      go_wp2_with fail
      go_meet
      refine ⟨_, _, rfl, rfl, ?_, ?_, ?_, ?_, fin.out⟩
      all_goals (first | rfl | (go_simp; done) | (go_simp; refine setc (x := .int .i64 0) ?_ _; go_simp; done) | (refine setc (x := .int .i64 0) ?_ _; go_simp; trace_state; fail))
  case rest =>
    obtain ⟨g, h, rfl, rfl, c1, c2, c3, c4, hB2⟩ := hcut
    clear hB hS b3 z0 k0 k1 k2 k3 k4 k5
    go_wp2_with (go_at_call 86; refine (compare_any _ _ _).mono ?_; rintro e w' ⟨rfl, rfl⟩)
    go_ret
    exact ⟨rfl, hB2⟩
end Go.Proofs.YtalhkcmlacppjaaGreatDoor


namespace Go.Proofs.YtalhkcmlacppjaaGreatDoor
open Go.ChangeShapes Go.WideShapes Go.ChangeAt Go.RowKit

def onB (a b c d p q : Int) : Bool := decide (mnI a c ≤ p) && decide (p ≤ mxI a c) && decide (mnI b d ≤ q) && decide (q ≤ mxI b d) && (ori a b c d p q == 0)

set_option maxHeartbeats 4000000 in
theorem onseg_any (a b c d p q : Int) (w : World) (ha : InR a) (hb : InR b) (hc : InR c) (hd : InR d) (hp : InR p) (hq : InR q) :
    Calls Tryz.prog 42 #[.agg #[.int .i64 a, .int .i64 b], .agg #[.int .i64 c, .int .i64 d], .agg #[.int .i64 p, .int .i64 q]] w fun e w' => e = .returned (.bool (onB a b c d p q)) ∧ Below w.heap.size w w' := by
  obtain ⟨x, hx⟩ : ∃ x, x = mnI a c := ⟨_, rfl⟩
  obtain ⟨y, hy⟩ : ∃ y, y = mnI b d := ⟨_, rfl⟩
  obtain ⟨X, hX⟩ : ∃ X, X = mxI a c := ⟨_, rfl⟩
  obtain ⟨Y, hY⟩ : ∃ Y, Y = mxI b d := ⟨_, rfl⟩
  have E : Hid (onB a b c d p q = (decide (x ≤ p) && decide (p ≤ X) && decide (y ≤ q) && decide (q ≤ Y) && (ori a b c d p q == 0))) := Lib.hid (by rw [hx, hX, hy, hY]; rfl)
  have L := lower_any a b c d
  have U := upper_any a b c d
  rw [← hx, ← hy] at L
  rw [← hX, ← hY] at U
  have HL := Lib.hid L
  have HU := Lib.hid U
  clear hx hy hX hY L U
  go_enter Tryz.func42, Tryz.ntmps42
  go_upto_region 1 with fail
  have k0 : (((w.alloc (.cells #[.int .i64 a, .int .i64 b] 23)).alloc (.cells #[.int .i64 c, .int .i64 d] 23)).alloc (.cells #[.int .i64 p, .int .i64 q] 23)).cell? ⟨w.heap.size, 0, none⟩ = some (.int .i64 a) := (cell_alloc (cell_alloc (show (w.alloc (.cells #[.int .i64 a, .int .i64 b] 23)).cell? ⟨w.heap.size, 0, none⟩ = some (.int .i64 a) from cb0 _ _ _ _ rfl) _) _)
  have k1 : (((w.alloc (.cells #[.int .i64 a, .int .i64 b] 23)).alloc (.cells #[.int .i64 c, .int .i64 d] 23)).alloc (.cells #[.int .i64 p, .int .i64 q] 23)).cell? ⟨w.heap.size, 1, none⟩ = some (.int .i64 b) := (cell_alloc (cell_alloc (show (w.alloc (.cells #[.int .i64 a, .int .i64 b] 23)).cell? ⟨w.heap.size, 1, none⟩ = some (.int .i64 b) from cb1 _ _ _ _ rfl) _) _)
  have k2 : (((w.alloc (.cells #[.int .i64 a, .int .i64 b] 23)).alloc (.cells #[.int .i64 c, .int .i64 d] 23)).alloc (.cells #[.int .i64 p, .int .i64 q] 23)).cell? ⟨w.heap.size + 1, 0, none⟩ = some (.int .i64 c) := (cell_alloc (show ((w.alloc (.cells #[.int .i64 a, .int .i64 b] 23)).alloc (.cells #[.int .i64 c, .int .i64 d] 23)).cell? ⟨w.heap.size + 1, 0, none⟩ = some (.int .i64 c) from cb0 _ _ _ _ (by simp)) _)
  have k3 : (((w.alloc (.cells #[.int .i64 a, .int .i64 b] 23)).alloc (.cells #[.int .i64 c, .int .i64 d] 23)).alloc (.cells #[.int .i64 p, .int .i64 q] 23)).cell? ⟨w.heap.size + 1, 1, none⟩ = some (.int .i64 d) := (cell_alloc (show ((w.alloc (.cells #[.int .i64 a, .int .i64 b] 23)).alloc (.cells #[.int .i64 c, .int .i64 d] 23)).cell? ⟨w.heap.size + 1, 1, none⟩ = some (.int .i64 d) from cb1 _ _ _ _ (by simp)) _)
  have k4 : (((w.alloc (.cells #[.int .i64 a, .int .i64 b] 23)).alloc (.cells #[.int .i64 c, .int .i64 d] 23)).alloc (.cells #[.int .i64 p, .int .i64 q] 23)).cell? ⟨w.heap.size + 1 + 1, 0, none⟩ = some (.int .i64 p) := (show (((w.alloc (.cells #[.int .i64 a, .int .i64 b] 23)).alloc (.cells #[.int .i64 c, .int .i64 d] 23)).alloc (.cells #[.int .i64 p, .int .i64 q] 23)).cell? ⟨w.heap.size + 1 + 1, 0, none⟩ = some (.int .i64 p) from cb0 _ _ _ _ (by simp))
  have k5 : (((w.alloc (.cells #[.int .i64 a, .int .i64 b] 23)).alloc (.cells #[.int .i64 c, .int .i64 d] 23)).alloc (.cells #[.int .i64 p, .int .i64 q] 23)).cell? ⟨w.heap.size + 1 + 1, 1, none⟩ = some (.int .i64 q) := (show (((w.alloc (.cells #[.int .i64 a, .int .i64 b] 23)).alloc (.cells #[.int .i64 c, .int .i64 d] 23)).alloc (.cells #[.int .i64 p, .int .i64 q] 23)).cell? ⟨w.heap.size + 1 + 1, 1, none⟩ = some (.int .i64 q) from cb1 _ _ _ _ (by simp))
  have hB : Below w.heap.size w (((w.alloc (.cells #[.int .i64 a, .int .i64 b] 23)).alloc (.cells #[.int .i64 c, .int .i64 d] 23)).alloc (.cells #[.int .i64 p, .int .i64 q] 23)) := ((((Below.refl _ _).alloc (Nat.le_refl _) _).alloc (by first | omega | (simp; done) | (simp; omega)) _).alloc (by first | omega | (simp; done) | (simp; omega)) _)
  have z0 : w.heap.size + 1 + 1 < (((w.alloc (.cells #[.int .i64 a, .int .i64 b] 23)).alloc (.cells #[.int .i64 c, .int .i64 d] 23)).alloc (.cells #[.int .i64 p, .int .i64 q] 23)).heap.size := by first | omega | (simp; done) | (simp; omega)
  generalize (((w.alloc (.cells #[.int .i64 a, .int .i64 b] 23)).alloc (.cells #[.int .i64 c, .int .i64 d] 23)).alloc (.cells #[.int .i64 p, .int .i64 q] 23)) = w3 at *
  have hS : Hid (∀ w', Below w3.heap.size w3 w' → w'.cell? ⟨w.heap.size, 0, none⟩ = some (.int .i64 a) ∧ w'.cell? ⟨w.heap.size, 1, none⟩ = some (.int .i64 b) ∧ w'.cell? ⟨w.heap.size + 1, 0, none⟩ = some (.int .i64 c) ∧ w'.cell? ⟨w.heap.size + 1, 1, none⟩ = some (.int .i64 d) ∧ w'.cell? ⟨w.heap.size + 1 + 1, 0, none⟩ = some (.int .i64 p) ∧ w'.cell? ⟨w.heap.size + 1 + 1, 1, none⟩ = some (.int .i64 q) ∧ Below w3.heap.size w3 w') := Lib.hid (fun w' h => ⟨cell_call k0 h, cell_call k1 h, cell_call k2 h, cell_call k3 h, cell_call k4 h, cell_call k5 h, h⟩)
  have b3 : Below w3.heap.size w3 w3 := Below.refl _ _
  go_cut [7, 8] (fun s7 s8 wx => ∃ g h : Nat, s7 = .pointer (some ⟨g, 0, none⟩) ∧ s8 = .pointer (some ⟨h, 0, none⟩) ∧ wx.cell? ⟨g, 0, none⟩ = some (.int .i64 x) ∧ wx.cell? ⟨g, 1, none⟩ = some (.int .i64 y) ∧ wx.cell? ⟨h, 0, none⟩ = some (.int .i64 X) ∧ wx.cell? ⟨h, 1, none⟩ = some (.int .i64 Y) ∧ Below w3.heap.size w3 wx)
  case first =>
    clear ha hb hc hd hp hq
    go_region_held3 (fun w' => w'.cell? ⟨w.heap.size, 0, none⟩ = some (.int .i64 a) ∧ w'.cell? ⟨w.heap.size, 1, none⟩ = some (.int .i64 b) ∧ w'.cell? ⟨w.heap.size + 1, 0, none⟩ = some (.int .i64 c) ∧ w'.cell? ⟨w.heap.size + 1, 1, none⟩ = some (.int .i64 d) ∧ w'.cell? ⟨w.heap.size + 1 + 1, 0, none⟩ = some (.int .i64 p) ∧ w'.cell? ⟨w.heap.size + 1 + 1, 1, none⟩ = some (.int .i64 q) ∧ Below w3.heap.size w3 w')
      ((go_split_ands; refine hS.out _ ?_; repeat (first | exact hb8 | assumption | apply Below.drew | (with_reducible refine belA ?_ _) | (with_reducible refine belS ?_ (by first | assumption | exact Nat.le_refl _ | exact Nat.le_succ _ | exact Nat.le_succ_of_le (by assumption)) _))))
      (first | (go_at_call 77; (first | (with_reducible refine (HL.out _).mono ?_)); rintro e w9 ⟨rfl, hb9⟩; have hb8 : Below w3.heap.size w3 w9 := belT (by go_split_ands; repeat (first | assumption | apply Below.drew | (with_reducible refine belA ?_ _))) hb9; have hz8 : w3.heap.size ≤ w9.heap.size := hb8.size; obtain ⟨hc9, hf9⟩ := bcell hb9; have hs9 := hb9.size; (try simp at hs9); (try have hs9b := Nat.lt_of_succ_le hs9); (try have hs9c := Nat.lt_of_succ_lt hs9b); (try have hs9d : w3.heap.size < w9.heap.size := by omega); (try have hs9e : w3.heap.size + 1 < w9.heap.size := by omega)) | (go_at_call 78; (first | (with_reducible refine (HU.out _).mono ?_)); rintro e w9 ⟨rfl, hb9⟩; have hb8 : Below w3.heap.size w3 w9 := belT (by go_split_ands; repeat (first | assumption | apply Below.drew | (with_reducible refine belA ?_ _))) hb9; have hz8 : w3.heap.size ≤ w9.heap.size := hb8.size; obtain ⟨hc9, hf9⟩ := bcell hb9; have hs9 := hb9.size; (try simp at hs9); (try have hs9b := Nat.lt_of_succ_le hs9); (try have hs9c := Nat.lt_of_succ_lt hs9b); (try have hs9d : w3.heap.size < w9.heap.size := by omega); (try have hs9e : w3.heap.size + 1 < w9.heap.size := by omega)))
    all_goals
      rename_i hH
      obtain ⟨_, _, _, _, _, _, bz⟩ := hH
      have fin := Lib.hid bz
      clear bz hS b3
      go_wp2_with fail
      go_meet
      refine ⟨_, _, rfl, rfl, ?_, ?_, ?_, ?_, fin.out⟩
      all_goals (first | rfl | (go_simp; done) | (go_simp; refine setc (x := .int .i64 0) ?_ _; go_simp; done))
  case rest =>
    obtain ⟨g, h, rfl, rfl, c1, c2, c3, c4, hB2⟩ := hcut
    have hB3 := Lib.hid (hB.trans (hB2.mono hB.size))
    have k0' := cell_call k0 hB2
    have k1' := cell_call k1 hB2
    have k2' := cell_call k2 hB2
    have k3' := cell_call k3 hB2
    have k4' := cell_call k4 hB2
    have k5' := cell_call k5 hB2
    clear hB hS b3 z0 k0 k1 k2 k3 k4 k5 hB2 HL HU
    go_wp2_with (go_at_call 71; refine (orient_any a b c d p q _ ha hb hc hd hp hq).mono ?_; rintro e w4 ⟨rfl, hb4⟩)
    go_ways
    all_goals
      go_ret
      refine ⟨ret_bool ?_, ?_⟩
      · rw [E.out]; simp [*]; try (intros; omega)
      · first | exact hB3.out | exact hB3.out.trans (hb4.mono hB3.out.size)
end Go.Proofs.YtalhkcmlacppjaaGreatDoor


namespace Go.Proofs.YtalhkcmlacppjaaGreatDoor
open Go.ChangeShapes Go.WideShapes Go.ChangeAt Go.RowKit

theorem cbx (w : World) (vs : Array Value) (T : TypeId) (n j : Nat) (v : Value) (h : w.heap.size = n) (hj : vs[j]? = some v) : (w.alloc (.cells vs T)).cell? ⟨n, j, none⟩ = some v := by
  subst h
  simp [hj]
/-- Do the points lie on opposite sides? -/
def oppB (x y : Int) : Bool := decide (x * y < 0)

set_option maxHeartbeats 2000000 in
theorem clos_true (a b c d p q r s : Int) (w : World) (g h : Nat) (ia : InR a) (ib : InR b) (ic : InR c) (id : InR d) (ip : InR p) (iq : InR q) (ir : InR r) (is : InR s) (k1 : w.cell? ⟨g, 0, none⟩ = some (.int .i64 a)) (k2 : w.cell? ⟨g, 1, none⟩ = some (.int .i64 b)) (k3 : w.cell? ⟨h, 0, none⟩ = some (.int .i64 c)) (k4 : w.cell? ⟨h, 1, none⟩ = some (.int .i64 d)) (T : Hid (onB a b c d p q = true)) :
    Calls Tryz.prog 109 #[.agg #[.int .i64 p, .int .i64 q], .agg #[.int .i64 r, .int .i64 s], .pointer (some ⟨g, 0, none⟩), .pointer (some ⟨h, 0, none⟩)] w fun e w' => e = .returned (.tuple #[.bool (true), .bool (oppB (ori a b c d p q) (ori a b c d r s))]) ∧ Below w.heap.size w w' := by
  have O1 := onseg_any a b c d p q
  rw [T.out] at O1
  have HO := Lib.hid O1
  clear O1
  obtain ⟨o1, ho1⟩ : ∃ x, x = ori a b c d p q := ⟨_, rfl⟩
  obtain ⟨o2, ho2⟩ : ∃ x, x = ori a b c d r s := ⟨_, rfl⟩
  obtain ⟨e1, e2⟩ : -1 ≤ o1 ∧ o1 ≤ 1 := by rw [ho1]; exact cmpI_bd _ _
  obtain ⟨e3, e4⟩ : -1 ≤ o2 ∧ o2 ≤ 1 := by rw [ho2]; exact cmpI_bd _ _
  obtain ⟨m1, m2⟩ := mul_bd (x := o1) (c := o2) (B := 1) (C := 1) ⟨e1, e2⟩ ⟨e3, e4⟩
  have R1 := fun w => orient_any a b c d p q w ia ib ic id ip iq
  have R2 := fun w => orient_any a b c d r s w ia ib ic id ir is
  rw [← ho1] at R1 ⊢
  rw [← ho2] at R2 ⊢
  have H1 := Lib.hid R1
  have H2 := Lib.hid R2
  have MW : Hid (IntKind.i64.wrap (o1 * o2) = o1 * o2) := Lib.hid (IntWalk.i64_in _ (by omega))
  clear ho1 ho2 R1 R2 m1 m2 e1 e2 e3 e4
  have hB : Below w.heap.size w w := Below.refl _ _
  have zk1 := World.block_lt_of_cell? w _ k1
  have zk3 := World.block_lt_of_cell? w _ k3
  go_enter Tryz.func109, Tryz.ntmps109
  go_wp2_with fail
  refine (HO.out _ ia ib ic id ip iq).mono ?_; rintro e w1 ⟨rfl, hb⟩
  replace k1 : w1.cell? ⟨g, 0, none⟩ = some (.int .i64 a) := cell_call (cell_alloc (cell_alloc k1 _) _) hb
  replace k2 : w1.cell? ⟨g, 1, none⟩ = some (.int .i64 b) := cell_call (cell_alloc (cell_alloc k2 _) _) hb
  replace k3 : w1.cell? ⟨h, 0, none⟩ = some (.int .i64 c) := cell_call (cell_alloc (cell_alloc k3 _) _) hb
  replace k4 : w1.cell? ⟨h, 1, none⟩ = some (.int .i64 d) := cell_call (cell_alloc (cell_alloc k4 _) _) hb
  have k5 : w1.cell? ⟨w.heap.size, 0, none⟩ = some (.int .i64 p) := cell_call (cell_alloc (cbx w #[.int .i64 p, .int .i64 q] 23 (w.heap.size) 0 (.int .i64 p) (by simp) rfl) _) hb
  have k6 : w1.cell? ⟨w.heap.size, 1, none⟩ = some (.int .i64 q) := cell_call (cell_alloc (cbx w #[.int .i64 p, .int .i64 q] 23 (w.heap.size) 1 (.int .i64 q) (by simp) rfl) _) hb
  have k7 : w1.cell? ⟨w.heap.size + 1, 0, none⟩ = some (.int .i64 r) := cell_call (cbx (w.alloc (.cells #[.int .i64 p, .int .i64 q] 23)) #[.int .i64 r, .int .i64 s] 23 (w.heap.size + 1) 0 (.int .i64 r) (by simp) rfl) hb
  have k8 : w1.cell? ⟨w.heap.size + 1, 1, none⟩ = some (.int .i64 s) := cell_call (cbx (w.alloc (.cells #[.int .i64 p, .int .i64 q] 23)) #[.int .i64 r, .int .i64 s] 23 (w.heap.size + 1) 1 (.int .i64 s) (by simp) rfl) hb
  replace hB := belT (belA (belA hB _) _) hb
  clear hb
  have zk1 : g < w1.heap.size := World.block_lt_of_cell? w1 _ k1
  have zk3 : h < w1.heap.size := World.block_lt_of_cell? w1 _ k3
  have zk5 : w.heap.size < w1.heap.size := World.block_lt_of_cell? w1 _ k5
  have zk7 : w.heap.size + 1 < w1.heap.size := World.block_lt_of_cell? w1 _ k7
  go_wp2_with fail
  clear HO ia ib ic id ip iq ir is T
  have hS : Hid (∀ w', Below w1.heap.size w1 w' → w'.cell? ⟨g, 0, none⟩ = some (.int .i64 a) ∧ w'.cell? ⟨g, 1, none⟩ = some (.int .i64 b) ∧ w'.cell? ⟨h, 0, none⟩ = some (.int .i64 c) ∧ w'.cell? ⟨h, 1, none⟩ = some (.int .i64 d) ∧ w'.cell? ⟨w.heap.size, 0, none⟩ = some (.int .i64 p) ∧ w'.cell? ⟨w.heap.size, 1, none⟩ = some (.int .i64 q) ∧ w'.cell? ⟨w.heap.size + 1, 0, none⟩ = some (.int .i64 r) ∧ w'.cell? ⟨w.heap.size + 1, 1, none⟩ = some (.int .i64 s) ∧ Below w1.heap.size w1 w') := Lib.hid (fun w' h => ⟨cell_call k1 h, cell_call k2 h, cell_call k3 h, cell_call k4 h, cell_call k5 h, cell_call k6 h, cell_call k7 h, cell_call k8 h, h⟩)
  have b3 : Below w1.heap.size w1 w1 := Below.refl _ _
  go_region_held3 (fun w' => w'.cell? ⟨g, 0, none⟩ = some (.int .i64 a) ∧ w'.cell? ⟨g, 1, none⟩ = some (.int .i64 b) ∧ w'.cell? ⟨h, 0, none⟩ = some (.int .i64 c) ∧ w'.cell? ⟨h, 1, none⟩ = some (.int .i64 d) ∧ w'.cell? ⟨w.heap.size, 0, none⟩ = some (.int .i64 p) ∧ w'.cell? ⟨w.heap.size, 1, none⟩ = some (.int .i64 q) ∧ w'.cell? ⟨w.heap.size + 1, 0, none⟩ = some (.int .i64 r) ∧ w'.cell? ⟨w.heap.size + 1, 1, none⟩ = some (.int .i64 s) ∧ Below w1.heap.size w1 w')
    ((go_split_ands; refine hS.out _ ?_; repeat (first | exact hb8 | assumption | apply Below.drew | (with_reducible refine belA ?_ _) | (with_reducible refine belS ?_ (by first | assumption | exact Nat.le_refl _ | exact Nat.le_succ _ | exact Nat.le_succ_of_le (by assumption)) _))))
    (first | (go_at_call 71; (first | (with_reducible refine (H1.out _).mono ?_) | (with_reducible refine (H2.out _).mono ?_)); rintro e w9 ⟨rfl, hb9⟩; have hb8 : Below w1.heap.size w1 w9 := belT (by go_split_ands; repeat (first | assumption | apply Below.drew | (with_reducible refine belA ?_ _))) hb9))
  rename_i hH
  obtain ⟨_, _, _, _, _, _, _, _, bz⟩ := hH
  have fin := Lib.hid (hB.trans (bz.mono hB.size))
  clear bz hS
  go_wp2_with fail
  go_ret2
  exact ⟨ret_two rfl (by rw [MW.out]; rfl), fin.out⟩

set_option maxHeartbeats 2000000 in
theorem clos_false (a b c d p q r s : Int) (w : World) (g h : Nat) (ia : InR a) (ib : InR b) (ic : InR c) (id : InR d) (ip : InR p) (iq : InR q) (ir : InR r) (is : InR s) (k1 : w.cell? ⟨g, 0, none⟩ = some (.int .i64 a)) (k2 : w.cell? ⟨g, 1, none⟩ = some (.int .i64 b)) (k3 : w.cell? ⟨h, 0, none⟩ = some (.int .i64 c)) (k4 : w.cell? ⟨h, 1, none⟩ = some (.int .i64 d)) (T : Hid (onB a b c d p q = false)) :
    Calls Tryz.prog 109 #[.agg #[.int .i64 p, .int .i64 q], .agg #[.int .i64 r, .int .i64 s], .pointer (some ⟨g, 0, none⟩), .pointer (some ⟨h, 0, none⟩)] w fun e w' => e = .returned (.tuple #[.bool (onB a b c d r s), .bool (oppB (ori a b c d p q) (ori a b c d r s))]) ∧ Below w.heap.size w w' := by
  have O1 := onseg_any a b c d p q
  rw [T.out] at O1
  have HO := Lib.hid O1
  clear O1
  obtain ⟨o1, ho1⟩ : ∃ x, x = ori a b c d p q := ⟨_, rfl⟩
  obtain ⟨o2, ho2⟩ : ∃ x, x = ori a b c d r s := ⟨_, rfl⟩
  obtain ⟨e1, e2⟩ : -1 ≤ o1 ∧ o1 ≤ 1 := by rw [ho1]; exact cmpI_bd _ _
  obtain ⟨e3, e4⟩ : -1 ≤ o2 ∧ o2 ≤ 1 := by rw [ho2]; exact cmpI_bd _ _
  obtain ⟨m1, m2⟩ := mul_bd (x := o1) (c := o2) (B := 1) (C := 1) ⟨e1, e2⟩ ⟨e3, e4⟩
  have R1 := fun w => orient_any a b c d p q w ia ib ic id ip iq
  have R2 := fun w => orient_any a b c d r s w ia ib ic id ir is
  rw [← ho1] at R1 ⊢
  rw [← ho2] at R2 ⊢
  have H1 := Lib.hid R1
  have H2 := Lib.hid R2
  have MW : Hid (IntKind.i64.wrap (o1 * o2) = o1 * o2) := Lib.hid (IntWalk.i64_in _ (by omega))
  clear ho1 ho2 R1 R2 m1 m2 e1 e2 e3 e4
  have hB : Below w.heap.size w w := Below.refl _ _
  have zk1 := World.block_lt_of_cell? w _ k1
  have zk3 := World.block_lt_of_cell? w _ k3
  go_enter Tryz.func109, Tryz.ntmps109
  go_wp2_with fail
  refine (HO.out _ ia ib ic id ip iq).mono ?_; rintro e w1 ⟨rfl, hb⟩
  replace k1 : w1.cell? ⟨g, 0, none⟩ = some (.int .i64 a) := cell_call (cell_alloc (cell_alloc k1 _) _) hb
  replace k2 : w1.cell? ⟨g, 1, none⟩ = some (.int .i64 b) := cell_call (cell_alloc (cell_alloc k2 _) _) hb
  replace k3 : w1.cell? ⟨h, 0, none⟩ = some (.int .i64 c) := cell_call (cell_alloc (cell_alloc k3 _) _) hb
  replace k4 : w1.cell? ⟨h, 1, none⟩ = some (.int .i64 d) := cell_call (cell_alloc (cell_alloc k4 _) _) hb
  have k5 : w1.cell? ⟨w.heap.size, 0, none⟩ = some (.int .i64 p) := cell_call (cell_alloc (cbx w #[.int .i64 p, .int .i64 q] 23 (w.heap.size) 0 (.int .i64 p) (by simp) rfl) _) hb
  have k6 : w1.cell? ⟨w.heap.size, 1, none⟩ = some (.int .i64 q) := cell_call (cell_alloc (cbx w #[.int .i64 p, .int .i64 q] 23 (w.heap.size) 1 (.int .i64 q) (by simp) rfl) _) hb
  have k7 : w1.cell? ⟨w.heap.size + 1, 0, none⟩ = some (.int .i64 r) := cell_call (cbx (w.alloc (.cells #[.int .i64 p, .int .i64 q] 23)) #[.int .i64 r, .int .i64 s] 23 (w.heap.size + 1) 0 (.int .i64 r) (by simp) rfl) hb
  have k8 : w1.cell? ⟨w.heap.size + 1, 1, none⟩ = some (.int .i64 s) := cell_call (cbx (w.alloc (.cells #[.int .i64 p, .int .i64 q] 23)) #[.int .i64 r, .int .i64 s] 23 (w.heap.size + 1) 1 (.int .i64 s) (by simp) rfl) hb
  replace hB := belT (belA (belA hB _) _) hb
  clear hb
  have zk1 : g < w1.heap.size := World.block_lt_of_cell? w1 _ k1
  have zk3 : h < w1.heap.size := World.block_lt_of_cell? w1 _ k3
  have zk5 : w.heap.size < w1.heap.size := World.block_lt_of_cell? w1 _ k5
  have zk7 : w.heap.size + 1 < w1.heap.size := World.block_lt_of_cell? w1 _ k7
  go_wp2_with fail
  refine (onseg_any a b c d r s _ ia ib ic id ir is).mono ?_; rintro e w2 ⟨rfl, hb⟩
  replace k1 : w2.cell? ⟨g, 0, none⟩ = some (.int .i64 a) := cell_call k1 hb
  replace k2 : w2.cell? ⟨g, 1, none⟩ = some (.int .i64 b) := cell_call k2 hb
  replace k3 : w2.cell? ⟨h, 0, none⟩ = some (.int .i64 c) := cell_call k3 hb
  replace k4 : w2.cell? ⟨h, 1, none⟩ = some (.int .i64 d) := cell_call k4 hb
  replace k5 : w2.cell? ⟨w.heap.size, 0, none⟩ = some (.int .i64 p) := cell_call k5 hb
  replace k6 : w2.cell? ⟨w.heap.size, 1, none⟩ = some (.int .i64 q) := cell_call k6 hb
  replace k7 : w2.cell? ⟨w.heap.size + 1, 0, none⟩ = some (.int .i64 r) := cell_call k7 hb
  replace k8 : w2.cell? ⟨w.heap.size + 1, 1, none⟩ = some (.int .i64 s) := cell_call k8 hb
  replace hB := belT hB hb
  clear hb
  replace zk1 : g < w2.heap.size := World.block_lt_of_cell? w2 _ k1
  replace zk3 : h < w2.heap.size := World.block_lt_of_cell? w2 _ k3
  replace zk5 : w.heap.size < w2.heap.size := World.block_lt_of_cell? w2 _ k5
  replace zk7 : w.heap.size + 1 < w2.heap.size := World.block_lt_of_cell? w2 _ k7
  go_wp2_with fail
  clear HO ia ib ic id ip iq ir is T
  have hS : Hid (∀ w', Below w2.heap.size w2 w' → w'.cell? ⟨g, 0, none⟩ = some (.int .i64 a) ∧ w'.cell? ⟨g, 1, none⟩ = some (.int .i64 b) ∧ w'.cell? ⟨h, 0, none⟩ = some (.int .i64 c) ∧ w'.cell? ⟨h, 1, none⟩ = some (.int .i64 d) ∧ w'.cell? ⟨w.heap.size, 0, none⟩ = some (.int .i64 p) ∧ w'.cell? ⟨w.heap.size, 1, none⟩ = some (.int .i64 q) ∧ w'.cell? ⟨w.heap.size + 1, 0, none⟩ = some (.int .i64 r) ∧ w'.cell? ⟨w.heap.size + 1, 1, none⟩ = some (.int .i64 s) ∧ Below w2.heap.size w2 w') := Lib.hid (fun w' h => ⟨cell_call k1 h, cell_call k2 h, cell_call k3 h, cell_call k4 h, cell_call k5 h, cell_call k6 h, cell_call k7 h, cell_call k8 h, h⟩)
  have b3 : Below w2.heap.size w2 w2 := Below.refl _ _
  go_region_held3 (fun w' => w'.cell? ⟨g, 0, none⟩ = some (.int .i64 a) ∧ w'.cell? ⟨g, 1, none⟩ = some (.int .i64 b) ∧ w'.cell? ⟨h, 0, none⟩ = some (.int .i64 c) ∧ w'.cell? ⟨h, 1, none⟩ = some (.int .i64 d) ∧ w'.cell? ⟨w.heap.size, 0, none⟩ = some (.int .i64 p) ∧ w'.cell? ⟨w.heap.size, 1, none⟩ = some (.int .i64 q) ∧ w'.cell? ⟨w.heap.size + 1, 0, none⟩ = some (.int .i64 r) ∧ w'.cell? ⟨w.heap.size + 1, 1, none⟩ = some (.int .i64 s) ∧ Below w2.heap.size w2 w')
    ((go_split_ands; refine hS.out _ ?_; repeat (first | exact hb8 | assumption | apply Below.drew | (with_reducible refine belA ?_ _) | (with_reducible refine belS ?_ (by first | assumption | exact Nat.le_refl _ | exact Nat.le_succ _ | exact Nat.le_succ_of_le (by assumption)) _))))
    (first | (go_at_call 71; (first | (with_reducible refine (H1.out _).mono ?_) | (with_reducible refine (H2.out _).mono ?_)); rintro e w9 ⟨rfl, hb9⟩; have hb8 : Below w2.heap.size w2 w9 := belT (by go_split_ands; repeat (first | assumption | apply Below.drew | (with_reducible refine belA ?_ _))) hb9))
  rename_i hH
  obtain ⟨_, _, _, _, _, _, _, _, bz⟩ := hH
  have fin := Lib.hid (hB.trans (bz.mono hB.size))
  clear bz hS
  go_wp2_with fail
  go_ret2
  exact ⟨ret_two rfl (by rw [MW.out]; rfl), fin.out⟩

theorem clos_any (a b c d p q r s : Int) (w : World) (g h : Nat) (ia : InR a) (ib : InR b) (ic : InR c) (id : InR d) (ip : InR p) (iq : InR q) (ir : InR r) (is : InR s) (k1 : w.cell? ⟨g, 0, none⟩ = some (.int .i64 a)) (k2 : w.cell? ⟨g, 1, none⟩ = some (.int .i64 b)) (k3 : w.cell? ⟨h, 0, none⟩ = some (.int .i64 c)) (k4 : w.cell? ⟨h, 1, none⟩ = some (.int .i64 d)) :
    Calls Tryz.prog 109 #[.agg #[.int .i64 p, .int .i64 q], .agg #[.int .i64 r, .int .i64 s], .pointer (some ⟨g, 0, none⟩), .pointer (some ⟨h, 0, none⟩)] w fun e w' => e = .returned (.tuple #[.bool (onB a b c d p q || onB a b c d r s), .bool (oppB (ori a b c d p q) (ori a b c d r s))]) ∧ Below w.heap.size w w' := by
  cases T : onB a b c d p q
  · rw [Bool.false_or]; exact clos_false a b c d p q r s w g h ia ib ic id ip iq ir is k1 k2 k3 k4 (Lib.hid T)
  · rw [Bool.true_or]; exact clos_true a b c d p q r s w g h ia ib ic id ip iq ir is k1 k2 k3 k4 (Lib.hid T)

theorem relto_any (a b c d : Int) (w : World) :
    Calls Tryz.prog 97 #[.agg #[.int .i64 a, .int .i64 b], .agg #[.int .i64 c, .int .i64 d]] w fun e w' => (∃ g h : Nat, e = .returned (.func (.func 109) #[] #[.pointer (some ⟨g, 0, none⟩), .pointer (some ⟨h, 0, none⟩)]) ∧ w'.cell? ⟨g, 0, none⟩ = some (.int .i64 a) ∧ w'.cell? ⟨g, 1, none⟩ = some (.int .i64 b) ∧ w'.cell? ⟨h, 0, none⟩ = some (.int .i64 c) ∧ w'.cell? ⟨h, 1, none⟩ = some (.int .i64 d)) ∧ Below w.heap.size w w' := by
  go_enter Tryz.func97, Tryz.ntmps97
  go_wp2
  go_ret
  refine ⟨⟨w.heap.size, w.heap.size + 1, rfl, cell_alloc (cbx _ _ _ _ 0 _ rfl rfl) _, cell_alloc (cbx _ _ _ _ 1 _ rfl rfl) _, cbx _ _ _ _ 0 _ (by simp) rfl, cbx _ _ _ _ 1 _ (by simp) rfl⟩, belA (belA (Below.refl _ _) _) _⟩

def segB (a b c d p q r s : Int) : Bool := (onB a b c d p q || onB a b c d r s) || (onB p q r s a b || onB p q r s c d) || (oppB (ori a b c d p q) (ori a b c d r s) && oppB (ori p q r s a b) (ori p q r s c d))

set_option maxHeartbeats 2000000 in
theorem cross_any (a b c d p q r s : Int) (w : World) (ia : InR a) (ib : InR b) (ic : InR c) (id : InR d) (ip : InR p) (iq : InR q) (ir : InR r) (is : InR s) :
    Calls Tryz.prog 73 #[.agg #[.int .i64 a, .int .i64 b], .agg #[.int .i64 c, .int .i64 d], .agg #[.int .i64 p, .int .i64 q], .agg #[.int .i64 r, .int .i64 s]] w fun e w' => e = .returned (.bool (segB a b c d p q r s)) ∧ Below w.heap.size w w' := by
  have C1 := fun w g h => clos_any a b c d p q r s w g h ia ib ic id ip iq ir is
  have C2 := fun w g h => clos_any p q r s a b c d w g h ip iq ir is ia ib ic id
  obtain ⟨t1, ht1⟩ : ∃ x, x = (onB a b c d p q || onB a b c d r s) := ⟨_, rfl⟩
  obtain ⟨t2, ht2⟩ : ∃ x, x = (onB p q r s a b || onB p q r s c d) := ⟨_, rfl⟩
  obtain ⟨x1, hx1⟩ : ∃ x, x = oppB (ori a b c d p q) (ori a b c d r s) := ⟨_, rfl⟩
  obtain ⟨x2, hx2⟩ : ∃ x, x = oppB (ori p q r s a b) (ori p q r s c d) := ⟨_, rfl⟩
  have E : Hid (segB a b c d p q r s = ((t1 || t2) || (x1 && x2))) := Lib.hid (by rw [ht1, ht2, hx1, hx2]; rfl)
  rw [← ht1, ← hx1] at C1
  rw [← ht2, ← hx2] at C2
  have H1 := Lib.hid C1
  have H2 := Lib.hid C2
  clear ht1 ht2 hx1 hx2 C1 C2 ia ib ic id ip iq ir is
  have hB : Below w.heap.size w w := Below.refl _ _
  go_enter Tryz.func73, Tryz.ntmps73
  go_wp2_with fail
  have k1 : ((((w.alloc (.cells #[.int .i64 a, .int .i64 b] 23)).alloc (.cells #[.int .i64 c, .int .i64 d] 23)).alloc (.cells #[.int .i64 p, .int .i64 q] 23)).alloc (.cells #[.int .i64 r, .int .i64 s] 23)).cell? ⟨w.heap.size, 0, none⟩ = some (.int .i64 a) := (cell_alloc (cell_alloc (cell_alloc (cbx w #[.int .i64 a, .int .i64 b] 23 (w.heap.size) 0 (.int .i64 a) (by simp) rfl) _) _) _)
  have k2 : ((((w.alloc (.cells #[.int .i64 a, .int .i64 b] 23)).alloc (.cells #[.int .i64 c, .int .i64 d] 23)).alloc (.cells #[.int .i64 p, .int .i64 q] 23)).alloc (.cells #[.int .i64 r, .int .i64 s] 23)).cell? ⟨w.heap.size, 1, none⟩ = some (.int .i64 b) := (cell_alloc (cell_alloc (cell_alloc (cbx w #[.int .i64 a, .int .i64 b] 23 (w.heap.size) 1 (.int .i64 b) (by simp) rfl) _) _) _)
  have k3 : ((((w.alloc (.cells #[.int .i64 a, .int .i64 b] 23)).alloc (.cells #[.int .i64 c, .int .i64 d] 23)).alloc (.cells #[.int .i64 p, .int .i64 q] 23)).alloc (.cells #[.int .i64 r, .int .i64 s] 23)).cell? ⟨w.heap.size + 1, 0, none⟩ = some (.int .i64 c) := (cell_alloc (cell_alloc (cbx (w.alloc (.cells #[.int .i64 a, .int .i64 b] 23)) #[.int .i64 c, .int .i64 d] 23 (w.heap.size + 1) 0 (.int .i64 c) (by simp) rfl) _) _)
  have k4 : ((((w.alloc (.cells #[.int .i64 a, .int .i64 b] 23)).alloc (.cells #[.int .i64 c, .int .i64 d] 23)).alloc (.cells #[.int .i64 p, .int .i64 q] 23)).alloc (.cells #[.int .i64 r, .int .i64 s] 23)).cell? ⟨w.heap.size + 1, 1, none⟩ = some (.int .i64 d) := (cell_alloc (cell_alloc (cbx (w.alloc (.cells #[.int .i64 a, .int .i64 b] 23)) #[.int .i64 c, .int .i64 d] 23 (w.heap.size + 1) 1 (.int .i64 d) (by simp) rfl) _) _)
  have k5 : ((((w.alloc (.cells #[.int .i64 a, .int .i64 b] 23)).alloc (.cells #[.int .i64 c, .int .i64 d] 23)).alloc (.cells #[.int .i64 p, .int .i64 q] 23)).alloc (.cells #[.int .i64 r, .int .i64 s] 23)).cell? ⟨w.heap.size + 1 + 1, 0, none⟩ = some (.int .i64 p) := (cell_alloc (cbx ((w.alloc (.cells #[.int .i64 a, .int .i64 b] 23)).alloc (.cells #[.int .i64 c, .int .i64 d] 23)) #[.int .i64 p, .int .i64 q] 23 (w.heap.size + 1 + 1) 0 (.int .i64 p) (by simp) rfl) _)
  have k6 : ((((w.alloc (.cells #[.int .i64 a, .int .i64 b] 23)).alloc (.cells #[.int .i64 c, .int .i64 d] 23)).alloc (.cells #[.int .i64 p, .int .i64 q] 23)).alloc (.cells #[.int .i64 r, .int .i64 s] 23)).cell? ⟨w.heap.size + 1 + 1, 1, none⟩ = some (.int .i64 q) := (cell_alloc (cbx ((w.alloc (.cells #[.int .i64 a, .int .i64 b] 23)).alloc (.cells #[.int .i64 c, .int .i64 d] 23)) #[.int .i64 p, .int .i64 q] 23 (w.heap.size + 1 + 1) 1 (.int .i64 q) (by simp) rfl) _)
  have k7 : ((((w.alloc (.cells #[.int .i64 a, .int .i64 b] 23)).alloc (.cells #[.int .i64 c, .int .i64 d] 23)).alloc (.cells #[.int .i64 p, .int .i64 q] 23)).alloc (.cells #[.int .i64 r, .int .i64 s] 23)).cell? ⟨w.heap.size + 1 + 1 + 1, 0, none⟩ = some (.int .i64 r) := (cbx (((w.alloc (.cells #[.int .i64 a, .int .i64 b] 23)).alloc (.cells #[.int .i64 c, .int .i64 d] 23)).alloc (.cells #[.int .i64 p, .int .i64 q] 23)) #[.int .i64 r, .int .i64 s] 23 (w.heap.size + 1 + 1 + 1) 0 (.int .i64 r) (by simp) rfl)
  have k8 : ((((w.alloc (.cells #[.int .i64 a, .int .i64 b] 23)).alloc (.cells #[.int .i64 c, .int .i64 d] 23)).alloc (.cells #[.int .i64 p, .int .i64 q] 23)).alloc (.cells #[.int .i64 r, .int .i64 s] 23)).cell? ⟨w.heap.size + 1 + 1 + 1, 1, none⟩ = some (.int .i64 s) := (cbx (((w.alloc (.cells #[.int .i64 a, .int .i64 b] 23)).alloc (.cells #[.int .i64 c, .int .i64 d] 23)).alloc (.cells #[.int .i64 p, .int .i64 q] 23)) #[.int .i64 r, .int .i64 s] 23 (w.heap.size + 1 + 1 + 1) 1 (.int .i64 s) (by simp) rfl)
  replace hB : Below w.heap.size w ((((w.alloc (.cells #[.int .i64 a, .int .i64 b] 23)).alloc (.cells #[.int .i64 c, .int .i64 d] 23)).alloc (.cells #[.int .i64 p, .int .i64 q] 23)).alloc (.cells #[.int .i64 r, .int .i64 s] 23)) := (belA (belA (belA (belA hB _) _) _) _)
  generalize ((((w.alloc (.cells #[.int .i64 a, .int .i64 b] 23)).alloc (.cells #[.int .i64 c, .int .i64 d] 23)).alloc (.cells #[.int .i64 p, .int .i64 q] 23)).alloc (.cells #[.int .i64 r, .int .i64 s] 23)) = w3 at *
  have zk1 : w.heap.size < w3.heap.size := World.block_lt_of_cell? w3 _ k1
  have zk3 : w.heap.size + 1 < w3.heap.size := World.block_lt_of_cell? w3 _ k3
  have zk5 : w.heap.size + 1 + 1 < w3.heap.size := World.block_lt_of_cell? w3 _ k5
  have zk7 : w.heap.size + 1 + 1 + 1 < w3.heap.size := World.block_lt_of_cell? w3 _ k7
  have hS : Hid (∀ w', Below w3.heap.size w3 w' → w'.cell? ⟨w.heap.size, 0, none⟩ = some (.int .i64 a) ∧ w'.cell? ⟨w.heap.size, 1, none⟩ = some (.int .i64 b) ∧ w'.cell? ⟨w.heap.size + 1, 0, none⟩ = some (.int .i64 c) ∧ w'.cell? ⟨w.heap.size + 1, 1, none⟩ = some (.int .i64 d) ∧ w'.cell? ⟨w.heap.size + 1 + 1, 0, none⟩ = some (.int .i64 p) ∧ w'.cell? ⟨w.heap.size + 1 + 1, 1, none⟩ = some (.int .i64 q) ∧ w'.cell? ⟨w.heap.size + 1 + 1 + 1, 0, none⟩ = some (.int .i64 r) ∧ w'.cell? ⟨w.heap.size + 1 + 1 + 1, 1, none⟩ = some (.int .i64 s) ∧ Below w3.heap.size w3 w') := Lib.hid (fun w' h => ⟨cell_call k1 h, cell_call k2 h, cell_call k3 h, cell_call k4 h, cell_call k5 h, cell_call k6 h, cell_call k7 h, cell_call k8 h, h⟩)
  have b3 : Below w3.heap.size w3 w3 := Below.refl _ _
  go_region_held3 (fun w' => w'.cell? ⟨w.heap.size, 0, none⟩ = some (.int .i64 a) ∧ w'.cell? ⟨w.heap.size, 1, none⟩ = some (.int .i64 b) ∧ w'.cell? ⟨w.heap.size + 1, 0, none⟩ = some (.int .i64 c) ∧ w'.cell? ⟨w.heap.size + 1, 1, none⟩ = some (.int .i64 d) ∧ w'.cell? ⟨w.heap.size + 1 + 1, 0, none⟩ = some (.int .i64 p) ∧ w'.cell? ⟨w.heap.size + 1 + 1, 1, none⟩ = some (.int .i64 q) ∧ w'.cell? ⟨w.heap.size + 1 + 1 + 1, 0, none⟩ = some (.int .i64 r) ∧ w'.cell? ⟨w.heap.size + 1 + 1 + 1, 1, none⟩ = some (.int .i64 s) ∧ Below w3.heap.size w3 w')
    ((go_split_ands; refine hS.out _ ?_; repeat (first | exact hb8 | assumption | apply Below.drew | (with_reducible refine belA ?_ _) | (with_reducible refine belS ?_ (by first | assumption | exact Nat.le_refl _ | exact Nat.le_succ _ | exact Nat.le_succ_of_le (by assumption)) _))))
    (first | (go_at_call 97; (first | (with_reducible refine (relto_any a b c d _).mono ?_)); rintro e w9 ⟨⟨g, h, rfl, j1, j2, j3, j4⟩, hb9⟩; have hb8 : Below w3.heap.size w3 w9 := belT (by go_split_ands; repeat (first | assumption | apply Below.drew | (with_reducible refine belA ?_ _))) hb9) | (go_at_call 109; (first | (with_reducible refine (H1.out _ _ _ (by first | assumption | go_simp) (by first | assumption | go_simp) (by first | assumption | go_simp) (by first | assumption | go_simp)).mono ?_)); rintro e w9 ⟨rfl, hb9⟩; have hb8 : Below w3.heap.size w3 w9 := belT (by go_split_ands; repeat (first | assumption | apply Below.drew | (with_reducible refine belA ?_ _))) hb9))
  rename_i hH
  obtain ⟨y1, y2, y3, y4, y5, y6, y7, y8, bz⟩ := hH
  replace hB := hB.trans (bz.mono hB.size)
  clear bz hS b3 k1 k2 k3 k4 k5 k6 k7 k8 zk1 zk3 zk5 zk7 hb9 hb8 j1 j2 j3 j4
  rename World => v4
  go_wp2_with fail
  replace y1 : v4.cell? ⟨w.heap.size, 0, none⟩ = some (.int .i64 a) := y1
  replace y2 : v4.cell? ⟨w.heap.size, 1, none⟩ = some (.int .i64 b) := y2
  replace y3 : v4.cell? ⟨w.heap.size + 1, 0, none⟩ = some (.int .i64 c) := y3
  replace y4 : v4.cell? ⟨w.heap.size + 1, 1, none⟩ = some (.int .i64 d) := y4
  replace y5 : v4.cell? ⟨w.heap.size + 1 + 1, 0, none⟩ = some (.int .i64 p) := y5
  replace y6 : v4.cell? ⟨w.heap.size + 1 + 1, 1, none⟩ = some (.int .i64 q) := y6
  replace y7 : v4.cell? ⟨w.heap.size + 1 + 1 + 1, 0, none⟩ = some (.int .i64 r) := y7
  replace y8 : v4.cell? ⟨w.heap.size + 1 + 1 + 1, 1, none⟩ = some (.int .i64 s) := y8
  replace hB : Below w.heap.size w v4 := hB
  have zy1 : w.heap.size < v4.heap.size := World.block_lt_of_cell? v4 _ y1
  have zy3 : w.heap.size + 1 < v4.heap.size := World.block_lt_of_cell? v4 _ y3
  have zy5 : w.heap.size + 1 + 1 < v4.heap.size := World.block_lt_of_cell? v4 _ y5
  have zy7 : w.heap.size + 1 + 1 + 1 < v4.heap.size := World.block_lt_of_cell? v4 _ y7
  have hS : Hid (∀ w', Below v4.heap.size v4 w' → w'.cell? ⟨w.heap.size, 0, none⟩ = some (.int .i64 a) ∧ w'.cell? ⟨w.heap.size, 1, none⟩ = some (.int .i64 b) ∧ w'.cell? ⟨w.heap.size + 1, 0, none⟩ = some (.int .i64 c) ∧ w'.cell? ⟨w.heap.size + 1, 1, none⟩ = some (.int .i64 d) ∧ w'.cell? ⟨w.heap.size + 1 + 1, 0, none⟩ = some (.int .i64 p) ∧ w'.cell? ⟨w.heap.size + 1 + 1, 1, none⟩ = some (.int .i64 q) ∧ w'.cell? ⟨w.heap.size + 1 + 1 + 1, 0, none⟩ = some (.int .i64 r) ∧ w'.cell? ⟨w.heap.size + 1 + 1 + 1, 1, none⟩ = some (.int .i64 s) ∧ Below v4.heap.size v4 w') := Lib.hid (fun w' h => ⟨cell_call y1 h, cell_call y2 h, cell_call y3 h, cell_call y4 h, cell_call y5 h, cell_call y6 h, cell_call y7 h, cell_call y8 h, h⟩)
  have b3 : Below v4.heap.size v4 v4 := Below.refl _ _
  go_region_held3 (fun w' => w'.cell? ⟨w.heap.size, 0, none⟩ = some (.int .i64 a) ∧ w'.cell? ⟨w.heap.size, 1, none⟩ = some (.int .i64 b) ∧ w'.cell? ⟨w.heap.size + 1, 0, none⟩ = some (.int .i64 c) ∧ w'.cell? ⟨w.heap.size + 1, 1, none⟩ = some (.int .i64 d) ∧ w'.cell? ⟨w.heap.size + 1 + 1, 0, none⟩ = some (.int .i64 p) ∧ w'.cell? ⟨w.heap.size + 1 + 1, 1, none⟩ = some (.int .i64 q) ∧ w'.cell? ⟨w.heap.size + 1 + 1 + 1, 0, none⟩ = some (.int .i64 r) ∧ w'.cell? ⟨w.heap.size + 1 + 1 + 1, 1, none⟩ = some (.int .i64 s) ∧ Below v4.heap.size v4 w')
    ((go_split_ands; refine hS.out _ ?_; repeat (first | exact hb8 | assumption | apply Below.drew | (with_reducible refine belA ?_ _) | (with_reducible refine belS ?_ (by first | assumption | exact Nat.le_refl _ | exact Nat.le_succ _ | exact Nat.le_succ_of_le (by assumption)) _))))
    (first | (go_at_call 97; (first | (with_reducible refine (relto_any p q r s _).mono ?_)); rintro e w9 ⟨⟨g, h, rfl, j1, j2, j3, j4⟩, hb9⟩; have hb8 : Below v4.heap.size v4 w9 := belT (by go_split_ands; repeat (first | assumption | apply Below.drew | (with_reducible refine belA ?_ _))) hb9) | (go_at_call 109; (first | (with_reducible refine (H2.out _ _ _ (by first | assumption | go_simp) (by first | assumption | go_simp) (by first | assumption | go_simp) (by first | assumption | go_simp)).mono ?_)); rintro e w9 ⟨rfl, hb9⟩; have hb8 : Below v4.heap.size v4 w9 := belT (by go_split_ands; repeat (first | assumption | apply Below.drew | (with_reducible refine belA ?_ _))) hb9))
  rename_i hH
  obtain ⟨_, _, _, _, _, _, _, _, bz⟩ := hH
  replace hB := hB.trans (bz.mono hB.size)
  have fin := Lib.hid hB
  clear bz hS b3 hB y1 y2 y3 y4 y5 y6 y7 y8 zy1 zy3 zy5 zy7 hb9 hb8 j1 j2 j3 j4
  cases t1 <;> cases t2 <;> cases x1 <;> cases x2
  all_goals
    go_wp2_with fail
    go_ret
    exact ⟨ret_bool (by rw [E.out]; rfl), fin.out⟩
end Go.Proofs.YtalhkcmlacppjaaGreatDoor


namespace Go.Proofs.YtalhkcmlacppjaaGreatDoor
open Go.ChangeShapes Go.WideShapes Go.ChangeAt Go.RowKit

/-- The slice reads as the list l. -/
def PRow (w : World) (ao : Option Addr) (l : List (Int × Int)) : Prop := ∀ i, i < l.length → ∃ b o, ao = some ⟨b, o, none⟩ ∧ w.cell? ⟨b, o + i * 2, none⟩ = some (.int .i64 (l.getD i (0, 0)).1) ∧ w.cell? ⟨b, o + i * 2 + 1, none⟩ = some (.int .i64 (l.getD i (0, 0)).2)
def foldP (f : Int × Int → Int × Int → Int × Int) : List (Int × Int) → Int × Int
  | [] => (0, 0)
  | x :: r => r.foldl f x
def lowP (x y : Int × Int) : Int × Int := (mnI x.1 y.1, mnI x.2 y.2)
def uppP (x y : Int × Int) : Int × Int := (mxI x.1 y.1, mxI x.2 y.2)
theorem foldP_one (f : Int × Int → Int × Int → Int × Int) (l : List (Int × Int)) (h : 0 < l.length) : foldP f (l.take 1) = l.getD 0 (0, 0) := by
  cases l with
  | nil => simp at h
  | cons x r => simp [foldP]
theorem foldP_succ (f : Int × Int → Int × Int → Int × Int) (l : List (Int × Int)) (k : Nat) (h0 : 0 < k) (h : k < l.length) : foldP f (l.take (k + 1)) = f (foldP f (l.take k)) (l.getD k (0, 0)) := by
  cases l with
  | nil => simp at h
  | cons x r =>
    obtain ⟨k, rfl⟩ : ∃ j, k = j + 1 := ⟨k - 1, by omega⟩
    simp only [List.length_cons, Nat.add_lt_add_iff_right] at h
    simp only [List.take_succ_cons, foldP, List.getD_cons_succ]
    rw [List.take_succ_eq_append_getElem h, List.foldl_append]
    simp [List.getD_eq_getElem?_getD, h]
theorem cbe (w : World) (vs : Array Value) (T : TypeId) (n j : Nat) (v : Value) (h : w.heap.size = n) (hj : vs[j]? = some v) : (w.alloc (.cells vs T)).cell? ⟨n, j, none⟩ = some v := by
  subst h
  simp [hj]
set_option maxHeartbeats 2000000 in
theorem fold_low (ao : Option Addr) (cap : Nat) (l : List (Int × Int)) (w : World) (hl : l.length ≤ 1000000) (hr : PRow w ao l) :
    Calls Tryz.prog 89 #[.slice ao l.length cap, .func (.func 77) #[] #[]] w fun e w' => e = .returned (.agg #[.int .i64 (foldP lowP l).1, .int .i64 (foldP lowP l).2]) ∧ Below w.heap.size w w' := by
  go_enter Tryz.func89, Tryz.ntmps89
  go_wp2
  go_loopw [10] (fun i wr => ∃ (k : Nat) (s1 s2 : Int), k ≤ l.length ∧ i = .int .i64 k ∧ Hid (foldP lowP (l.take k) = (s1, s2)) ∧ wr.cell? ⟨w.heap.size + 1, 0, none⟩ = some (.int .i64 s1) ∧ wr.cell? ⟨w.heap.size + 1, 1, none⟩ = some (.int .i64 s2) ∧ wr.frozen? ⟨w.heap.size + 1, 0, none⟩ = false ∧ wr.frozen? ⟨w.heap.size + 1, 1, none⟩ = false ∧ wr.cell? ⟨w.heap.size, 0, none⟩ = some (.int .i64 0) ∧ wr.cell? ⟨w.heap.size, 1, none⟩ = some (.int .i64 0) ∧ wr.frozen? ⟨w.heap.size, 0, none⟩ = false ∧ wr.frozen? ⟨w.heap.size, 1, none⟩ = false ∧ Below w.heap.size w wr) (fun i _ => l.length - (intOf i).toNat)
  case atStart =>
    refine ⟨0, 0, 0, Nat.zero_le _, rfl, Lib.hid (by simp [foldP]), ?_, ?_, ?_, ?_, ?_, ?_, ?_, ?_, belA (belA (Below.refl _ _) _) _⟩
    all_goals (go_simp; done)
  case round =>
    obtain ⟨k, s1, s2, hk, rfl, hs, k1, k2, f1, f2, k3, k4, f3, f4, hB⟩ := hrel
    have z1 : w.heap.size + 1 < wr.heap.size := World.block_lt_of_cell? wr _ k1
    have z2 : w.heap.size < wr.heap.size := World.block_lt_of_cell? wr _ k3
    by_cases hlt : k < l.length
    · obtain ⟨b, o, rfl, c1, c2⟩ := hr k hlt
      obtain ⟨e1, e2, he⟩ : ∃ e1 e2, l.getD k (0, 0) = (e1, e2) := ⟨_, _, rfl⟩
      rw [he] at c1 c2
      have c1' := (hB.cell (World.block_lt_of_cell? w _ c1)).trans c1
      have c2' := (hB.cell (World.block_lt_of_cell? w _ c2)).trans c2
      clear c1 c2
      by_cases h0 : k = 0
      · subst h0
        have E : Hid (foldP lowP (l.take (0 + 1)) = (e1, e2)) := Lib.hid ((foldP_one _ _ hlt).trans he)
        have d1 : wr.cell? ⟨b, o, none⟩ = some (.int .i64 e1) := by simpa using c1'
        have d2 : wr.cell? ⟨b, o + 1, none⟩ = some (.int .i64 e2) := by simpa using c2'
        clear hs he hr c1' c2'
        go_wp2
        go_roundw
        case rel =>
          refine ⟨1, e1, e2, by omega, by go_num, E, ?_, ?_, ?_, ?_, ?_, ?_, ?_, ?_, ?_⟩
          all_goals first | (go_simp; done) | (go_simp; refine setc (x := .int .i64 s1) ?_ _; go_simp; done) | (go_simp; refine setc (x := .int .i64 s2) ?_ _; go_simp; done) | (refine belA (belS (belS hB ?_ _) ?_ _) _ <;> simp; done) | (trace_state; fail)
        case measure => simp [intOf]; omega
      · have E : Hid (foldP lowP (l.take (k + 1)) = lowP (s1, s2) (e1, e2)) := Lib.hid (by rw [foldP_succ _ _ _ (by omega) hlt, hs.out, he])
        clear hs he hr
        have hk0 : (0 : Int) < k := by omega
        go_wp2_with fail
        refine (lower_any _ _ _ _ _).mono ?_; rintro e w1 ⟨rfl, hb⟩
        obtain ⟨hc1, hf1⟩ := bcell hb
        have hz := hb.size
        simp at hz
        have hz1 : wr.heap.size < w1.heap.size := by omega
        have hz2 : w.heap.size < w1.heap.size := by omega
        have hz3 : w.heap.size + 1 < w1.heap.size := by omega
        replace hB := belT (belA hB _) hb
        go_wp2
        go_roundw
        case rel =>
          refine ⟨k + 1, _, _, by omega, by go_num, E, ?_, ?_, ?_, ?_, ?_, ?_, ?_, ?_, ?_⟩
          all_goals first | (go_simp; done) | (go_simp; refine setc (x := .int .i64 s1) ?_ _; go_simp; done) | (go_simp; refine setc (x := .int .i64 s2) ?_ _; go_simp; done) | (refine belS (belS hB ?_ _) ?_ _ <;> simp; done) | (trace_state; fail)
        case measure => simp [intOf]; omega
    · have E : Hid (k = l.length) := Lib.hid (by omega)
      go_wp2
      refine bodyPost_ret (v := .agg #[.int .i64 s1, .int .i64 s2]) (by simp [results, Tryz.results89, go_sem, *]) rfl ?_
      exact ⟨by rw [show l.take k = l by rw [E.out, List.take_length]] at hs; rw [hs.out], by first | (refine belS (belS hB ?_ _) ?_ _ <;> simp; done)⟩

set_option maxHeartbeats 2000000 in
theorem fold_upp (ao : Option Addr) (cap : Nat) (l : List (Int × Int)) (w : World) (hl : l.length ≤ 1000000) (hr : PRow w ao l) :
    Calls Tryz.prog 89 #[.slice ao l.length cap, .func (.func 78) #[] #[]] w fun e w' => e = .returned (.agg #[.int .i64 (foldP uppP l).1, .int .i64 (foldP uppP l).2]) ∧ Below w.heap.size w w' := by
  go_enter Tryz.func89, Tryz.ntmps89
  go_wp2
  go_loopw [10] (fun i wr => ∃ (k : Nat) (s1 s2 : Int), k ≤ l.length ∧ i = .int .i64 k ∧ Hid (foldP uppP (l.take k) = (s1, s2)) ∧ wr.cell? ⟨w.heap.size + 1, 0, none⟩ = some (.int .i64 s1) ∧ wr.cell? ⟨w.heap.size + 1, 1, none⟩ = some (.int .i64 s2) ∧ wr.frozen? ⟨w.heap.size + 1, 0, none⟩ = false ∧ wr.frozen? ⟨w.heap.size + 1, 1, none⟩ = false ∧ wr.cell? ⟨w.heap.size, 0, none⟩ = some (.int .i64 0) ∧ wr.cell? ⟨w.heap.size, 1, none⟩ = some (.int .i64 0) ∧ wr.frozen? ⟨w.heap.size, 0, none⟩ = false ∧ wr.frozen? ⟨w.heap.size, 1, none⟩ = false ∧ Below w.heap.size w wr) (fun i _ => l.length - (intOf i).toNat)
  case atStart =>
    refine ⟨0, 0, 0, Nat.zero_le _, rfl, Lib.hid (by simp [foldP]), ?_, ?_, ?_, ?_, ?_, ?_, ?_, ?_, belA (belA (Below.refl _ _) _) _⟩
    all_goals (go_simp; done)
  case round =>
    obtain ⟨k, s1, s2, hk, rfl, hs, k1, k2, f1, f2, k3, k4, f3, f4, hB⟩ := hrel
    have z1 : w.heap.size + 1 < wr.heap.size := World.block_lt_of_cell? wr _ k1
    have z2 : w.heap.size < wr.heap.size := World.block_lt_of_cell? wr _ k3
    by_cases hlt : k < l.length
    · obtain ⟨b, o, rfl, c1, c2⟩ := hr k hlt
      obtain ⟨e1, e2, he⟩ : ∃ e1 e2, l.getD k (0, 0) = (e1, e2) := ⟨_, _, rfl⟩
      rw [he] at c1 c2
      have c1' := (hB.cell (World.block_lt_of_cell? w _ c1)).trans c1
      have c2' := (hB.cell (World.block_lt_of_cell? w _ c2)).trans c2
      clear c1 c2
      by_cases h0 : k = 0
      · subst h0
        have E : Hid (foldP uppP (l.take (0 + 1)) = (e1, e2)) := Lib.hid ((foldP_one _ _ hlt).trans he)
        have d1 : wr.cell? ⟨b, o, none⟩ = some (.int .i64 e1) := by simpa using c1'
        have d2 : wr.cell? ⟨b, o + 1, none⟩ = some (.int .i64 e2) := by simpa using c2'
        clear hs he hr c1' c2'
        go_wp2
        go_roundw
        case rel =>
          refine ⟨1, e1, e2, by omega, by go_num, E, ?_, ?_, ?_, ?_, ?_, ?_, ?_, ?_, ?_⟩
          all_goals first | (go_simp; done) | (go_simp; refine setc (x := .int .i64 s1) ?_ _; go_simp; done) | (go_simp; refine setc (x := .int .i64 s2) ?_ _; go_simp; done) | (refine belA (belS (belS hB ?_ _) ?_ _) _ <;> simp; done) | (trace_state; fail)
        case measure => simp [intOf]; omega
      · have E : Hid (foldP uppP (l.take (k + 1)) = uppP (s1, s2) (e1, e2)) := Lib.hid (by rw [foldP_succ _ _ _ (by omega) hlt, hs.out, he])
        clear hs he hr
        have hk0 : (0 : Int) < k := by omega
        go_wp2_with fail
        refine (upper_any _ _ _ _ _).mono ?_; rintro e w1 ⟨rfl, hb⟩
        obtain ⟨hc1, hf1⟩ := bcell hb
        have hz := hb.size
        simp at hz
        have hz1 : wr.heap.size < w1.heap.size := by omega
        have hz2 : w.heap.size < w1.heap.size := by omega
        have hz3 : w.heap.size + 1 < w1.heap.size := by omega
        replace hB := belT (belA hB _) hb
        go_wp2
        go_roundw
        case rel =>
          refine ⟨k + 1, _, _, by omega, by go_num, E, ?_, ?_, ?_, ?_, ?_, ?_, ?_, ?_, ?_⟩
          all_goals first | (go_simp; done) | (go_simp; refine setc (x := .int .i64 s1) ?_ _; go_simp; done) | (go_simp; refine setc (x := .int .i64 s2) ?_ _; go_simp; done) | (refine belS (belS hB ?_ _) ?_ _ <;> simp; done) | (trace_state; fail)
        case measure => simp [intOf]; omega
    · have E : Hid (k = l.length) := Lib.hid (by omega)
      go_wp2
      refine bodyPost_ret (v := .agg #[.int .i64 s1, .int .i64 s2]) (by simp [results, Tryz.results89, go_sem, *]) rfl ?_
      exact ⟨by rw [show l.take k = l by rw [E.out, List.take_length]] at hs; rw [hs.out], by first | (refine belS (belS hB ?_ _) ?_ _ <;> simp; done)⟩

/-- The slice of integers reads as the list l. -/
def IRow (w : World) (ao : Option Addr) (l : List Int) : Prop := ∀ i, i < l.length → ∃ b o, ao = some ⟨b, o, none⟩ ∧ w.cell? ⟨b, o + i, none⟩ = some (.int .i64 (l.getD i 0))
def foldI : List Int → Int
  | [] => 0
  | x :: r => r.foldl mxI x
theorem foldI_one (l : List Int) (h : 0 < l.length) : foldI (l.take 1) = l.getD 0 0 := by
  cases l with
  | nil => simp at h
  | cons x r => simp [foldI]
theorem foldI_succ (l : List Int) (k : Nat) (h0 : 0 < k) (h : k < l.length) : foldI (l.take (k + 1)) = mxI (foldI (l.take k)) (l.getD k 0) := by
  cases l with
  | nil => simp at h
  | cons x r =>
    obtain ⟨k, rfl⟩ : ∃ j, k = j + 1 := ⟨k - 1, by omega⟩
    simp only [List.length_cons, Nat.add_lt_add_iff_right] at h
    simp only [List.take_succ_cons, foldI, List.getD_cons_succ]
    rw [List.take_succ_eq_append_getElem h, List.foldl_append]
    simp [List.getD_eq_getElem?_getD, h]

set_option maxHeartbeats 2000000 in
theorem fold_int (ao : Option Addr) (cap : Nat) (l : List Int) (w : World) (hl : l.length ≤ 1000000) (hr : IRow w ao l) :
    Calls Tryz.prog 53 #[.slice ao l.length cap, .func (.func 54) #[] #[]] w fun e w' => e = .returned (.int .i64 (foldI l)) ∧ w = w' := by
  go_enter Tryz.func53, Tryz.ntmps53
  go_wp2
  go_loop [5, 10] (fun s i => ∃ (k : Nat) (s1 : Int), k ≤ l.length ∧ i = .int .i64 k ∧ s = .int .i64 s1 ∧ Hid (foldI (l.take k) = s1)) (fun _ i => l.length - (intOf i).toNat)
  case atStart => exact ⟨0, 0, Nat.zero_le _, rfl, rfl, Lib.hid (by simp [foldI])⟩
  case round =>
    obtain ⟨k, s1, hk, rfl, rfl, hs⟩ := hrel
    by_cases hlt : k < l.length
    · obtain ⟨b, o, rfl, c1⟩ := hr k hlt
      obtain ⟨e1, he⟩ : ∃ e1, l.getD k 0 = e1 := ⟨_, rfl⟩
      rw [he] at c1
      by_cases h0 : k = 0
      · subst h0
        have E : Hid (foldI (l.take (0 + 1)) = e1) := Lib.hid ((foldI_one _ hlt).trans he)
        have d1 : w.cell? ⟨b, o, none⟩ = some (.int .i64 e1) := by simpa using c1
        clear hs he hr c1
        go_wp2
        go_round
        case rel => exact ⟨1, e1, by omega, by go_num, rfl, E⟩
        case measure => simp [intOf]; omega
      · have E : Hid (foldI (l.take (k + 1)) = mxI s1 e1) := Lib.hid (by rw [foldI_succ _ _ (by omega) hlt, hs.out, he])
        clear hs he hr
        have hk0 : (0 : Int) < k := by omega
        go_wp2_with fail
        refine (larger_any _ _ _).mono ?_; rintro e w1 ⟨rfl, rfl⟩
        go_wp2
        go_round
        case rel => exact ⟨k + 1, _, by omega, by go_num, rfl, E⟩
        case measure => simp [intOf]; omega
    · have E : Hid (k = l.length) := Lib.hid (by omega)
      go_wp2
      go_ret
      exact ⟨ret_int (by rw [← hs.out, E.out, List.take_length]), rfl⟩

theorem prow_below {w w' : World} {ao : Option Addr} {l : List (Int × Int)} (h : PRow w ao l) (hb : Below w.heap.size w w') : PRow w' ao l := fun i hi => by
  obtain ⟨b, o, rfl, c1, c2⟩ := h i hi
  exact ⟨b, o, rfl, (hb.cell (World.block_lt_of_cell? w _ c1)).trans c1, (hb.cell (World.block_lt_of_cell? w _ c2)).trans c2⟩
theorem prow_alloc {w : World} {ao : Option Addr} {l : List (Int × Int)} (h : PRow w ao l) (x : Obj) : PRow (w.alloc x) ao l := prow_below h (belA (Below.refl _ _) x)

set_option maxHeartbeats 1000000 in
theorem bbox_any (ao : Option Addr) (cap : Nat) (l : List (Int × Int)) (w : World) (hl : l.length ≤ 1000000) (hr : PRow w ao l) :
    Calls Tryz.prog 51 #[.slice ao l.length cap] w fun e w' => e = .returned (.tuple #[.agg #[.int .i64 (foldP lowP l).1, .int .i64 (foldP lowP l).2], .agg #[.int .i64 (foldP uppP l).1, .int .i64 (foldP uppP l).2]]) ∧ Below w.heap.size w w' := by
  have hB : Below w.heap.size w w := Below.refl _ _
  go_enter Tryz.func51, Tryz.ntmps51
  go_wp2_with fail
  refine (fold_low ao cap l _ hl (prow_alloc (prow_alloc hr _) _)).mono ?_; rintro e w1 ⟨rfl, hb⟩
  replace hr := prow_below (prow_alloc (prow_alloc hr _) _) hb
  obtain ⟨hc1, hf1⟩ := bcell hb
  have hz1 : w.heap.size < w1.heap.size := by have := hb.size; simp at this; omega
  have hz2 : w.heap.size + 1 < w1.heap.size := by have := hb.size; simp at this; omega
  replace hB := belT (belA (belA hB _) _) hb
  have HR := Lib.hid hr
  clear hr
  go_wp2_with fail
  refine (fold_upp ao cap l _ hl HR.out).mono ?_; rintro e w2 ⟨rfl, hb2⟩
  obtain ⟨hc2, hf2⟩ := bcell hb2
  have hz3 : w.heap.size < w2.heap.size := by have := hb2.size; omega
  have hz4 : w.heap.size + 1 < w2.heap.size := by have := hb2.size; omega
  replace hB := belT hB hb2
  have q0 : w2.cell? ⟨w.heap.size, 0, none⟩ = some (.int .i64 0) := cell_call (cell_call (cell_alloc (cbe w _ _ _ 0 _ rfl rfl) _) hb) hb2
  have q1 : w2.cell? ⟨w.heap.size, 1, none⟩ = some (.int .i64 0) := cell_call (cell_call (cell_alloc (cbe w _ _ _ 1 _ rfl rfl) _) hb) hb2
  have q2 : w2.cell? ⟨w.heap.size + 1, 0, none⟩ = some (.int .i64 0) := cell_call (cell_call (cbe _ _ _ _ 0 _ (by simp) rfl) hb) hb2
  have q3 : w2.cell? ⟨w.heap.size + 1, 1, none⟩ = some (.int .i64 0) := cell_call (cell_call (cbe _ _ _ _ 1 _ (by simp) rfl) hb) hb2
  go_wp2
  refine bodyPost_ret (v := .tuple #[.agg #[.int .i64 (foldP lowP l).1, .int .i64 (foldP lowP l).2], .agg #[.int .i64 (foldP uppP l).1, .int .i64 (foldP uppP l).2]]) (by simp [results, Tryz.results51, go_sem, q0, q1, q2, q3]) rfl ?_
  exact ⟨rfl, by first | exact hB | (refine belS (belS (belS (belS hB ?_ _) ?_ _) ?_ _) ?_ _ <;> simp; done)⟩
end Go.Proofs.YtalhkcmlacppjaaGreatDoor


namespace Go.Proofs.YtalhkcmlacppjaaGreatDoor
open Go.ChangeShapes Go.WideShapes Go.ChangeAt Go.RowKit

/-- All coordinates are bounded. -/
def AllR (l : List (Int × Int)) : Prop := ∀ i, i < l.length → InR (l.getD i (0, 0)).1 ∧ InR (l.getD i (0, 0)).2
theorem inr_mn {a b : Int} (h : InR a) (g : InR b) : InR (mnI a b) := by rcases (mnI_bd a b).2 with e | e <;> rw [e] <;> assumption
theorem inr_mx {a b : Int} (h : InR a) (g : InR b) : InR (mxI a b) := by rcases (mxI_bd a b).2 with e | e <;> rw [e] <;> assumption
theorem fold_inr (f : Int × Int → Int × Int → Int × Int) (hf : ∀ x y : Int × Int, (InR x.1 ∧ InR x.2) → (InR y.1 ∧ InR y.2) → InR (f x y).1 ∧ InR (f x y).2) (l : List (Int × Int)) (h : AllR l) :
    ∀ k, k ≤ l.length → InR (foldP f (l.take k)).1 ∧ InR (foldP f (l.take k)).2 := by
  intro k
  induction k with
  | zero => intro _; simp [foldP, InR]
  | succ k ih =>
    intro hk
    by_cases h0 : k = 0
    · subst h0
      rw [foldP_one f l (by omega)]
      exact h 0 (by omega)
    · rw [foldP_succ f l k (by omega) (by omega)]
      exact hf _ _ (ih (by omega)) (h k (by omega))
theorem low_inr (l : List (Int × Int)) (h : AllR l) : InR (foldP lowP l).1 ∧ InR (foldP lowP l).2 := by
  have := fold_inr lowP (fun x y hx hy => ⟨inr_mn hx.1 hy.1, inr_mn hx.2 hy.2⟩) l h l.length (Nat.le_refl _)
  rwa [List.take_length] at this
theorem upp_inr (l : List (Int × Int)) (h : AllR l) : InR (foldP uppP l).1 ∧ InR (foldP uppP l).2 := by
  have := fold_inr uppP (fun x y hx hy => ⟨inr_mx hx.1 hy.1, inr_mx hx.2 hy.2⟩) l h l.length (Nat.le_refl _)
  rwa [List.take_length] at this

/-- The distance of two boxes. -/
def gapI (a b c d p q r s : Int) : Int := foldI [0, p - c, q - d, a - r, b - s]
def boxD (la lb : List (Int × Int)) : Int := if la.length = 0 ∨ lb.length = 0 then 0 else
  gapI (foldP lowP la).1 (foldP lowP la).2 (foldP uppP la).1 (foldP uppP la).2 (foldP lowP lb).1 (foldP lowP lb).2 (foldP uppP lb).1 (foldP uppP lb).2

theorem irow5 (w : World) (T : TypeId) (x0 x1 x2 x3 x4 : Int) : IRow (w.alloc (.cells #[.int .i64 x0, .int .i64 x1, .int .i64 x2, .int .i64 x3, .int .i64 x4] T)) (some ⟨w.heap.size, 0, none⟩) [x0, x1, x2, x3, x4] := fun i hi => by
  refine ⟨w.heap.size, 0, rfl, cbx _ _ _ _ _ _ rfl ?_⟩
  have : i = 0 ∨ i = 1 ∨ i = 2 ∨ i = 3 ∨ i = 4 := by simp at hi; omega
  rcases this with rfl | rfl | rfl | rfl | rfl <;> rfl

theorem bbox_is (ao : Option Addr) (cap : Nat) (l : List (Int × Int)) (w : World) (hl : l.length ≤ 1000000) (hr : PRow w ao l) (a b c d : Int) (hL : Hid (foldP lowP l = (a, b))) (hU : Hid (foldP uppP l = (c, d))) :
    Calls Tryz.prog 51 #[.slice ao l.length cap] w fun e w' => e = .returned (.tuple #[.agg #[.int .i64 a, .int .i64 b], .agg #[.int .i64 c, .int .i64 d]]) ∧ Below w.heap.size w w' := by
  have := bbox_any ao cap l w hl hr
  rw [hL.out, hU.out] at this
  exact this

theorem boxdist_zero (ao bo : Option Addr) (ca cb : Nat) (la lb : List (Int × Int)) (w : World) (ha : la.length ≤ 1000000) (hb : lb.length ≤ 1000000) (h : la.length = 0 ∨ lb.length = 0) :
    Calls Tryz.prog 17 #[.slice ao la.length ca, .slice bo lb.length cb] w fun e w' => e = .returned (.int .i64 (boxD la lb)) ∧ Below w.heap.size w w' := by
  have E : Hid (boxD la lb = 0) := Lib.hid (by unfold boxD; rw [if_pos h])
  by_cases h0 : la.length = 0
  · rw [h0]
    clear h h0
    go_enter Tryz.func17, Tryz.ntmps17
    go_wp2
    go_ret
    exact ⟨ret_int E.out.symm, Below.refl _ _⟩
  · have h1 : lb.length = 0 := by omega
    have h2 : ¬ (la.length : Int) = 0 := by omega
    rw [h1]
    clear h h1
    go_enter Tryz.func17, Tryz.ntmps17
    go_wp2
    go_ret
    exact ⟨ret_int E.out.symm, Below.refl _ _⟩

set_option maxHeartbeats 4000000 in
theorem boxdist_some (ao bo : Option Addr) (ca cb : Nat) (la lb : List (Int × Int)) (w : World) (ha : la.length ≤ 1000000) (hb' : lb.length ≤ 1000000) (h0 : 0 < la.length) (h1 : 0 < lb.length) (ra : PRow w ao la) (rb : PRow w bo lb) (a b c d p q r s : Int) (ia : InR a) (ib : InR b) (ic : InR c) (id : InR d) (ip : InR p) (iq : InR q) (ir : InR r) (is : InR s)
    (hL : Hid (foldP lowP la = (a, b))) (hU : Hid (foldP uppP la = (c, d))) (hM : Hid (foldP lowP lb = (p, q))) (hV : Hid (foldP uppP lb = (r, s))) :
    Calls Tryz.prog 17 #[.slice ao la.length ca, .slice bo lb.length cb] w fun e w' => e = .returned (.int .i64 (gapI a b c d p q r s)) ∧ Below w.heap.size w w' := by
  have d1 := dif_bd ip ic
  have d2 := dif_bd iq id
  have d3 := dif_bd ia ir
  have d4 := dif_bd ib is
  have e1 : -9223372036854775808 ≤ p - c ∧ p - c ≤ 9223372036854775807 := by omega
  have e2 : -9223372036854775808 ≤ q - d ∧ q - d ≤ 9223372036854775807 := by omega
  have e3 : -9223372036854775808 ≤ a - r ∧ a - r ≤ 9223372036854775807 := by omega
  have e4 : -9223372036854775808 ≤ b - s ∧ b - s ≤ 9223372036854775807 := by omega
  clear ia ib ic id ip iq ir is d1 d2 d3 d4
  have n0 : ((la.length : Int) == 0) = false := by rw [beq_eq_false_iff_ne]; omega
  have n1 : ((lb.length : Int) == 0) = false := by rw [beq_eq_false_iff_ne]; omega
  have HA := Lib.hid ra
  have HB := Lib.hid rb
  clear ra rb
  have hB : Below w.heap.size w w := Below.refl _ _
  go_enter Tryz.func17, Tryz.ntmps17
  go_wp2_with fail
  refine (bbox_is ao ca la _ ha HA.out a b c d hL hU).mono ?_; rintro e w1 ⟨rfl, hb⟩
  replace hB := belT hB hb
  clear hb
  replace HB := Lib.hid (prow_below HB.out hB)
  go_wp2_with fail
  refine (bbox_is bo cb lb _ hb' (prow_alloc (prow_alloc HB.out _) _) p q r s hM hV).mono ?_; rintro e w2 ⟨rfl, hb⟩
  have k1 : w2.cell? ⟨w1.heap.size, 0, none⟩ = some (.int .i64 a) := cell_call (cell_alloc (cbx w1 #[.int .i64 a, .int .i64 b] 23 (w1.heap.size) 0 (.int .i64 a) (by simp) rfl) _) hb
  have k2 : w2.cell? ⟨w1.heap.size, 1, none⟩ = some (.int .i64 b) := cell_call (cell_alloc (cbx w1 #[.int .i64 a, .int .i64 b] 23 (w1.heap.size) 1 (.int .i64 b) (by simp) rfl) _) hb
  have k3 : w2.cell? ⟨w1.heap.size + 1, 0, none⟩ = some (.int .i64 c) := cell_call (cbx (w1.alloc (.cells #[.int .i64 a, .int .i64 b] 23)) #[.int .i64 c, .int .i64 d] 23 (w1.heap.size + 1) 0 (.int .i64 c) (by simp) rfl) hb
  have k4 : w2.cell? ⟨w1.heap.size + 1, 1, none⟩ = some (.int .i64 d) := cell_call (cbx (w1.alloc (.cells #[.int .i64 a, .int .i64 b] 23)) #[.int .i64 c, .int .i64 d] 23 (w1.heap.size + 1) 1 (.int .i64 d) (by simp) rfl) hb
  replace hB := belT (belA (belA hB _) _) hb
  clear hb
  have zk1 : w1.heap.size < w2.heap.size := World.block_lt_of_cell? w2 _ k1
  have zk3 : w1.heap.size + 1 < w2.heap.size := World.block_lt_of_cell? w2 _ k3
  clear HA HB hL hU hM hV
  go_upto_region 5 with fail
  replace k1 : ((w2.alloc (.cells #[.int .i64 p, .int .i64 q] 23)).alloc (.cells #[.int .i64 r, .int .i64 s] 23)).cell? ⟨w1.heap.size, 0, none⟩ = some (.int .i64 a) := (cell_alloc (cell_alloc k1 _) _)
  replace k2 : ((w2.alloc (.cells #[.int .i64 p, .int .i64 q] 23)).alloc (.cells #[.int .i64 r, .int .i64 s] 23)).cell? ⟨w1.heap.size, 1, none⟩ = some (.int .i64 b) := (cell_alloc (cell_alloc k2 _) _)
  replace k3 : ((w2.alloc (.cells #[.int .i64 p, .int .i64 q] 23)).alloc (.cells #[.int .i64 r, .int .i64 s] 23)).cell? ⟨w1.heap.size + 1, 0, none⟩ = some (.int .i64 c) := (cell_alloc (cell_alloc k3 _) _)
  replace k4 : ((w2.alloc (.cells #[.int .i64 p, .int .i64 q] 23)).alloc (.cells #[.int .i64 r, .int .i64 s] 23)).cell? ⟨w1.heap.size + 1, 1, none⟩ = some (.int .i64 d) := (cell_alloc (cell_alloc k4 _) _)
  have k5 : ((w2.alloc (.cells #[.int .i64 p, .int .i64 q] 23)).alloc (.cells #[.int .i64 r, .int .i64 s] 23)).cell? ⟨w2.heap.size, 0, none⟩ = some (.int .i64 p) := (cell_alloc (cbx w2 #[.int .i64 p, .int .i64 q] 23 (w2.heap.size) 0 (.int .i64 p) (by simp) rfl) _)
  have k6 : ((w2.alloc (.cells #[.int .i64 p, .int .i64 q] 23)).alloc (.cells #[.int .i64 r, .int .i64 s] 23)).cell? ⟨w2.heap.size, 1, none⟩ = some (.int .i64 q) := (cell_alloc (cbx w2 #[.int .i64 p, .int .i64 q] 23 (w2.heap.size) 1 (.int .i64 q) (by simp) rfl) _)
  have k7 : ((w2.alloc (.cells #[.int .i64 p, .int .i64 q] 23)).alloc (.cells #[.int .i64 r, .int .i64 s] 23)).cell? ⟨w2.heap.size + 1, 0, none⟩ = some (.int .i64 r) := (cbx (w2.alloc (.cells #[.int .i64 p, .int .i64 q] 23)) #[.int .i64 r, .int .i64 s] 23 (w2.heap.size + 1) 0 (.int .i64 r) (by simp) rfl)
  have k8 : ((w2.alloc (.cells #[.int .i64 p, .int .i64 q] 23)).alloc (.cells #[.int .i64 r, .int .i64 s] 23)).cell? ⟨w2.heap.size + 1, 1, none⟩ = some (.int .i64 s) := (cbx (w2.alloc (.cells #[.int .i64 p, .int .i64 q] 23)) #[.int .i64 r, .int .i64 s] 23 (w2.heap.size + 1) 1 (.int .i64 s) (by simp) rfl)
  replace hB : Below w.heap.size w ((w2.alloc (.cells #[.int .i64 p, .int .i64 q] 23)).alloc (.cells #[.int .i64 r, .int .i64 s] 23)) := (belA (belA hB _) _)
  generalize ((w2.alloc (.cells #[.int .i64 p, .int .i64 q] 23)).alloc (.cells #[.int .i64 r, .int .i64 s] 23)) = v3 at *
  have zk1 : w1.heap.size < v3.heap.size := World.block_lt_of_cell? v3 _ k1
  have zk3 : w1.heap.size + 1 < v3.heap.size := World.block_lt_of_cell? v3 _ k3
  have zk5 : w2.heap.size < v3.heap.size := World.block_lt_of_cell? v3 _ k5
  have zk7 : w2.heap.size + 1 < v3.heap.size := World.block_lt_of_cell? v3 _ k7
  have hS : Hid (∀ w', Below v3.heap.size v3 w' → w'.cell? ⟨w1.heap.size, 0, none⟩ = some (.int .i64 a) ∧ w'.cell? ⟨w1.heap.size, 1, none⟩ = some (.int .i64 b) ∧ w'.cell? ⟨w1.heap.size + 1, 0, none⟩ = some (.int .i64 c) ∧ w'.cell? ⟨w1.heap.size + 1, 1, none⟩ = some (.int .i64 d) ∧ w'.cell? ⟨w2.heap.size, 0, none⟩ = some (.int .i64 p) ∧ w'.cell? ⟨w2.heap.size, 1, none⟩ = some (.int .i64 q) ∧ w'.cell? ⟨w2.heap.size + 1, 0, none⟩ = some (.int .i64 r) ∧ w'.cell? ⟨w2.heap.size + 1, 1, none⟩ = some (.int .i64 s) ∧ Below v3.heap.size v3 w') := Lib.hid (fun w' h => ⟨cell_call k1 h, cell_call k2 h, cell_call k3 h, cell_call k4 h, cell_call k5 h, cell_call k6 h, cell_call k7 h, cell_call k8 h, h⟩)
  have b3 : Below v3.heap.size v3 v3 := Below.refl _ _
  go_cut [9, 10] (fun s9 s10 wx => ∃ g h : Nat, s9 = .pointer (some ⟨g, 0, none⟩) ∧ s10 = .pointer (some ⟨h, 0, none⟩) ∧ wx.cell? ⟨g, 0, none⟩ = some (.int .i64 (p - c)) ∧ wx.cell? ⟨g, 1, none⟩ = some (.int .i64 (q - d)) ∧ wx.cell? ⟨h, 0, none⟩ = some (.int .i64 (a - r)) ∧ wx.cell? ⟨h, 1, none⟩ = some (.int .i64 (b - s)) ∧ Below v3.heap.size v3 wx)
  case first =>
    go_region_held3 (fun w' => w'.cell? ⟨w1.heap.size, 0, none⟩ = some (.int .i64 a) ∧ w'.cell? ⟨w1.heap.size, 1, none⟩ = some (.int .i64 b) ∧ w'.cell? ⟨w1.heap.size + 1, 0, none⟩ = some (.int .i64 c) ∧ w'.cell? ⟨w1.heap.size + 1, 1, none⟩ = some (.int .i64 d) ∧ w'.cell? ⟨w2.heap.size, 0, none⟩ = some (.int .i64 p) ∧ w'.cell? ⟨w2.heap.size, 1, none⟩ = some (.int .i64 q) ∧ w'.cell? ⟨w2.heap.size + 1, 0, none⟩ = some (.int .i64 r) ∧ w'.cell? ⟨w2.heap.size + 1, 1, none⟩ = some (.int .i64 s) ∧ Below v3.heap.size v3 w')
      ((go_split_ands; refine hS.out _ ?_; repeat (first | exact hb8 | assumption | apply Below.drew | (with_reducible refine belA ?_ _) | (with_reducible refine belS ?_ (by first | assumption | exact Nat.le_refl _ | exact Nat.le_succ _ | exact Nat.le_succ_of_le (by assumption)) _))))
      (first | (go_at_call 52; (first | (with_reducible refine (sub_in p q c d _ e1 e2).mono ?_) | (with_reducible refine (sub_in a b r s _ e3 e4).mono ?_)); rintro e w9 ⟨rfl, hb9⟩; have hb8 : Below v3.heap.size v3 w9 := belT (by go_split_ands; repeat (first | assumption | apply Below.drew | (with_reducible refine belA ?_ _))) hb9; have hz8 : v3.heap.size ≤ w9.heap.size := hb8.size; obtain ⟨hc9, hf9⟩ := bcell hb9; have hs9 := hb9.size; (try simp at hs9); (try have hs9b := Nat.lt_of_succ_le hs9); (try have hs9c := Nat.lt_of_succ_lt hs9b); (try have hs9d : v3.heap.size < w9.heap.size := by omega); (try have hs9e : v3.heap.size + 1 < w9.heap.size := by omega)))
    all_goals
      rename_i hH
      obtain ⟨_, _, _, _, _, _, _, _, bz⟩ := hH
      have fin := Lib.hid bz
      clear bz hS b3
      go_wp2_with fail
      go_meet
      refine ⟨_, _, rfl, rfl, ?_, ?_, ?_, ?_, fin.out⟩
      all_goals (first | rfl | (go_simp; done) | (go_simp; refine setc (x := .int .i64 0) ?_ _; go_simp; done))
  case rest =>
    obtain ⟨g, h, rfl, rfl, c1, c2, c3, c4, hB2⟩ := hcut
    have hB3 := belT hB hB2
    clear hB hS b3 hB2 k1 k2 k3 k4 k5 k6 k7 k8 zk1 zk3 zk5 zk7
    go_wp2_with fail
    refine (fold_int _ _ [0, p - c, q - d, a - r, b - s] _ (by simp) (irow5 _ _ _ _ _ _ _)).mono ?_; rintro e w5 ⟨rfl, rfl⟩
    go_wp2_with fail
    go_ret
    exact ⟨rfl, belA hB3 _⟩

theorem boxdist_any (ao bo : Option Addr) (ca cb : Nat) (la lb : List (Int × Int)) (w : World) (ha : la.length ≤ 1000000) (hb' : lb.length ≤ 1000000) (ra : PRow w ao la) (rb : PRow w bo lb) (ia : AllR la) (ib : AllR lb) :
    Calls Tryz.prog 17 #[.slice ao la.length ca, .slice bo lb.length cb] w fun e w' => e = .returned (.int .i64 (boxD la lb)) ∧ Below w.heap.size w w' := by
  by_cases h : la.length = 0 ∨ lb.length = 0
  · exact boxdist_zero ao bo ca cb la lb w ha hb' h
  · have := boxdist_some ao bo ca cb la lb w ha hb' (by omega) (by omega) ra rb _ _ _ _ _ _ _ _ (low_inr la ia).1 (low_inr la ia).2 (upp_inr la ia).1 (upp_inr la ia).2 (low_inr lb ib).1 (low_inr lb ib).2 (upp_inr lb ib).1 (upp_inr lb ib).2 (Lib.hid rfl) (Lib.hid rfl) (Lib.hid rfl) (Lib.hid rfl)
    exact this.mono fun e w' ⟨he, hb⟩ => ⟨he.trans (ret_int (by unfold boxD; rw [if_neg h])), hb⟩
end Go.Proofs.YtalhkcmlacppjaaGreatDoor


namespace Go.Proofs.YtalhkcmlacppjaaGreatDoor
open Go.ChangeShapes Go.WideShapes Go.ChangeAt Go.RowKit

theorem blk_lt {w : World} {b : Nat} {o : Obj} (h : w.heap[b]? = some o) : b < w.heap.size := by
  rcases Nat.lt_or_ge b w.heap.size with h' | h'
  · exact h'
  · rw [Array.getElem?_eq_none h'] at h; cases h
theorem blk_cell {w : World} {b : Nat} {vs : Array Value} {T : TypeId} (h : w.heap[b]? = some (.cells vs T (0, 0))) (j : Nat) (v : Value) (hj : vs[j]? = some v) : w.cell? ⟨b, j, none⟩ = some v := by simp [World.cell?, h, hj]
theorem blk_fz {w : World} {b : Nat} {vs : Array Value} {T : TypeId} (h : w.heap[b]? = some (.cells vs T (0, 0))) (j : Nat) : w.frozen? ⟨b, j, none⟩ = false := by simp [World.frozen?, h]
theorem blk_new (w : World) (o : Obj) (n : Nat) (h : w.heap.size = n) : (w.alloc o).heap[n]? = some o := by subst h; show (w.heap.push o)[w.heap.size]? = _; simp
theorem blk_alloc {w : World} {b : Nat} {o : Obj} (h : w.heap[b]? = some o) (o' : Obj) : (w.alloc o').heap[b]? = some o := by
  show (w.heap.push o')[b]? = _
  rw [Array.getElem?_push_lt (blk_lt h)]
  rwa [Array.getElem?_eq_getElem (blk_lt h)] at h
theorem blk_call {w w' : World} {b : Nat} {o : Obj} (h : w.heap[b]? = some o) (hb : Below w.heap.size w w') : w'.heap[b]? = some o := (hb.block b (blk_lt h)).trans h
theorem blk_other {w : World} {b c j : Nat} {o : Obj} (h : w.heap[b]? = some o) (hne : c ≠ b) (u : Value) : (w.setCell ⟨c, j, none⟩ u).heap[b]? = some o := by
  simp [World.setCell, Array.getElem?_modify, hne, h]
theorem blk_set {w : World} {b j : Nat} {vs : Array Value} {T : TypeId} (h : w.heap[b]? = some (.cells vs T (0, 0))) (u : Value) : (w.setCell ⟨b, j, none⟩ u).heap[b]? = some (.cells (vs.setIfInBounds j u) T (0, 0)) := by
  simp [World.setCell, Array.getElem?_modify, h]
end Go.Proofs.YtalhkcmlacppjaaGreatDoor


namespace Go.Proofs.YtalhkcmlacppjaaGreatDoor
open Go.ChangeShapes Go.WideShapes Go.ChangeAt Go.RowKit

/-- What is told of the slots: nothing; a value; a slice of points that reads as a list. -/
abbrev Told := List (Option (Value ⊕ List (Int × Int)))
def Rt (sp : Told) (t : Nat) (v : Value) (w : World) : Prop :=
  match sp.getD t none with
  | none => True
  | some (.inl x) => v = x
  | some (.inr l) => ∃ b c, v = .slice (some ⟨b, 0, none⟩) l.length c ∧ PRow w (some ⟨b, 0, none⟩) l
theorem Rt.keep {sp : Told} {t : Nat} {v : Value} {w w' : World} (h : Rt sp t v w) (hb : Below w.heap.size w w') : Rt sp t v w' := by
  unfold Rt at *
  split
  · trivial
  · rename_i e; rw [e] at h; exact h
  · rename_i e; rw [e] at h; obtain ⟨b, c, e1, e2⟩ := h; exact ⟨b, c, e1, prow_below e2 hb⟩
def dstOf (ops : Array Oper) (j : Nat) : Option Nat := (ops[j]?).bind (·.dst)
/-- A slot that no operation of the region writes. -/
def Free (ops : Array Oper) (t : Nat) : Prop := ∀ j, dstOf ops j ≠ some t

section
variable {P : Program} {ops : Array Oper} {Q : Exit → Act → World → Prop} {sp : Told} {T0 : Array Value} {D0 : List Deferred} {w0 : World}

/-- What is asked of operation o. -/
def Ob (P : Program) (ops : Array Oper) (Q : Exit → Act → World → Prop) (sp : Told) (T0 : Array Value) (D0 : List Deferred) (w0 : World) (o : Oper) : Prop :=
  ∀ (T : Array Value) (w : World) (K : Act → World → Prop), Below w0.heap.size w0 w → (∀ t, Free ops t → T[t]? = T0[t]?) →
    (∀ j d, (∃ e ∈ o.after, e.on = j ∧ Region.binds .any e = true) → dstOf ops j = some d → ∃ v, T[d]? = some v ∧ Rt sp d v w) →
    (∀ v w', Below w.heap.size w w' → (∀ d, o.dst = some d → Rt sp d v w') → K (Act.put ⟨T, D0⟩ o.dst v) w') →
    if Region.wanted o (yielded ops T) = true then Oper.wp P o ⟨T, D0⟩ w K Q else K (Act.put ⟨T, D0⟩ o.dst undef) w
def Obs (P : Program) (ops : Array Oper) (Q : Exit → Act → World → Prop) (sp : Told) (T0 : Array Value) (D0 : List Deferred) (w0 : World) : List Oper → Prop
  | [] => True
  | o :: r => Ob P ops Q sp T0 D0 w0 o ∧ Obs P ops Q sp T0 D0 w0 r
theorem Obs.get : ∀ {l : List Oper} {i : Nat} {o : Oper}, Obs P ops Q sp T0 D0 w0 l → l[i]? = some o → Ob P ops Q sp T0 D0 w0 o
  | [], _, _, _, h => by simp at h
  | x :: r, 0, o, h, e => by simp at e; subst e; exact h.1
  | x :: r, i + 1, o, h, e => Obs.get (l := r) (i := i) h.2 (by simpa using e)

/-- Well-formed: an operation waits for earlier ones alone; the slots differ and lie in the frame. -/
def wfB (ops : Array Oper) (n : Nat) : Bool := (List.range ops.size).all fun i =>
  match ops[i]? with
  | none => true
  | some o => (o.after.all fun e => !Region.binds .any e || decide (e.on < i)) &&
    (match o.dst with
     | none => true
     | some d => decide (d < n) && (List.range i).all fun j => decide (dstOf ops j ≠ some d))
theorem wf_after {n : Nat} (h : wfB ops n = true) {i : Nat} {o : Oper} (ho : ops[i]? = some o) : ∀ e ∈ o.after, Region.binds .any e = true → e.on < i := by
  have hi : i < ops.size := (Array.getElem?_eq_some_iff.1 ho).1
  have := List.all_eq_true.1 h i (List.mem_range.2 hi)
  rw [ho] at this
  simp only [Bool.and_eq_true] at this
  intro e he hb
  have := Array.all_eq_true'.1 this.1 e he
  rw [hb] at this
  simpa using this
theorem wf_dst {n : Nat} (h : wfB ops n = true) {i d : Nat} (hd : dstOf ops i = some d) : d < n ∧ ∀ j, j < i → dstOf ops j ≠ some d := by
  unfold dstOf at hd
  obtain ⟨o, ho, hod⟩ := Option.bind_eq_some_iff.1 hd
  have hi : i < ops.size := (Array.getElem?_eq_some_iff.1 ho).1
  have := List.all_eq_true.1 h i (List.mem_range.2 hi)
  rw [ho] at this
  simp only [Bool.and_eq_true] at this
  have h2 := this.2
  rw [hod] at h2
  simp only [Bool.and_eq_true, decide_eq_true_eq] at h2
  refine ⟨h2.1, fun j hj => ?_⟩
  have := List.all_eq_true.1 h2.2 j (List.mem_range.2 hj)
  simpa using this
theorem wf_inj {n : Nat} (h : wfB ops n = true) {i j d : Nat} (hi : dstOf ops i = some d) (hj : dstOf ops j = some d) : i = j := by
  rcases Nat.lt_trichotomy i j with g | g | g
  · exact absurd hi ((wf_dst h hj).2 i g)
  · exact g
  · exact absurd hj ((wf_dst h hi).2 j g)

def left (n : Nat) (listed : Array Bool) : Nat := (List.range n).countP fun j => !listed.getD j true
theorem countP_lt {α : Type} {p q : α → Bool} : ∀ {l : List α}, (∀ x ∈ l, q x = true → p x = true) → (∃ x ∈ l, p x = true ∧ q x = false) → l.countP q < l.countP p
  | [], _, h => by simp at h
  | y :: r, h1, ⟨x, hx, hp, hq⟩ => by
    have hr : r.countP q ≤ r.countP p := List.countP_mono_left (fun z hz => h1 z (List.mem_cons_of_mem _ hz))
    rcases List.mem_cons.1 hx with rfl | hx
    · rw [List.countP_cons_of_pos hp, List.countP_cons_of_neg (by simp [hq])]; omega
    · have := countP_lt (l := r) (fun z hz => h1 z (List.mem_cons_of_mem _ hz)) ⟨x, hx, hp, hq⟩
      by_cases hy : q y = true
      · rw [List.countP_cons_of_pos hy, List.countP_cons_of_pos (h1 y (List.mem_cons_self ..) hy)]; omega
      · rw [List.countP_cons_of_neg hy, List.countP_cons]; omega
theorem all_listed {n : Nat} (h : wfB ops n = true) {listed : Array Bool} (hs : listed.size = ops.size) (hr : Region.ready .any ops listed = []) : ∀ j, j < ops.size → listed.getD j true = true := by
  intro j
  induction j using Nat.strongRecOn with
  | _ j ih =>
    intro hj
    cases hl : listed.getD j true with
    | true => rfl
    | false =>
      have ho : ops[j]? = some ops[j] := Array.getElem?_eq_getElem hj
      have : j ∈ Region.ready .any ops listed := mem_ready.2 ⟨hl, ops[j], ho, fun e he hb => by
        have hlt := wf_after h ho e he hb
        have := ih e.on hlt (by omega)
        have hb : e.on < listed.size := by omega
        simpa [Array.getD, hb] using this⟩
      rw [hr] at this
      cases this

/-- What holds while the region runs. -/
def Inv (ops : Array Oper) (sp : Told) (T0 : Array Value) (D0 : List Deferred) (w0 : World) (listed : Array Bool) (a : Act) (w : World) : Prop :=
  Below w0.heap.size w0 w ∧ a.defers = D0 ∧ (∀ t, Free ops t → a.tmps[t]? = T0[t]?) ∧ a.tmps.size = T0.size ∧ listed.size = ops.size ∧
    ∀ j d, listed.getD j false = true → dstOf ops j = some d → ∃ v, a.tmps[d]? = some v ∧ Rt sp d v w
theorem Inv.next {listed : Array Bool} {T : Array Value} {w w' : World} {i : Nat} {o : Oper} {v : Value} (hwf : wfB ops T0.size = true) (ho : ops[i]? = some o)
    (h : Inv ops sp T0 D0 w0 listed ⟨T, D0⟩ w) (hb : Below w.heap.size w w') (hv : ∀ d, o.dst = some d → Rt sp d v w') :
    Inv ops sp T0 D0 w0 (listed.setIfInBounds i true) (Act.put ⟨T, D0⟩ o.dst v) w' := by
  obtain ⟨h1, _, h3, h4, h5, h6⟩ := h
  have hB : Below w0.heap.size w0 w' := h1.trans (hb.mono h1.size)
  have hdi : dstOf ops i = o.dst := by unfold dstOf; rw [ho]; rfl
  cases hd : o.dst with
  | none =>
    refine ⟨hB, rfl, h3, h4, by simpa using h5, fun j d hj hjd => ?_⟩
    have hne : i ≠ j := fun e => by subst e; rw [hdi, hd] at hjd; cases hjd
    rw [getD_set_ne false hne] at hj
    obtain ⟨u, hu, hr⟩ := h6 j d hj hjd
    exact ⟨u, hu, hr.keep hb⟩
  | some d0 =>
    rw [hd] at hdi
    have hlt := (wf_dst hwf hdi).1
    refine ⟨hB, rfl, fun t ht => ?_, ?_, by simpa using h5, fun j d hj hjd => ?_⟩
    · have hne : d0 ≠ t := fun e => ht i (by rw [hdi, e])
      show (T.setIfInBounds d0 v)[t]? = _
      rw [Array.getElem?_setIfInBounds_ne hne]
      exact h3 t ht
    · show (T.setIfInBounds d0 v).size = _
      simpa using h4
    · show ∃ u, (T.setIfInBounds d0 v)[d]? = some u ∧ Rt sp d u w'
      by_cases hij : i = j
      · subst hij
        obtain rfl : d0 = d := Option.some.inj (hdi.symm.trans hjd)
        exact ⟨v, by rw [Array.getElem?_setIfInBounds_self_of_lt (by simp at h4; omega)], hv d0 hd⟩
      · rw [getD_set_ne false hij] at hj
        obtain ⟨u, hu, hr⟩ := h6 j d hj hjd
        have hne : d0 ≠ d := fun e => hij (wf_inj hwf (hdi.trans (by rw [e])) hjd)
        exact ⟨u, by rw [Array.getElem?_setIfInBounds_ne hne]; exact hu, hr.keep hb⟩

theorem any_of_obs (hwf : wfB ops T0.size = true) (hob : Obs P ops Q sp T0 D0 w0 ops.toList)
    (hfin : ∀ T w, Below w0.heap.size w0 w → (∀ t, Free ops t → T[t]? = T0[t]?) → T.size = T0.size → (∀ j d, dstOf ops j = some d → ∃ v, T[d]? = some v ∧ Rt sp d v w) → Q .normal ⟨T, D0⟩ w) :
    ∀ (fuel : Nat) (listed : Array Bool) (a : Act) (w : World), left ops.size listed ≤ fuel → Inv ops sp T0 D0 w0 listed a w → wpAny P .any ops Q fuel listed a w := by
  have fin : ∀ (listed : Array Bool) (a : Act) (w : World), Inv ops sp T0 D0 w0 listed a w → (∀ j, j < ops.size → listed.getD j true = true) → Q .normal a w := by
    rintro listed ⟨T, D⟩ w ⟨h1, rfl, h3, h4, h5, h6⟩ hall
    refine hfin T w h1 h3 h4 (fun j d hjd => h6 j d ?_ hjd)
    have hj : j < ops.size := by
      unfold dstOf at hjd
      obtain ⟨o, ho, _⟩ := Option.bind_eq_some_iff.1 hjd
      exact (Array.getElem?_eq_some_iff.1 ho).1
    have hb : j < listed.size := by omega
    simpa [Array.getD, hb] using hall j hj
  intro fuel
  induction fuel with
  | zero =>
    intro listed a w hl hI
    have hall : ∀ j, j < ops.size → listed.getD j true = true := fun j hj => by
      have h0 : left ops.size listed = 0 := by omega
      have := List.countP_eq_zero.1 h0 j (List.mem_range.2 hj)
      simpa using this
    refine ⟨?_, fin listed a w hI hall⟩
    cases hr : Region.ready .any ops listed with
    | nil => rfl
    | cons j r =>
      have hm : j ∈ Region.ready .any ops listed := by rw [hr]; exact List.mem_cons_self ..
      obtain ⟨hj, o, ho, _⟩ := mem_ready.1 hm
      have := hall j (Array.getElem?_eq_some_iff.1 ho).1
      rw [hj] at this; cases this
  | succ fuel ih =>
    intro listed a w hl hI
    refine ⟨fun hr => fin listed a w hI (all_listed hwf hI.2.2.2.2.1 hr), fun i hi => ?_⟩
    obtain ⟨hun, o, ho, hall⟩ := mem_ready.1 hi
    obtain ⟨T, D⟩ := a
    obtain rfl : D = D0 := hI.2.1
    have hob' := hob.get (i := i) (by simpa using ho)
    have hlt : i < ops.size := (Array.getElem?_eq_some_iff.1 ho).1
    have hdec : left ops.size (listed.setIfInBounds i true) ≤ fuel := by
      have : left ops.size (listed.setIfInBounds i true) < left ops.size listed := countP_lt (fun x _ hx => by
          by_cases hix : i = x
          · subst hix
            have hb : i < listed.size := by have := hI.2.2.2.2.1; omega
            simp [Array.getD, hb] at hx
          · rwa [getD_set_ne true hix] at hx) ⟨i, List.mem_range.2 hlt, by rw [hun]; rfl, by
            have hb : i < listed.size := by have := hI.2.2.2.2.1; omega
            simp [Array.getD, hb]⟩
      omega
    have hst := hob' T w (fun a' w' => wpAny P .any ops Q fuel (listed.setIfInBounds i true) a' w') hI.1 hI.2.2.1
      (fun j d ⟨e, he, hej, hb⟩ hjd => by subst hej; exact hI.2.2.2.2.2 e.on d (hall e he hb) hjd)
      (fun v w' hb hv => ih _ _ _ hdec (hI.next hwf ho hb hv))
    unfold wpOp
    simp only [ho]
    split
    · rename_i hw; rw [if_pos hw] at hst; exact .inl hst
    · rename_i hw; rw [if_neg hw] at hst; exact hst

/-- The region. -/
theorem region_obs {id : Nat} (sp : Told) (hm : P.follows .mixedOrders = true) (hwf : wfB ops T0.size = true) (hob : Obs P ops Q sp T0 D0 w0 ops.toList)
    (hfin : ∀ T w, Below w0.heap.size w0 w → (∀ t, Free ops t → T[t]? = T0[t]?) → T.size = T0.size → (∀ j d, dstOf ops j = some d → ∃ v, T[d]? = some v ∧ Rt sp d v w) → Q .normal ⟨T, D0⟩ w) :
    (Code.region id ops true).wp P Q ⟨T0, D0⟩ w0 := by
  refine wp_region_any hm (any_of_obs hwf hob hfin _ _ _ _ ?_ ?_)
  · have := List.countP_le_length (p := fun j => !(Array.replicate ops.size false).getD j true) (l := List.range ops.size)
    unfold left
    simpa using this
  · exact ⟨(Below.refl w0.heap.size w0).drew, rfl, fun t _ => rfl, rfl, by simp, fun j d hj _ => by
      exfalso
      by_cases hb : j < ops.size
      · simp [Array.getD, hb] at hj
      · simp [Array.getD, hb] at hj⟩
end

theorem obs_nil {P : Program} {ops : Array Oper} {Q : Exit → Act → World → Prop} {sp : Told} {T0 : Array Value} {D0 : List Deferred} {w0 : World} : Obs P ops Q sp T0 D0 w0 [] := trivial
theorem obs_cons {P : Program} {ops : Array Oper} {Q : Exit → Act → World → Prop} {sp : Told} {T0 : Array Value} {D0 : List Deferred} {w0 : World} {o : Oper} {r : List Oper} (h : Ob P ops Q sp T0 D0 w0 o) (g : Obs P ops Q sp T0 D0 w0 r) : Obs P ops Q sp T0 D0 w0 (o :: r) := ⟨h, g⟩
theorem get_eq {T : Array Value} {sp : Told} {d : Nat} {w : World} {x : Value} (h : ∃ v, T[d]? = some v ∧ Rt sp d v w) (hs : sp.getD d none = some (.inl x)) : T[d]? = some x := by
  obtain ⟨v, hv, hr⟩ := h
  unfold Rt at hr
  rw [hs] at hr
  rw [hv, hr]
theorem get_row {T : Array Value} {sp : Told} {d : Nat} {w : World} {l : List (Int × Int)} (h : ∃ v, T[d]? = some v ∧ Rt sp d v w) (hs : sp.getD d none = some (.inr l)) : ∃ b c, T[d]? = some (.slice (some ⟨b, 0, none⟩) l.length c) ∧ PRow w (some ⟨b, 0, none⟩) l := by
  obtain ⟨v, hv, hr⟩ := h
  unfold Rt at hr
  rw [hs] at hr
  obtain ⟨b, c, rfl, hp⟩ := hr
  exact ⟨b, c, hv, hp⟩
theorem rt_eq {sp : Told} {d : Nat} {w : World} {x : Value} (hs : sp.getD d none = some (.inl x)) : ∀ d', some d = some d' → Rt sp d' x w := fun d' h => by
  cases h; unfold Rt; rw [hs]
theorem rt_row {sp : Told} {d : Nat} {w : World} {l : List (Int × Int)} {b c n : Nat} (hs : sp.getD d none = some (.inr l)) (hn : n = l.length) (hp : PRow w (some ⟨b, 0, none⟩) l) : ∀ d', some d = some d' → Rt sp d' (.slice (some ⟨b, 0, none⟩) n c) w := fun d' h => by
  cases h; unfold Rt; rw [hs]; subst hn; exact ⟨b, c, rfl, hp⟩
theorem rt_any {sp : Told} {d : Nat} {w : World} {x : Value} (hs : sp.getD d none = none) : ∀ d', some d = some d' → Rt sp d' x w := fun d' h => by
  cases h; unfold Rt; rw [hs]; trivial
def freeB (ops : Array Oper) (t : Nat) : Bool := ops.all fun o => decide (o.dst ≠ some t)
theorem free_of {ops : Array Oper} {t : Nat} (h : freeB ops t = true) : Free ops t := fun j hj => by
  unfold dstOf at hj
  obtain ⟨o, ho, hd⟩ := Option.bind_eq_some_iff.1 hj
  have := Array.all_eq_true'.1 h o (Array.mem_of_getElem? ho)
  simp [hd] at this
theorem ob_yes {c : Prop} [Decidable c] {A B : Prop} (h : c) (a : A) : if c then A else B := by rw [if_pos h]; exact a
theorem ob_no {c : Prop} [Decidable c] {A B : Prop} (h : ¬ c) (b : B) : if c then A else B := by rw [if_neg h]; exact b
theorem wanted_none {o : Oper} {y : Nat → Option Bool} (hg : o.guard = none) : Region.wanted o y = true := by unfold Region.wanted; rw [hg]
theorem wanted_yes {ops : Array Oper} {T : Array Value} {o : Oper} {g d : Nat} {b : Bool} (hg : o.guard = some (g, b)) (hd : dstOf ops g = some d) (ht : T[d]? = some (.bool b)) : Region.wanted o (yielded ops T) = true := by
  unfold Region.wanted yielded
  rw [hg]
  unfold dstOf at hd
  simp [hd, ht]
theorem wanted_no {ops : Array Oper} {T : Array Value} {o : Oper} {g d : Nat} {b c : Bool} (hg : o.guard = some (g, b)) (hd : dstOf ops g = some d) (ht : T[d]? = some (.bool c)) (hbc : (c == b) = false) : ¬ Region.wanted o (yielded ops T) = true := by
  unfold Region.wanted yielded
  rw [hg]
  unfold dstOf at hd
  simp [hd, ht]
  simpa using hbc
end Go.Proofs.YtalhkcmlacppjaaGreatDoor


namespace Go.Proofs.YtalhkcmlacppjaaGreatDoor
open Go.ChangeShapes Go.WideShapes Go.ChangeAt Go.RowKit
section
variable {P : Program} {ops : Array Oper} {Q : Exit → Act → World → Prop} {sp : Told} {T0 : Array Value} {D0 : List Deferred} {w0 : World}
end
end Go.Proofs.YtalhkcmlacppjaaGreatDoor


namespace Go.Proofs.YtalhkcmlacppjaaGreatDoor
open Go.ChangeShapes Go.WideShapes Go.ChangeAt Go.RowKit

theorem rows_in {F : Fence} (hF : F.fn = fun _ => True) (hd : F.depth = none) (ha : F.alive = false) {n : Nat} {P : Program} {row : String} {args : Array Value} {w : World} {R : Value → World → Prop} (h : Rows P row args w R) : RowsIn F n P row args w R := by
  intro c cs _
  obtain ⟨v, w', hr, hs⟩ := h c cs
  refine ⟨v, w', hr, ?_⟩
  have := (stepsIn_wide (P := P)).2 hs
  obtain ⟨fn, d, al, ro⟩ := F
  subst hF hd ha
  exact this
theorem calls_in {F : Fence} (hF : F.fn = fun _ => True) (hd : F.depth = none) (ha : F.alive = false) {n : Nat} {P : Program} {f : FuncId} {args : Array Value} {w : World} {R : Ending → World → Prop} (h : Calls P f args w R) : CallsIn F n P f args w R := by
  have := (callsIn_wide (n := n)).2 h
  obtain ⟨fn, d, al, ro⟩ := F
  subst hF hd ha
  exact this
/-- No operation is a defer statement, and none asks to be let out. -/
theorem op_in {F : Fence} (hF : F.fn = fun _ => True) (hd : F.depth = none) (ha : F.alive = false) {n : Nat} {P : Program} {o : Oper} (hnd : ∀ c, o.op ≠ .defer c) {a : Act} {w : World} {K : Act → World → Prop} {Q : Exit → Act → World → Prop} (h : Oper.wp P o a w K Q) : o.wpIn F n P a w K Q := by
  unfold Oper.wpIn
  refine ⟨fun f _ => by rw [hF]; trivial, ?_⟩
  have hs : o.semAt F.round a.eval = execOp a.eval o := by
    cases F.round with
    | none => rfl
    | some l => exact Oper.semAt_some l _ _ hnd
  rw [hs]
  unfold Oper.wp at h
  generalize (execOp a.eval o).run P w = r at *
  cases r with
  | ok x w' =>
    cases x <;> simp only [Oper.upon, Oper.uponIn] at h ⊢ <;>
      first
        | exact h
        | exact ⟨fun e => (by rw [hd] at e; cases e), calls_in hF hd ha h⟩
        | exact ⟨fun e => (by rw [hd] at e; cases e), rows_in hF hd ha h⟩
  | halt x w' => cases x <;> simp only [Oper.upon, Oper.uponIn] at h ⊢ <;> exact h
theorem Oper.wpIn_exits {F : Fence} {n : Nat} {P : Program} {o : Oper} {a : Act} {w : World} {K : Act → World → Prop} {Q Q' : Exit → Act → World → Prop} (h : ∀ e a w, Q e a w → Q' e a w) (hh : o.wpIn F n P a w K Q) : o.wpIn F n P a w K Q' := by
  unfold Oper.wpIn at *
  refine ⟨hh.1, ?_⟩
  have hh := hh.2
  generalize (o.semAt F.round a.eval).run P w = r at *
  have hl : LetsOut Q → LetsOut Q' := fun ⟨a, w, q⟩ => ⟨a, w, h _ _ _ q⟩
  cases r with
  | ok x w' =>
    cases x <;> simp only [Oper.uponIn] at hh ⊢ <;>
      first
        | exact hh
        | exact ⟨hh.1, CallsIn.mono hh.2 (fun e w'' he => by cases e <;> first | exact he | exact h _ _ _ he | exact hl he)⟩
        | exact ⟨hh.1, RoundIn.mono hh.2 (fun e w'' he => by cases e <;> first | exact he | exact h _ _ _ he | exact hl he)⟩
  | halt x w' => cases x <;> simp only [Oper.uponIn] at hh ⊢ <;> first | exact hh | exact h _ _ _ hh
def noDefer (ops : Array Oper) : Bool := ops.all fun o => match o.op with | .defer _ => false | _ => true
theorem noDefer_at {ops : Array Oper} (h : noDefer ops = true) {i : Nat} {o : Oper} (ho : ops[i]? = some o) : ∀ c, o.op ≠ .defer c := by
  intro c e
  have := Array.all_eq_true'.1 h o (Array.mem_of_getElem? ho)
  rw [e] at this
  cases this
section
variable {F : Fence} {n : Nat} {P : Program} {ops : Array Oper} {Q : Exit → Act → World → Prop} {sp : Told} {T0 : Array Value} {D0 : List Deferred} {w0 : World}
theorem opAt_in (hF : F.fn = fun _ => True) (hd : F.depth = none) (ha : F.alive = false) (hnd : noDefer ops = true) (hQ : ¬ LetsOut Q) {i : Nat} {K K' : Act → World → Prop} (hK : ∀ a w, K a w → K' a w) {a : Act} {w : World} (h : wpOp P ops Q i K a w) : wpOpIn F n P ops Q i K' a w := by
  refine wpOpIn_mono hK ?_
  unfold wpOp at h
  unfold wpOpIn
  cases ho : ops[i]? with
  | none => simpa [ho] using h
  | some o =>
    simp only [ho] at h ⊢
    split
    · rename_i hw
      rw [if_pos hw] at h
      rcases h with h | h
      · exact op_in hF hd ha (noDefer_at hnd ho) h
      · exact absurd h.2 hQ
    · rename_i hw
      rw [if_neg hw] at h
      exact ⟨fun f _ => by rw [hF]; trivial, h⟩
theorem any_in (hF : F.fn = fun _ => True) (hd : F.depth = none) (ha : F.alive = false) (hnd : noDefer ops = true) (hQ : ¬ LetsOut Q) : ∀ (fuel : Nat) (listed : Array Bool) (a : Act) (w : World), wpAny P .any ops Q fuel listed a w → wpAnyIn F n P .any ops Q fuel listed a w
  | 0, _, _, _, h => h
  | fuel + 1, _, _, _, h => ⟨h.1, fun i hi => opAt_in hF hd ha hnd hQ (fun a w => any_in hF hd ha hnd hQ fuel _ a w) (h.2 i hi)⟩
theorem region_obs_in {id : Nat} (sp : Told) (hF : F.fn = fun _ => True) (hd : F.depth = none) (ha : F.alive = false) (hnd : noDefer ops = true) (hQ : ¬ LetsOut Q) (hm : P.follows .mixedOrders = true) (hwf : wfB ops T0.size = true) (hob : Obs P ops Q sp T0 D0 w0 ops.toList)
    (hfin : ∀ T w, Below w0.heap.size w0 w → (∀ t, Free ops t → T[t]? = T0[t]?) → T.size = T0.size → (∀ j d, dstOf ops j = some d → ∃ v, T[d]? = some v ∧ Rt sp d v w) → Q .normal ⟨T, D0⟩ w) :
    (Code.region id ops true).wpIn F n P Q ⟨T0, D0⟩ w0 := by
  refine wpIn_region_any hm (any_in hF hd ha hnd hQ _ _ _ _ (any_of_obs hwf hob hfin _ _ _ _ ?_ ?_))
  · have := List.countP_le_length (p := fun j => !(Array.replicate ops.size false).getD j true) (l := List.range ops.size)
    unfold left
    simpa using this
  · exact ⟨(Below.refl w0.heap.size w0).drew, rfl, fun t _ => rfl, rfl, by simp, fun j d hj _ => by
      exfalso
      by_cases hb : j < ops.size
      · simp [Array.getD, hb] at hj
      · simp [Array.getD, hb] at hj⟩
end
def preds (ops : Array Oper) (i : Nat) : List Nat := match ops[i]? with
  | none => []
  | some o => o.after.toList.filterMap fun e => if Region.binds .any e then some e.on else none
def anc (ops : Array Oper) : Nat → Nat → List Nat
  | 0, _ => []
  | f + 1, i => preds ops i ++ (preds ops i).flatMap (anc ops f)
def forced (ops : Array Oper) (m : Nat) : Bool := (List.range ops.size).all fun i => decide (i < m) || (List.range i).all fun j => decide (j ∈ anc ops ops.size i)
def Shut (ops : Array Oper) (listed : Array Bool) : Prop := ∀ i, listed.getD i false = true → ∀ j ∈ preds ops i, listed.getD j false = true
theorem anc_in {ops : Array Oper} {listed : Array Bool} (hs : Shut ops listed) : ∀ (f i : Nat), (∀ j ∈ preds ops i, listed.getD j false = true) → ∀ j ∈ anc ops f i, listed.getD j false = true
  | 0, _, _, _, h => by simp [anc] at h
  | f + 1, i, hp, j, h => by
    simp only [anc, List.mem_append, List.mem_flatMap] at h
    rcases h with h | ⟨k, hk, hj⟩
    · exact hp j h
    · exact anc_in hs f k (hs k (hp k hk)) j hj
theorem forced_at {ops : Array Oper} {m : Nat} (h : forced ops m = true) {i : Nat} (hm : m ≤ i) (hi : i < ops.size) : ∀ j, j < i → j ∈ anc ops ops.size i := by
  have := List.all_eq_true.1 h i (List.mem_range.2 hi)
  simp only [Bool.or_eq_true, decide_eq_true_eq] at this
  rcases this with h | h
  · omega
  · intro j hj
    simpa using List.all_eq_true.1 h j (List.mem_range.2 hj)
theorem ready_preds {ops : Array Oper} {listed : Array Bool} (hsz : listed.size = ops.size) {i : Nat} (hwf : ∀ {i : Nat} {o : Oper}, ops[i]? = some o → ∀ e ∈ o.after, Region.binds .any e = true → e.on < i) (h : i ∈ Region.ready .any ops listed) : ∀ j ∈ preds ops i, listed.getD j false = true := by
  obtain ⟨_, o, ho, hall⟩ := mem_ready.1 h
  have hi := (Array.getElem?_eq_some_iff.1 ho).1
  intro j hj
  unfold preds at hj
  rw [ho] at hj
  simp only [List.mem_filterMap] at hj
  obtain ⟨e, he, hb⟩ := hj
  split at hb
  · rename_i hbb
    simp at hb
    subst hb
    have hlt := hwf ho e (by simpa using he) hbb
    have := hall e (by simpa using he) hbb
    have hb : e.on < listed.size := by omega
    simpa [Array.getD, hb] using this
  · cases hb
theorem getD_tf {listed : Array Bool} {j : Nat} (h : j < listed.size) : listed.getD j true = listed.getD j false := by simp [Array.getD, h]

section
variable {F : Fence} {n : Nat} {P : Program} {ops : Array Oper} {Q : Exit → Act → World → Prop} {sp : Told} {T0 : Array Value} {D0 : List Deferred} {w0 : World}
theorem tail_in {N m : Nat} (hwf : wfB ops N = true) (hfo : forced ops m = true) : ∀ (k i : Nat) (listed : Array Bool) (a : Act) (w : World) (fuel : Nat), m ≤ i → i + k = ops.size → listed.size = ops.size → (∀ j, j < ops.size → (listed.getD j false = true ↔ j < i)) → left ops.size listed ≤ fuel → wpOpsIn F n P ops Q (List.range' i k) a w → wpAnyIn F n P .any ops Q fuel listed a w := by
  intro k
  induction k with
  | zero =>
    intro i listed a w fuel _ hik hsz hl _ h
    have hr : Region.ready .any ops listed = [] := by
      cases hr : Region.ready .any ops listed with
      | nil => rfl
      | cons j r =>
        have hm : j ∈ Region.ready .any ops listed := by rw [hr]; exact List.mem_cons_self ..
        obtain ⟨hj, o, ho, _⟩ := mem_ready.1 hm
        have hlt := (Array.getElem?_eq_some_iff.1 ho).1
        rw [getD_tf (by omega), (hl j hlt).2 (by omega)] at hj
        cases hj
    cases fuel with
    | zero => exact ⟨hr, h⟩
    | succ f => exact ⟨fun _ => h, fun i hi => by rw [hr] at hi; cases hi⟩
  | succ k ih =>
    intro i listed a w fuel hmi hik hsz hl hf h
    have hi : i < ops.size := by omega
    have hun : listed.getD i false = false := by
      cases e : listed.getD i false with
      | false => rfl
      | true => have := (hl i hi).1 e; omega
    have hdec : left ops.size (listed.setIfInBounds i true) < left ops.size listed := countP_lt (fun x _ hx => by
        by_cases hix : i = x
        · subst hix
          have hb : i < listed.size := by omega
          simp [Array.getD, hb] at hx
        · rwa [getD_set_ne true hix] at hx) ⟨i, List.mem_range.2 hi, by rw [getD_tf (by omega), hun]; rfl, by
          have hb : i < listed.size := by omega
          simp [Array.getD, hb]⟩
    obtain ⟨f, rfl⟩ : ∃ f, fuel = f + 1 := ⟨fuel - 1, by omega⟩
    refine ⟨fun hr => ?_, fun i' hi' => ?_⟩
    · have := all_listed hwf hsz hr i hi
      rw [getD_tf (by omega), hun] at this
      cases this
    · have hp := ready_preds hsz (fun ho => wf_after hwf ho) hi'
      obtain ⟨hj, o, ho, _⟩ := mem_ready.1 hi'
      have hlt := (Array.getElem?_eq_some_iff.1 ho).1
      have hge : i ≤ i' := by
        rcases Nat.lt_or_ge i' i with g | g
        · rw [getD_tf (by omega), (hl i' hlt).2 g] at hj; cases hj
        · exact g
      have hsh : Shut ops listed := fun x hx j hjx => by
        have hxs : x < ops.size := by
          rcases Nat.lt_or_ge x ops.size with g | g
          · exact g
          · simp [Array.getD, show ¬ x < listed.size by omega] at hx
        have hxi := (hl x hxs).1 hx
        have : j < x := by
          unfold preds at hjx
          cases hox : ops[x]? with
          | none => rw [hox] at hjx; cases hjx
          | some ox =>
            rw [hox] at hjx
            simp only [List.mem_filterMap] at hjx
            obtain ⟨e, he, hb⟩ := hjx
            split at hb
            · rename_i hbb; simp at hb; subst hb; exact wf_after hwf hox e (by simpa using he) hbb
            · cases hb
        exact (hl j (by omega)).2 (by omega)
      obtain rfl : i' = i := by
        rcases Nat.lt_or_ge i i' with g | g
        · have := anc_in hsh ops.size i' hp i (forced_at hfo (by omega) hlt i g)
          rw [hun] at this; cases this
        · omega
      rw [List.range'_succ, wpOpsIn_cons] at h
      refine wpOpIn_mono (fun a w h => ih (i' + 1) _ a w f (by omega) (by omega) (by simpa using hsz) (fun j hjs => ?_) (by omega) h) h
      by_cases hij : i' = j
      · subst hij
        have hb : i' < listed.size := by omega
        simp [Array.getD, hb]
      · rw [getD_set_ne false hij, hl j hjs]; omega
theorem head_in (hF : F.fn = fun _ => True) (hd : F.depth = none) (ha : F.alive = false) (hnd : noDefer ops = true) {m : Nat} (hm : m < ops.size) (hfo : forced ops m = true) (hwf : wfB ops T0.size = true) (hob : ∀ Q' : Exit → Act → World → Prop, Obs P ops Q' sp T0 D0 w0 (ops.toList.take m))
    (hfin : ∀ T w, Below w0.heap.size w0 w → (∀ t, Free ops t → T[t]? = T0[t]?) → T.size = T0.size → (∀ j d, j < m → dstOf ops j = some d → ∃ v, T[d]? = some v ∧ Rt sp d v w) → wpOpsIn F n P ops Q (List.range' m (ops.size - m)) ⟨T, D0⟩ w) :
    ∀ (fuel : Nat) (listed : Array Bool) (a : Act) (w : World), left ops.size listed ≤ fuel → Inv ops sp T0 D0 w0 listed a w → Shut ops listed → (∀ i, m ≤ i → listed.getD i false = false) → wpAnyIn F n P .any ops Q fuel listed a w := by
  intro fuel
  induction fuel with
  | zero =>
    intro listed a w hl hI _ hno
    exfalso
    have h0 : left ops.size listed = 0 := by omega
    have := List.countP_eq_zero.1 h0 m (List.mem_range.2 hm)
    have hsz := hI.2.2.2.2.1
    rw [getD_tf (by omega), hno m (Nat.le_refl _)] at this
    simp at this
  | succ fuel ih =>
    intro listed a w hl hI hsh hno
    have hsz := hI.2.2.2.2.1
    refine ⟨fun hr => ?_, fun i hi => ?_⟩
    · have := all_listed hwf hsz hr m hm
      rw [getD_tf (by omega), hno m (Nat.le_refl _)] at this
      cases this
    obtain ⟨hun, o, ho, hall⟩ := mem_ready.1 hi
    have hp := ready_preds hsz (fun ho => wf_after hwf ho) hi
    have hlt : i < ops.size := (Array.getElem?_eq_some_iff.1 ho).1
    have hdec : left ops.size (listed.setIfInBounds i true) ≤ fuel := by
      have : left ops.size (listed.setIfInBounds i true) < left ops.size listed := countP_lt (fun x _ hx => by
          by_cases hix : i = x
          · subst hix
            have hb : i < listed.size := by omega
            simp [Array.getD, hb] at hx
          · rwa [getD_set_ne true hix] at hx) ⟨i, List.mem_range.2 hlt, by rw [hun]; rfl, by
            have hb : i < listed.size := by omega
            simp [Array.getD, hb]⟩
      omega
    obtain ⟨T, D⟩ := a
    obtain rfl : D = D0 := hI.2.1
    rcases Nat.lt_or_ge i m with him | him
    · have hob' := (hob fun _ _ _ => False).get (i := i) (o := o) (by rw [List.getElem?_take_of_lt him]; simpa using ho)
      have hst := hob' T w (fun a' w' => wpAnyIn F n P .any ops Q fuel (listed.setIfInBounds i true) a' w') hI.1 hI.2.2.1
        (fun j d ⟨e, he, hej, hb⟩ hjd => by subst hej; exact hI.2.2.2.2.2 e.on d (hall e he hb) hjd)
        (fun v w' hb hv => ih _ _ _ hdec (hI.next hwf ho hb hv) (fun x hx j hj => by
          by_cases hij : i = j
          · subst hij
            have hb : i < listed.size := by omega
            simp [Array.getD, hb]
          · rw [getD_set_ne false hij]
            by_cases hix : i = x
            · subst hix; exact hp j hj
            · rw [getD_set_ne false hix] at hx; exact hsh x hx j hj) (fun j hj => by rw [getD_set_ne false (by omega)]; exact hno j hj))
      unfold wpOpIn
      simp only [ho]
      split
      · rename_i hw
        rw [if_pos hw] at hst
        have := op_in (n := n) hF hd ha (noDefer_at hnd ho) hst
        refine _root_.Go.Proofs.YtalhkcmlacppjaaGreatDoor.Oper.wpIn_exits ?_ this
        intro e a w h
        exact h.elim
      · rename_i hw; rw [if_neg hw] at hst; exact ⟨fun f _ => by rw [hF]; trivial, hst⟩
    · have hanc := anc_in hsh ops.size i hp
      obtain rfl : i = m := by
        rcases Nat.lt_or_ge m i with g | g
        · have := hanc m (forced_at hfo him hlt m g)
          rw [hno m (Nat.le_refl _)] at this; cases this
        · omega
      have hfull : ∀ j, j < i → listed.getD j false = true := fun j hj => hanc j (forced_at hfo (Nat.le_refl _) hlt j hj)
      have h := hfin T w hI.1 hI.2.2.1 hI.2.2.2.1 (fun j d hj hjd => hI.2.2.2.2.2 j d (hfull j hj) hjd)
      obtain ⟨k, hk⟩ : ∃ k, ops.size - i = k + 1 := ⟨ops.size - i - 1, by omega⟩
      rw [hk, List.range'_succ, wpOpsIn_cons] at h
      refine wpOpIn_mono (fun a w h => tail_in hwf hfo k (i + 1) _ a w fuel (by omega) (by omega) (by simpa using hsz) (fun j hjs => ?_) hdec h) h
      by_cases hij : i = j
      · subst hij
        have hb : i < listed.size := by omega
        simp [Array.getD, hb]
      · rw [getD_set_ne false hij]
        constructor
        · intro e
          rcases Nat.lt_or_ge j i with g | g
          · omega
          · rw [hno j g] at e; cases e
        · intro g; exact hfull j (by omega)
theorem region_head_in {id : Nat} (sp : Told) (m : Nat) (hF : F.fn = fun _ => True) (hd : F.depth = none) (ha : F.alive = false) (hnd : noDefer ops = true) (hm : m < ops.size) (hfo : forced ops m = true) (hmx : P.follows .mixedOrders = true) (hwf : wfB ops T0.size = true) (hob : ∀ Q' : Exit → Act → World → Prop, Obs P ops Q' sp T0 D0 w0 (ops.toList.take m))
    (hfin : ∀ T w, Below w0.heap.size w0 w → (∀ t, Free ops t → T[t]? = T0[t]?) → T.size = T0.size → (∀ j d, j < m → dstOf ops j = some d → ∃ v, T[d]? = some v ∧ Rt sp d v w) → wpOpsIn F n P ops Q (List.range' m (ops.size - m)) ⟨T, D0⟩ w) :
    (Code.region id ops true).wpIn F n P Q ⟨T0, D0⟩ w0 := by
  have hz : ∀ i, (Array.replicate ops.size false).getD i false = false := fun i => by
    by_cases hb : i < ops.size
    · simp [Array.getD, hb]
    · simp [Array.getD, hb]
  refine wpIn_region_any hmx (head_in hF hd ha hnd hm hfo hwf hob hfin _ _ _ _ ?_ ?_ (fun i hi => by rw [hz] at hi; cases hi) (fun i _ => hz i))
  · have := List.countP_le_length (p := fun j => !(Array.replicate ops.size false).getD j true) (l := List.range ops.size)
    unfold left
    simpa using this
  · exact ⟨(Below.refl w0.heap.size w0).drew, rfl, fun t _ => rfl, rfl, by simp, fun j d hj _ => by rw [hz] at hj; cases hj⟩
end
end Go.Proofs.YtalhkcmlacppjaaGreatDoor


namespace Go.Proofs.YtalhkcmlacppjaaGreatDoor
open Go.ChangeShapes Go.WideShapes Go.ChangeAt Go.RowKit
/-- A slot that none of the first m operations writes. -/
def FreeM (ops : Array Oper) (m t : Nat) : Prop := ∀ j, j < m → dstOf ops j ≠ some t
def freeMB (ops : Array Oper) (m t : Nat) : Bool := (List.range m).all fun j => decide (dstOf ops j ≠ some t)
theorem freeM_of {ops : Array Oper} {m t : Nat} (h : freeMB ops m t = true) : FreeM ops m t := fun j hj => by
  have := List.all_eq_true.1 h j (List.mem_range.2 hj)
  simpa using this
section
variable {F : Fence} {n : Nat} {P : Program} {ops : Array Oper} {Q : Exit → Act → World → Prop} {sp : Told} {T0 : Array Value} {D0 : List Deferred} {w0 : World}

/-- What is asked of operation o. -/
def ObM (m : Nat) (P : Program) (ops : Array Oper) (Q : Exit → Act → World → Prop) (sp : Told) (T0 : Array Value) (D0 : List Deferred) (w0 : World) (o : Oper) : Prop :=
  ∀ (T : Array Value) (w : World) (K : Act → World → Prop), Below w0.heap.size w0 w → (∀ t, FreeM ops m t → T[t]? = T0[t]?) →
    (∀ j d, (∃ e ∈ o.after, e.on = j ∧ Region.binds .any e = true) → dstOf ops j = some d → ∃ v, T[d]? = some v ∧ Rt sp d v w) →
    (∀ v w', Below w.heap.size w w' → (∀ d, o.dst = some d → Rt sp d v w') → K (Act.put ⟨T, D0⟩ o.dst v) w') →
    if Region.wanted o (yielded ops T) = true then Oper.wp P o ⟨T, D0⟩ w K Q else K (Act.put ⟨T, D0⟩ o.dst undef) w
def ObsM (m : Nat) (P : Program) (ops : Array Oper) (Q : Exit → Act → World → Prop) (sp : Told) (T0 : Array Value) (D0 : List Deferred) (w0 : World) : List Oper → Prop
  | [] => True
  | o :: r => ObM m P ops Q sp T0 D0 w0 o ∧ ObsM m P ops Q sp T0 D0 w0 r
theorem ObsM.get {m : Nat} : ∀ {l : List Oper} {i : Nat} {o : Oper}, ObsM m P ops Q sp T0 D0 w0 l → l[i]? = some o → ObM m P ops Q sp T0 D0 w0 o
  | [], _, _, _, h => by simp at h
  | x :: r, 0, o, h, e => by simp at e; subst e; exact h.1
  | x :: r, i + 1, o, h, e => ObsM.get (l := r) (i := i) h.2 (by simpa using e)

/-- What holds while the region runs. -/
def InvM (m : Nat) (ops : Array Oper) (sp : Told) (T0 : Array Value) (D0 : List Deferred) (w0 : World) (listed : Array Bool) (a : Act) (w : World) : Prop :=
  Below w0.heap.size w0 w ∧ a.defers = D0 ∧ (∀ t, FreeM ops m t → a.tmps[t]? = T0[t]?) ∧ a.tmps.size = T0.size ∧ listed.size = ops.size ∧
    ∀ j d, listed.getD j false = true → dstOf ops j = some d → ∃ v, a.tmps[d]? = some v ∧ Rt sp d v w
theorem InvM.next {m : Nat} {listed : Array Bool} {T : Array Value} {w w' : World} {i : Nat} {o : Oper} {v : Value} (hwf : wfB ops T0.size = true) (him : i < m) (ho : ops[i]? = some o)
    (h : InvM m ops sp T0 D0 w0 listed ⟨T, D0⟩ w) (hb : Below w.heap.size w w') (hv : ∀ d, o.dst = some d → Rt sp d v w') :
    InvM m ops sp T0 D0 w0 (listed.setIfInBounds i true) (Act.put ⟨T, D0⟩ o.dst v) w' := by
  obtain ⟨h1, _, h3, h4, h5, h6⟩ := h
  have hB : Below w0.heap.size w0 w' := h1.trans (hb.mono h1.size)
  have hdi : dstOf ops i = o.dst := by unfold dstOf; rw [ho]; rfl
  cases hd : o.dst with
  | none =>
    refine ⟨hB, rfl, h3, h4, by simpa using h5, fun j d hj hjd => ?_⟩
    have hne : i ≠ j := fun e => by subst e; rw [hdi, hd] at hjd; cases hjd
    rw [getD_set_ne false hne] at hj
    obtain ⟨u, hu, hr⟩ := h6 j d hj hjd
    exact ⟨u, hu, hr.keep hb⟩
  | some d0 =>
    rw [hd] at hdi
    have hlt := (wf_dst hwf hdi).1
    refine ⟨hB, rfl, fun t ht => ?_, ?_, by simpa using h5, fun j d hj hjd => ?_⟩
    · have hne : d0 ≠ t := fun e => ht i him (by rw [hdi, e])
      show (T.setIfInBounds d0 v)[t]? = _
      rw [Array.getElem?_setIfInBounds_ne hne]
      exact h3 t ht
    · show (T.setIfInBounds d0 v).size = _
      simpa using h4
    · show ∃ u, (T.setIfInBounds d0 v)[d]? = some u ∧ Rt sp d u w'
      by_cases hij : i = j
      · subst hij
        obtain rfl : d0 = d := Option.some.inj (hdi.symm.trans hjd)
        exact ⟨v, by rw [Array.getElem?_setIfInBounds_self_of_lt (by simp at h4; omega)], hv d0 hd⟩
      · rw [getD_set_ne false hij] at hj
        obtain ⟨u, hu, hr⟩ := h6 j d hj hjd
        have hne : d0 ≠ d := fun e => hij (wf_inj hwf (hdi.trans (by rw [e])) hjd)
        exact ⟨u, by rw [Array.getElem?_setIfInBounds_ne hne]; exact hu, hr.keep hb⟩

theorem headM_in (hF : F.fn = fun _ => True) (hd : F.depth = none) (ha : F.alive = false) (hnd : noDefer ops = true) {m : Nat} (hm : m < ops.size) (hfo : forced ops m = true) (hwf : wfB ops T0.size = true) (hob : ∀ Q' : Exit → Act → World → Prop, ObsM m P ops Q' sp T0 D0 w0 (ops.toList.take m))
    (hfin : ∀ T w, Below w0.heap.size w0 w → (∀ t, FreeM ops m t → T[t]? = T0[t]?) → T.size = T0.size → (∀ j d, j < m → dstOf ops j = some d → ∃ v, T[d]? = some v ∧ Rt sp d v w) → wpOpsIn F n P ops Q (List.range' m (ops.size - m)) ⟨T, D0⟩ w) :
    ∀ (fuel : Nat) (listed : Array Bool) (a : Act) (w : World), left ops.size listed ≤ fuel → InvM m ops sp T0 D0 w0 listed a w → Shut ops listed → (∀ i, m ≤ i → listed.getD i false = false) → wpAnyIn F n P .any ops Q fuel listed a w := by
  intro fuel
  induction fuel with
  | zero =>
    intro listed a w hl hI _ hno
    exfalso
    have h0 : left ops.size listed = 0 := by omega
    have := List.countP_eq_zero.1 h0 m (List.mem_range.2 hm)
    have hsz := hI.2.2.2.2.1
    rw [getD_tf (by omega), hno m (Nat.le_refl _)] at this
    simp at this
  | succ fuel ih =>
    intro listed a w hl hI hsh hno
    have hsz := hI.2.2.2.2.1
    refine ⟨fun hr => ?_, fun i hi => ?_⟩
    · have := all_listed hwf hsz hr m hm
      rw [getD_tf (by omega), hno m (Nat.le_refl _)] at this
      cases this
    obtain ⟨hun, o, ho, hall⟩ := mem_ready.1 hi
    have hp := ready_preds hsz (fun ho => wf_after hwf ho) hi
    have hlt : i < ops.size := (Array.getElem?_eq_some_iff.1 ho).1
    have hdec : left ops.size (listed.setIfInBounds i true) ≤ fuel := by
      have : left ops.size (listed.setIfInBounds i true) < left ops.size listed := countP_lt (fun x _ hx => by
          by_cases hix : i = x
          · subst hix
            have hb : i < listed.size := by omega
            simp [Array.getD, hb] at hx
          · rwa [getD_set_ne true hix] at hx) ⟨i, List.mem_range.2 hlt, by rw [hun]; rfl, by
            have hb : i < listed.size := by omega
            simp [Array.getD, hb]⟩
      omega
    obtain ⟨T, D⟩ := a
    obtain rfl : D = D0 := hI.2.1
    rcases Nat.lt_or_ge i m with him | him
    · have hob' := (hob fun _ _ _ => False).get (i := i) (o := o) (by rw [List.getElem?_take_of_lt him]; simpa using ho)
      have hst := hob' T w (fun a' w' => wpAnyIn F n P .any ops Q fuel (listed.setIfInBounds i true) a' w') hI.1 hI.2.2.1
        (fun j d ⟨e, he, hej, hb⟩ hjd => by subst hej; exact hI.2.2.2.2.2 e.on d (hall e he hb) hjd)
        (fun v w' hb hv => ih _ _ _ hdec (hI.next hwf him ho hb hv) (fun x hx j hj => by
          by_cases hij : i = j
          · subst hij
            have hb : i < listed.size := by omega
            simp [Array.getD, hb]
          · rw [getD_set_ne false hij]
            by_cases hix : i = x
            · subst hix; exact hp j hj
            · rw [getD_set_ne false hix] at hx; exact hsh x hx j hj) (fun j hj => by rw [getD_set_ne false (by omega)]; exact hno j hj))
      unfold wpOpIn
      simp only [ho]
      split
      · rename_i hw
        rw [if_pos hw] at hst
        have := op_in (n := n) hF hd ha (noDefer_at hnd ho) hst
        refine _root_.Go.Proofs.YtalhkcmlacppjaaGreatDoor.Oper.wpIn_exits ?_ this
        intro e a w h
        exact h.elim
      · rename_i hw; rw [if_neg hw] at hst; exact ⟨fun f _ => by rw [hF]; trivial, hst⟩
    · have hanc := anc_in hsh ops.size i hp
      obtain rfl : i = m := by
        rcases Nat.lt_or_ge m i with g | g
        · have := hanc m (forced_at hfo him hlt m g)
          rw [hno m (Nat.le_refl _)] at this; cases this
        · omega
      have hfull : ∀ j, j < i → listed.getD j false = true := fun j hj => hanc j (forced_at hfo (Nat.le_refl _) hlt j hj)
      have h := hfin T w hI.1 hI.2.2.1 hI.2.2.2.1 (fun j d hj hjd => hI.2.2.2.2.2 j d (hfull j hj) hjd)
      obtain ⟨k, hk⟩ : ∃ k, ops.size - i = k + 1 := ⟨ops.size - i - 1, by omega⟩
      rw [hk, List.range'_succ, wpOpsIn_cons] at h
      refine wpOpIn_mono (fun a w h => tail_in hwf hfo k (i + 1) _ a w fuel (by omega) (by omega) (by simpa using hsz) (fun j hjs => ?_) hdec h) h
      by_cases hij : i = j
      · subst hij
        have hb : i < listed.size := by omega
        simp [Array.getD, hb]
      · rw [getD_set_ne false hij]
        constructor
        · intro e
          rcases Nat.lt_or_ge j i with g | g
          · omega
          · rw [hno j g] at e; cases e
        · intro g; exact hfull j (by omega)
theorem region_headM {id : Nat} (sp : Told) (m : Nat) (hF : F.fn = fun _ => True) (hd : F.depth = none) (ha : F.alive = false) (hnd : noDefer ops = true) (hm : m < ops.size) (hfo : forced ops m = true) (hmx : P.follows .mixedOrders = true) (hwf : wfB ops T0.size = true) (hob : ∀ Q' : Exit → Act → World → Prop, ObsM m P ops Q' sp T0 D0 w0 (ops.toList.take m))
    (hfin : ∀ T w, Below w0.heap.size w0 w → (∀ t, FreeM ops m t → T[t]? = T0[t]?) → T.size = T0.size → (∀ j d, j < m → dstOf ops j = some d → ∃ v, T[d]? = some v ∧ Rt sp d v w) → wpOpsIn F n P ops Q (List.range' m (ops.size - m)) ⟨T, D0⟩ w) :
    (Code.region id ops true).wpIn F n P Q ⟨T0, D0⟩ w0 := by
  have hz : ∀ i, (Array.replicate ops.size false).getD i false = false := fun i => by
    by_cases hb : i < ops.size
    · simp [Array.getD, hb]
    · simp [Array.getD, hb]
  refine wpIn_region_any hmx (headM_in hF hd ha hnd hm hfo hwf hob hfin _ _ _ _ ?_ ?_ (fun i hi => by rw [hz] at hi; cases hi) (fun i _ => hz i))
  · have := List.countP_le_length (p := fun j => !(Array.replicate ops.size false).getD j true) (l := List.range ops.size)
    unfold left
    simpa using this
  · exact ⟨(Below.refl w0.heap.size w0).drew, rfl, fun t _ => rfl, rfl, by simp, fun j d hj _ => by rw [hz] at hj; cases hj⟩
end
theorem obsM_nil {m : Nat} {P : Program} {ops : Array Oper} {Q : Exit → Act → World → Prop} {sp : Told} {T0 : Array Value} {D0 : List Deferred} {w0 : World} : ObsM m P ops Q sp T0 D0 w0 [] := trivial
theorem obsM_cons {m : Nat} {P : Program} {ops : Array Oper} {Q : Exit → Act → World → Prop} {sp : Told} {T0 : Array Value} {D0 : List Deferred} {w0 : World} {o : Oper} {r : List Oper} (h : ObM m P ops Q sp T0 D0 w0 o) (g : ObsM m P ops Q sp T0 D0 w0 r) : ObsM m P ops Q sp T0 D0 w0 (o :: r) := ⟨h, g⟩
end Go.Proofs.YtalhkcmlacppjaaGreatDoor


namespace Go.Proofs.YtalhkcmlacppjaaGreatDoor
open Go.ChangeShapes Go.WideShapes Go.ChangeAt Go.RowKit
set_option linter.unusedVariables false

theorem conc_aux {T : Array Value} : ∀ (l : List (Nat × Value)) (A : Array Value), A.size = T.size → (∀ p ∈ l, T[p.1]? = some p.2) → (∀ t, A[t]? = T[t]? ∨ ∃ p ∈ l, p.1 = t) → l.foldl (fun A p => A.setIfInBounds p.1 p.2) A = T
  | [], A, hs, hl, hA => by
    show A = T
    refine Array.ext hs fun i h1 h2 => ?_
    have := hA i
    rcases this with h | ⟨p, hp, _⟩
    · rw [Array.getElem?_eq_getElem h1, Array.getElem?_eq_getElem h2] at h
      exact Option.some.inj h
    · simp at hp
  | p :: l, A, hs, hl, hA => by
    refine conc_aux l _ (by simpa using hs) (fun q hq => hl q (List.mem_cons_of_mem _ hq)) fun t => ?_
    by_cases e : t = p.1
    · subst e
      left
      have h := hl p List.mem_cons_self
      have hlt : p.1 < T.size := by
        rcases Nat.lt_or_ge p.1 T.size with g | g
        · exact g
        · rw [Array.getElem?_eq_none g] at h; cases h
      rw [h, Array.getElem?_setIfInBounds_self_of_lt (by omega)]
    · rcases hA t with h | ⟨q, hq, e2⟩
      · left
        rw [Array.getElem?_setIfInBounds_ne (by omega)]
        exact h
      · rcases List.mem_cons.1 hq with rfl | hq
        · exact absurd e2.symm e
        · exact .inr ⟨q, hq, e2⟩
theorem conc {T T0 : Array Value} {ops : Array Oper} {m : Nat} (l : List (Nat × Value)) (hs : T.size = T0.size) (hF : ∀ t, FreeM ops m t → T[t]? = T0[t]?) (hl : ∀ p ∈ l, T[p.1]? = some p.2) (hc : ((List.range m).all fun j => (dstOf ops j).all fun t => l.any fun p => p.1 == t) = true) : T = l.foldl (fun A p => A.setIfInBounds p.1 p.2) T0 := by
  refine (conc_aux l T0 hs.symm hl fun t => ?_).symm
  by_cases h : FreeM ops m t
  · exact .inl (hF t h).symm
  · right
    obtain ⟨j, hj⟩ := Classical.not_forall.1 h
    obtain ⟨hjm, hd⟩ := Classical.not_imp.1 hj
    have hd : dstOf ops j = some t := Classical.not_not.1 hd
    have := List.all_eq_true.1 hc j (List.mem_range.2 hjm)
    rw [hd] at this
    obtain ⟨p, hp, e⟩ := List.any_eq_true.1 (show (l.any fun p => p.1 == t) = true from this)
    exact ⟨p, hp, by simpa using e⟩
/-- The same for a region whose operations are all told. -/
theorem concF {T T0 : Array Value} {ops : Array Oper} (l : List (Nat × Value)) (hs : T.size = T0.size) (hF : ∀ t, Free ops t → T[t]? = T0[t]?) (hl : ∀ p ∈ l, T[p.1]? = some p.2) (hc : ((List.range ops.size).all fun j => (dstOf ops j).all fun t => l.any fun p => p.1 == t) = true) : T = l.foldl (fun A p => A.setIfInBounds p.1 p.2) T0 :=
  conc l hs (fun t ht => hF t (fun j hj => by
    by_cases h : j < ops.size
    · exact ht j h hj
    · unfold dstOf at hj
      rw [Array.getElem?_eq_none (by omega)] at hj
      cases hj)) hl hc
end Go.Proofs.YtalhkcmlacppjaaGreatDoor



