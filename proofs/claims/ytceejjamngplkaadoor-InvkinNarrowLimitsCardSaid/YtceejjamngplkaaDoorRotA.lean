/- Contracts of the leaves of package rotation: wrap, CosSin, Inverse, turn, power, denomPower, within. Condition at CosSin and turn: the table 'quadrant' lies as the program's text lays it ('Tab'). -/
import Derived.Test.YtceejjamngplkaaDoorRows
import Derived.WalkKit
import Derived.ProofKit
import Derived.OpenShut
import Derived.Handy
import Derived.BigQuiet
import Derived.Deep.QuietTactic
import Derived.Lib.Hide
namespace Go.Proofs.YtceejjamngplkaaDoor
open Go.ChangeShapes Go.WideShapes Go.ChangeAt Go.RowKit

theorem ret_int {k : IntKind} {a b : Int} (h : a = b) : Ending.returned (.int k a) = .returned (.int k b) := by rw [h]
theorem ret_bool {a b : Bool} (h : a = b) : Ending.returned (.bool a) = .returned (.bool b) := by rw [h]
theorem ret_twoR {k : IntKind} {a b c d : Int} (h : a = b) (g : c = d) : Ending.returned (.tuple #[.int k a, .int k c]) = .returned (.tuple #[.int k b, .int k d]) := by rw [h, g]

theorem bcellR {W w1 : World} (hb : Below W.heap.size W w1) : (∀ b o, b < W.heap.size → w1.cell? ⟨b, o, none⟩ = W.cell? ⟨b, o, none⟩) ∧ (∀ b o, b < W.heap.size → w1.frozen? ⟨b, o, none⟩ = W.frozen? ⟨b, o, none⟩) :=
  ⟨fun b o h => hb.cell (p := ⟨b, o, none⟩) h, fun b o h => hb.frozen (p := ⟨b, o, none⟩) h⟩

/-! ### The numbers -/
def crow (k : Nat) : Int := [65, 63, 60, 56, 52, 39, 33, 25, 16].getD k 0
def srow (k : Nat) : Int := [0, 16, 25, 33, 39, 52, 56, 60, 63].getD k 0
def rotk : Nat → Int × Int → Int × Int
  | 0, p => p
  | n + 1, p => (-(rotk n p).2, (rotk n p).1)
def csF (k : Nat) : Int × Int := rotk (k / 9) (crow (k % 9), srow (k % 9))
def invF (k : Int) : Int := if k < 18 then -k else 36 - k

theorem row_bd (k : Nat) : 0 ≤ crow k ∧ crow k ≤ 65 ∧ 0 ≤ srow k ∧ srow k ≤ 65 := by
  by_cases h : k < 9
  · have : k = 0 ∨ k = 1 ∨ k = 2 ∨ k = 3 ∨ k = 4 ∨ k = 5 ∨ k = 6 ∨ k = 7 ∨ k = 8 := by omega
    rcases this with rfl | rfl | rfl | rfl | rfl | rfl | rfl | rfl | rfl <;> decide
  · unfold crow srow
    rw [List.getD_eq_getElem?_getD, List.getD_eq_getElem?_getD, List.getElem?_eq_none (by simp; omega), List.getElem?_eq_none (by simp; omega)]; decide
theorem rotk_bd (n : Nat) (a b : Int) (ha : -65 ≤ a ∧ a ≤ 65) (hb : -65 ≤ b ∧ b ≤ 65) : (-65 ≤ (rotk n (a, b)).1 ∧ (rotk n (a, b)).1 ≤ 65) ∧ -65 ≤ (rotk n (a, b)).2 ∧ (rotk n (a, b)).2 ≤ 65 := by
  induction n with
  | zero => simp only [rotk]; omega
  | succ n ih => simp only [rotk]; omega
theorem csF_bd (k : Nat) : (-65 ≤ (csF k).1 ∧ (csF k).1 ≤ 65) ∧ -65 ≤ (csF k).2 ∧ (csF k).2 ≤ 65 := by
  have h := row_bd (k % 9)
  exact rotk_bd _ _ _ (by omega) (by omega)
theorem csF_of (q : Int) (n : Nat) (h : (n : Int) = q % 36 / 9) : csF (q % 36).toNat = rotk n (crow (q % 9).toNat, srow (q % 9).toNat) := by
  unfold csF
  rw [show (q % 36).toNat / 9 = n by omega, show (q % 36).toNat % 9 = (q % 9).toNat by omega]

theorem wrap_tmod (q : Int) (h : -9223372036854775808 ≤ q ∧ q ≤ 9223372036854775807) : (wrap64 (q.tmod 36 + 36)).tmod 36 = q % 36 := by
  obtain ⟨h1, h2⟩ := h
  have a := Int.tmod_eq_emod (a := q) (b := 36)
  rw [IntWalk.wrap64_in _ ⟨by split at a <;> omega, by split at a <;> omega⟩]
  rw [Int.tmod_eq_emod_of_nonneg (by split at a <;> omega)]
  split at a <;> omega

/-! ### The table -/
def Tab (w : World) : Prop := ∀ k, k < 9 → w.cell? ⟨0, k * 2, none⟩ = some (.int .i64 (crow k)) ∧ w.cell? ⟨0, k * 2 + 1, none⟩ = some (.int .i64 (srow k))
theorem Tab.pos {w : World} (h : Tab w) : 0 < w.heap.size := by
  rcases Nat.eq_zero_or_pos w.heap.size with h0 | h1
  · have := (h 0 (by omega)).1
    simp [World.cell?, h0] at this
  · exact h1
theorem Tab.below {w w' : World} (h : Tab w) (hb : Below w.heap.size w w') : Tab w' := fun k hk => by
  have hp := h.pos
  rw [hb.cell (p := ⟨0, k * 2, none⟩) hp, hb.cell (p := ⟨0, k * 2 + 1, none⟩) hp]
  exact h k hk
theorem Tab.alloc {w : World} (h : Tab w) (o : Obj) : Tab (w.alloc o) := h.below ((Below.refl _ _).alloc (Nat.le_refl _) o)
theorem Tab.drewN {w : World} (h : Tab w) (n : Nat) : Tab (w.drewN n) := fun k hk => by
  have := h k hk
  simpa using this
theorem Tab.drew {w : World} (h : Tab w) : Tab w.drew := h.drewN 1
theorem Tab.setCell {w : World} (h : Tab w) {p : Addr} (hp : 0 < p.block) (v : Value) : Tab (w.setCell p v) := fun k hk => by
  have hb : Below 1 w (w.setCell p v) := (Below.refl _ _).setCell hp v
  rw [hb.cell (p := ⟨0, k * 2, none⟩) (by simp), hb.cell (p := ⟨0, k * 2 + 1, none⟩) (by simp)]
  exact h k hk
theorem below_drewN {B : Nat} {a w : World} (h : Below B a w) (n : Nat) : Below B a (w.drewN n) := h.trans ⟨rfl, rfl, rfl, by simp, fun _ _ => by simp⟩

/-! ### The contracts -/
theorem wrap_any (q : Int) (w : World) (h : -9223372036854775808 ≤ q ∧ q ≤ 9223372036854775807) :
    Calls Tryd.prog 60 #[.int .i64 q] w fun e w' => e = .returned (.int .i64 (q % 36)) ∧ w = w' := by
  have H := Lib.hid (wrap_tmod q h)
  obtain ⟨h1, h2⟩ := h
  go_enter Tryd.func60, Tryd.ntmps60
  go_wp2
  go_ret
  exact ⟨ret_int H.out, rfl⟩

set_option maxHeartbeats 400000 in
theorem cossin_any (q : Int) (w : World) (hT : Tab w) (h : -9223372036854775808 ≤ q ∧ q ≤ 9223372036854775807) :
    Calls Tryd.prog 58 #[.int .i64 q] w fun e w' => e = .returned (.tuple #[.int .i64 (csF (q % 36).toNat).1, .int .i64 (csF (q % 36).toNat).2]) ∧ Below w.heap.size w w' := by
  obtain ⟨h0, h1⟩ := hT (q % 9).toNat (by omega)
  obtain ⟨b1, b2, b3, b4⟩ := row_bd (q % 9).toNat
  clear hT
  have hz : 0 ≤ q % 36 / 9 := by omega
  have hz2 : q % 36 / 9 ≤ 3 := by omega
  go_enter Tryd.func58, Tryd.ntmps58
  go_wp2_with (go_at_call 60; refine (wrap_any _ _ h).mono ?_; rintro e w' ⟨rfl, rfl⟩)
  go_quiet (fail)
  go_wp2
  go_loop [5, 6, 19] (fun c s i => ∃ k : Nat, (k : Int) ≤ q % 36 / 9 ∧ i = .int .i64 k ∧ c = .int .i64 (rotk k (crow (q % 9).toNat, srow (q % 9).toNat)).1 ∧ s = .int .i64 (rotk k (crow (q % 9).toNat, srow (q % 9).toNat)).2) (fun _ _ i => (q % 36 / 9 - intOf i).toNat)
  case atStart => exact ⟨0, by omega, rfl, rfl, rfl⟩
  case round =>
    obtain ⟨k, hk, rfl, rfl, rfl⟩ := hrel
    obtain ⟨⟨c1, c2⟩, c3, c4⟩ := rotk_bd k (crow (q % 9).toNat) (srow (q % 9).toNat) (by omega) (by omega)
    by_cases hlt : (k : Int) < q % 36 / 9
    · go_wp2
      go_round
      case rel => exact ⟨k + 1, by omega, by go_num, rfl, rfl⟩
      case measure => simp [intOf]; omega
    · have e := Lib.hid (csF_of q k (by omega))
      go_wp2
      go_ret2
      exact ⟨ret_twoR (by rw [e.out]) (by rw [e.out]), below_drewN ((Below.refl _ _).alloc (Nat.le_refl _) _) _⟩

theorem mul_bdR {x c B : Int} (hx : -B ≤ x ∧ x ≤ B) (hc : -65 ≤ c ∧ c ≤ 65) : -(65 * B) ≤ x * c ∧ x * c ≤ 65 * B := by
  obtain ⟨x1, x2⟩ := hx
  obtain ⟨c1, c2⟩ := hc
  have a1 : 0 ≤ (B - x) * (65 - c) := Int.mul_nonneg (by omega) (by omega)
  have a2 : 0 ≤ (B - x) * (65 + c) := Int.mul_nonneg (by omega) (by omega)
  have a3 : 0 ≤ (B + x) * (65 - c) := Int.mul_nonneg (by omega) (by omega)
  have a4 : 0 ≤ (B + x) * (65 + c) := Int.mul_nonneg (by omega) (by omega)
  simp only [Int.add_mul, Int.sub_mul, Int.mul_add, Int.mul_sub] at a1 a2 a3 a4
  have e1 := Int.mul_comm B 65
  have e2 := Int.mul_comm x 65
  omega

set_option maxHeartbeats 400000 in
theorem turn_any (x y q : Int) (w : World) (hT : Tab w) (hx : -1000000000000 ≤ x ∧ x ≤ 1000000000000) (hy : -1000000000000 ≤ y ∧ y ≤ 1000000000000) (h : -9223372036854775808 ≤ q ∧ q ≤ 9223372036854775807) :
    Calls Tryd.prog 54 #[.int .i64 x, .int .i64 y, .int .i64 q] w fun e w' => e = .returned (.tuple #[.int .i64 (x * (csF (q % 36).toNat).1 - y * (csF (q % 36).toNat).2), .int .i64 (x * (csF (q % 36).toNat).2 + y * (csF (q % 36).toNat).1)]) ∧ Below w.heap.size w w' := by
  obtain ⟨hc, hs⟩ := csF_bd (q % 36).toNat
  obtain ⟨p1, p2⟩ := mul_bdR hx hc
  obtain ⟨p3, p4⟩ := mul_bdR hx hs
  obtain ⟨p5, p6⟩ := mul_bdR hy hc
  obtain ⟨p7, p8⟩ := mul_bdR hy hs
  go_enter Tryd.func54, Tryd.ntmps54
  go_wp2_with (go_at_call 58; refine (cossin_any _ _ hT h).mono ?_; rintro e w' ⟨rfl, hb⟩)
  go_ret2
  exact ⟨rfl, hb⟩

theorem pow_le (k : Nat) (h : k ≤ 9) : (1 : Int) ≤ 65 ^ k ∧ (65 : Int) ^ k ≤ 20711912837890625 := by
  have : k = 0 ∨ k = 1 ∨ k = 2 ∨ k = 3 ∨ k = 4 ∨ k = 5 ∨ k = 6 ∨ k = 7 ∨ k = 8 ∨ k = 9 := by omega
  rcases this with rfl | rfl | rfl | rfl | rfl | rfl | rfl | rfl | rfl | rfl <;> decide

def p65 (n : Int) : Int := 65 ^ n.toNat

set_option maxHeartbeats 400000 in
theorem power_any (n : Int) (w : World) (h0 : 0 ≤ n) (h : n ≤ 9) :
    Calls Tryd.prog 56 #[.int .i64 65, .int .i64 n] w fun e w' => e = .returned (.int .i64 (p65 n)) ∧ w = w' := by
  obtain ⟨m, rfl⟩ := Int.eq_ofNat_of_zero_le h0
  go_enter Tryd.func56, Tryd.ntmps56
  go_wp2
  go_loop [5, 7] (fun p i => ∃ k : Nat, k ≤ m ∧ i = .int .i64 k ∧ p = .int .i64 (65 ^ k)) (fun _ i => m - (intOf i).toNat)
  case atStart => exact ⟨0, by omega, rfl, rfl⟩
  case round =>
    obtain ⟨k, hk, rfl, rfl⟩ := hrel
    obtain ⟨c1, c2⟩ := pow_le k (by omega)
    by_cases hlt : k < m
    · go_wp2
      go_round
      case rel => exact ⟨k + 1, by omega, by go_num, by rw [Int.pow_succ]⟩
      case measure => simp [intOf]; omega
    · have e : Hid (k = m) := Lib.hid (by omega)
      go_wp2
      go_ret
      exact ⟨ret_int (by unfold p65; rw [e.out]; rfl), rfl⟩

theorem denom_any (w : World) : Calls Tryd.prog 48 #[] w fun e w' => e = .returned (.func (.func 56) #[.int .i64 65] #[]) ∧ w = w' := by
  go_enter Tryd.func48, Tryd.ntmps48
  go_wp2
  go_ret
  exact ⟨rfl, rfl⟩

def withinB (x m : Int) : Bool := decide (-m ≤ x) && decide (x ≤ m)
theorem within_any (x m : Int) (w : World) (h0 : 0 ≤ m) (h : m ≤ 20711912837890625) :
    Calls Tryd.prog 55 #[.int .i64 x, .int .i64 m] w fun e w' => e = .returned (.bool (withinB x m)) ∧ w = w' := by
  go_enter Tryd.func55, Tryd.ntmps55
  go_wp2
  all_goals
    go_ret
    exact ⟨ret_bool (by unfold withinB; grind), rfl⟩
end Go.Proofs.YtceejjamngplkaaDoor
