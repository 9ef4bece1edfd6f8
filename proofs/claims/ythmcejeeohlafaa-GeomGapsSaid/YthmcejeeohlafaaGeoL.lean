/- What the walks of layer 2 share: pick at named points; Orientation, OnSegment, SegmentsIntersect at named results; signs of determinants. -/
import Derived.Test.YthmcejeeohlafaaGeoG
import Derived.Test.YthmcejeeohlafaaGeoP
import Derived.Test.YthmcejeeohlafaaGeoN
namespace Go.Proofs.Ythmcejeeohlafaa
open Go.ChangeShapes Go.WideShapes Go.ChangeAt Go.RowKit

def InY (x : Int) : Prop := -439400000 ≤ x ∧ x ≤ 439400000
theorem fit_y (x : Int) : InY (x.tmod 439400001) := by
  have a := Int.tmod_eq_emod (a := x) (b := 439400001)
  unfold InY; split at a <;> omega
theorem near_y (x : Int) : InY (x.tmod 9) := by
  have a := Int.tmod_eq_emod (a := x) (b := 9)
  unfold InY; split at a <;> omega
theorem InY.inr {x : Int} (h : InY x) : InR x := by unfold InY at h; unfold InR; omega
theorem tdiv2 (x : Int) : (0 ≤ x ∧ (2 * x.tdiv 2 = x ∨ 2 * x.tdiv 2 = x - 1)) ∨ (x ≤ 0 ∧ (2 * x.tdiv 2 = x ∨ 2 * x.tdiv 2 = x + 1)) := by
  have e := Int.mul_tdiv_add_tmod x 2
  have a := Int.tmod_eq_emod (a := x) (b := 2)
  split at a <;> omega
theorem half_bd {x : Int} (h : InY x) : -219700000 ≤ x.tdiv 2 ∧ x.tdiv 2 ≤ 219700000 := by have := tdiv2 x; unfold InY at h; omega

theorem at_is (x y u v : Int) (w : World) (hx : Hid (x = u)) (hy : Hid (y = v)) :
    Calls Try.prog 9 #[.int .i64 x, .int .i64 y] w fun e w' => e = .returned (.agg #[.int .i64 u, .int .i64 v]) ∧ Below w.heap.size w w' := by
  exact (at_any x y w).mono fun e w' ⟨he, hb⟩ => ⟨he.trans (ret_agg2 hx.out hy.out), hb⟩
theorem orient_is (a b c d p q v : Int) (w : World) (ia : InR a) (ib : InR b) (ic : InR c) (id : InR d) (ip : InR p) (iq : InR q) (h : Hid (ori a b c d p q = v)) :
    Calls Try.prog 10 #[.agg #[.int .i64 a, .int .i64 b], .agg #[.int .i64 c, .int .i64 d], .agg #[.int .i64 p, .int .i64 q]] w fun e w' => e = .returned (.int .i64 v) ∧ Below w.heap.size w w' := by
  have := orient_any a b c d p q w ia ib ic id ip iq
  rw [h.out] at this
  exact this
theorem onseg_is (a b c d p q : Int) (v : Bool) (w : World) (ia : InR a) (ib : InR b) (ic : InR c) (id : InR d) (ip : InR p) (iq : InR q) (h : Hid (onB a b c d p q = v)) :
    Calls Try.prog 11 #[.agg #[.int .i64 a, .int .i64 b], .agg #[.int .i64 c, .int .i64 d], .agg #[.int .i64 p, .int .i64 q]] w fun e w' => e = .returned (.bool v) ∧ Below w.heap.size w w' := by
  have := onseg_any a b c d p q w ia ib ic id ip iq
  rw [h.out] at this
  exact this
theorem cross_is (a b c d p q r s : Int) (v : Bool) (w : World) (ia : InR a) (ib : InR b) (ic : InR c) (id : InR d) (ip : InR p) (iq : InR q) (ir : InR r) (is : InR s) (h : Hid (segB a b c d p q r s = v)) :
    Calls Try.prog 12 #[.agg #[.int .i64 a, .int .i64 b], .agg #[.int .i64 c, .int .i64 d], .agg #[.int .i64 p, .int .i64 q], .agg #[.int .i64 r, .int .i64 s]] w fun e w' => e = .returned (.bool v) ∧ Below w.heap.size w w' := by
  have := cross_any a b c d p q r s w ia ib ic id ip iq ir is
  rw [h.out] at this
  exact this
theorem add_is (a b c d u v : Int) (w : World) (ia : InR a) (ib : InR b) (ic : InR c) (id : InR d) (hu : Hid (a + c = u)) (hv : Hid (b + d = v)) :
    Calls Try.prog 13 #[.agg #[.int .i64 a, .int .i64 b], .agg #[.int .i64 c, .int .i64 d]] w fun e w' => e = .returned (.agg #[.int .i64 u, .int .i64 v]) ∧ Below w.heap.size w w' := by
  have := add_in a b c d w (by unfold InR at *; omega) (by unfold InR at *; omega)
  rw [hu.out, hv.out] at this
  exact this
theorem sub_is (a b c d u v : Int) (w : World) (ia : InR a) (ib : InR b) (ic : InR c) (id : InR d) (hu : Hid (a - c = u)) (hv : Hid (b - d = v)) :
    Calls Try.prog 14 #[.agg #[.int .i64 a, .int .i64 b], .agg #[.int .i64 c, .int .i64 d]] w fun e w' => e = .returned (.agg #[.int .i64 u, .int .i64 v]) ∧ Below w.heap.size w w' := by
  have := sub_in a b c d w (by unfold InR at *; omega) (by unfold InR at *; omega)
  rw [hu.out, hv.out] at this
  exact this
end Go.Proofs.Ythmcejeeohlafaa
