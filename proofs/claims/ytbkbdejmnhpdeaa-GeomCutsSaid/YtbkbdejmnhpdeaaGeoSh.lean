/- Contract of shared: does the common point of two lines that are not parallel lie on both segments? -/
import Derived.Test.YtbkbdejmnhpdeaaGeoL
namespace Go.Proofs.Ytbkbdejmnhpdeaa
open Go.ChangeShapes Go.WideShapes Go.ChangeAt Go.RowKit

theorem prod_bd {x y : Int} (hx : -878800000 ≤ x ∧ x ≤ 878800000) (hy : -878800000 ≤ y ∧ y ≤ 878800000) : -772289440000000000 ≤ x * y ∧ x * y ≤ 772289440000000000 := by
  have := mul_bd hx hy
  omega
theorem dify {x y : Int} (hx : InY x) (hy : InY y) : -878800000 ≤ x - y ∧ x - y ≤ 878800000 := by unfold InY at *; omega

set_option maxHeartbeats 4000000 in
theorem shared_is (a b c d p q r s D S T : Int) (v : Bool) (w : World) (ka : InY a) (kb : InY b) (kc : InY c) (kd : InY d) (kp : InY p) (kq : InY q) (kr : InY r) (ks : InY s) (hD : Hid (dD a b c d p q r s = D)) (hS : Hid (dS a b p q r s = S)) (hT : Hid (dT a b c d p q = T)) (hv : Hid (v = true ↔ Inn D S ∧ Inn D T)) (h0 : D ≠ 0) :
    Calls Try.prog 30 #[.agg #[.int .i64 a, .int .i64 b], .agg #[.int .i64 c, .int .i64 d], .agg #[.int .i64 p, .int .i64 q], .agg #[.int .i64 r, .int .i64 s]] w fun e w' => e = .returned (.bool v) ∧ Below w.heap.size w w' := by
  have i1 := dify kc ka
  have i2 := dify ks kq
  have i3 := dify kd kb
  have i4 := dify kr kp
  have i5 := dify kp ka
  have i6 := dify kq kb
  obtain ⟨m0, n0⟩ := prod_bd i1 i2
  obtain ⟨m1, n1⟩ := prod_bd i3 i4
  obtain ⟨m2, n2⟩ := prod_bd i5 i2
  obtain ⟨m3, n3⟩ := prod_bd i6 i4
  obtain ⟨m4, n4⟩ := prod_bd i5 i3
  obtain ⟨m5, n5⟩ := prod_bd i6 i1
  obtain ⟨i11, i12⟩ := i1
  obtain ⟨i21, i22⟩ := i2
  obtain ⟨i31, i32⟩ := i3
  obtain ⟨i41, i42⟩ := i4
  obtain ⟨i51, i52⟩ := i5
  obtain ⟨i61, i62⟩ := i6
  have eD : (c - a) * (s - q) - (d - b) * (r - p) = D := hD.out
  have eS : (p - a) * (s - q) - (q - b) * (r - p) = S := hS.out
  have eT : (p - a) * (d - b) - (q - b) * (c - a) = T := hT.out
  have bD : -1600000000000000000 ≤ D ∧ D ≤ 1600000000000000000 := by omega
  have bS : -1600000000000000000 ≤ S ∧ S ≤ 1600000000000000000 := by omega
  have bT : -1600000000000000000 ≤ T ∧ T ≤ 1600000000000000000 := by omega
  obtain ⟨bD1, bD2⟩ := bD
  obtain ⟨bS1, bS2⟩ := bS
  obtain ⟨bT1, bT2⟩ := bT
  clear ka kb kc kd kp kq kr ks hD hS hT
  by_cases hlt : D < 0
  all_goals
    go_enter Try.func30, Try.ntmps30
    go_wp2_with fail
    go_ways
  all_goals
    go_ret
    exact ⟨ret_bool (by rw [Bool.eq_iff_iff, hv.out]; unfold Inn; first | (simp; done) | (simp; omega) | omega), belA (belA (belA (belA (Below.refl _ _) _) _) _) _⟩
end Go.Proofs.Ytbkbdejmnhpdeaa
