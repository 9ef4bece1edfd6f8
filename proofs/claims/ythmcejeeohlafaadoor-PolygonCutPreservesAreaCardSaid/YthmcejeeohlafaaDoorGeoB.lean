/- Contracts of package geom: Orientation, OnSegment, SegmentsIntersect. No condition on memory; the coordinates are bounded. -/
import Derived.Test.YthmcejeeohlafaaDoorGeoA
import Derived.Deep.RegionHeld3
import Derived.Deep.DeepCutAuto
namespace Go.Proofs.YthmcejeeohlafaaDoor
open Go.ChangeShapes Go.WideShapes Go.ChangeAt Go.RowKit

def ori (a b c d p q : Int) : Int := cmpI ((c - a) * (q - b)) ((d - b) * (p - a))
theorem mul_bd {x c B C : Int} (hx : -B ≤ x ∧ x ≤ B) (hc : -C ≤ c ∧ c ≤ C) : -(C * B) ≤ x * c ∧ x * c ≤ C * B := by
  obtain ⟨x1, x2⟩ := hx
  obtain ⟨c1, c2⟩ := hc
  have a1 : 0 ≤ (B - x) * (C - c) := Int.mul_nonneg (by omega) (by omega)
  have a2 : 0 ≤ (B - x) * (C + c) := Int.mul_nonneg (by omega) (by omega)
  have a3 : 0 ≤ (B + x) * (C - c) := Int.mul_nonneg (by omega) (by omega)
  have a4 : 0 ≤ (B + x) * (C + c) := Int.mul_nonneg (by omega) (by omega)
  simp only [Int.add_mul, Int.sub_mul, Int.mul_add, Int.mul_sub] at a1 a2 a3 a4
  have e1 := Int.mul_comm B C
  have e2 := Int.mul_comm x C
  omega
/-- The bound of a coordinate. -/
def InR (x : Int) : Prop := -1500000000 ≤ x ∧ x ≤ 1500000000
theorem dif_bd {x y : Int} (hx : InR x) (hy : InR y) : -3000000000 ≤ x - y ∧ x - y ≤ 3000000000 := by unfold InR at *; omega

theorem cb0 (w : World) (x y : Int) (n : Nat) (h : w.heap.size = n) : (w.alloc (.cells #[.int .i64 x, .int .i64 y] 25)).cell? ⟨n, 0, none⟩ = some (.int .i64 x) := by subst h; simp
theorem cb1 (w : World) (x y : Int) (n : Nat) (h : w.heap.size = n) : (w.alloc (.cells #[.int .i64 x, .int .i64 y] 25)).cell? ⟨n, 1, none⟩ = some (.int .i64 y) := by subst h; simp
theorem belT {w0 w w' : World} (h : Below w0.heap.size w0 w) (hb : Below w.heap.size w w') : Below w0.heap.size w0 w' := h.trans (hb.mono h.size)
theorem belS {w0 w : World} {p : Addr} (h : Below w0.heap.size w0 w) (hp : w0.heap.size ≤ p.block) (v : Value) : Below w0.heap.size w0 (w.setCell p v) := h.setCell hp v
theorem setc {w : World} {p : Addr} {x : Value} (h : w.cell? p = some x) (v : Value) : (w.setCell p v).cell? p = some v := World.cell?_setCell_same w p v h
theorem belA {w0 w : World} (h : Below w0.heap.size w0 w) (o : Obj) : Below w0.heap.size w0 (w.alloc o) := h.alloc h.size o

set_option maxHeartbeats 2000000 in
theorem orient_any (a b c d p q : Int) (w : World) (ha : InR a) (hb : InR b) (hc : InR c) (hd : InR d) (hp : InR p) (hq : InR q) :
    Calls Tryd.prog 40 #[.agg #[.int .i64 a, .int .i64 b], .agg #[.int .i64 c, .int .i64 d], .agg #[.int .i64 p, .int .i64 q]] w fun e w' => e = .returned (.int .i64 (ori a b c d p q)) ∧ Below w.heap.size w w' := by
  have d1 := dif_bd hc ha
  have d2 := dif_bd hd hb
  have d3 := dif_bd hp ha
  have d4 := dif_bd hq hb
  obtain ⟨m1, m2⟩ := mul_bd d1 d4
  obtain ⟨m3, m4⟩ := mul_bd d2 d3
  have e1 : -9223372036854775808 ≤ c - a ∧ c - a ≤ 9223372036854775807 := by omega
  have e2 : -9223372036854775808 ≤ d - b ∧ d - b ≤ 9223372036854775807 := by omega
  have e3 : -9223372036854775808 ≤ p - a ∧ p - a ≤ 9223372036854775807 := by omega
  have e4 : -9223372036854775808 ≤ q - b ∧ q - b ≤ 9223372036854775807 := by omega
  obtain ⟨d11, d12⟩ := d1
  obtain ⟨d21, d22⟩ := d2
  obtain ⟨d31, d32⟩ := d3
  obtain ⟨d41, d42⟩ := d4
  clear ha hb hc hd hp hq
  go_enter Tryd.func40, Tryd.ntmps40
  go_upto_region 1 with fail
  have k0 : (((w.alloc (.cells #[.int .i64 a, .int .i64 b] 25)).alloc (.cells #[.int .i64 c, .int .i64 d] 25)).alloc (.cells #[.int .i64 p, .int .i64 q] 25)).cell? ⟨w.heap.size, 0, none⟩ = some (.int .i64 a) := (cell_alloc (cell_alloc (show (w.alloc (.cells #[.int .i64 a, .int .i64 b] 25)).cell? ⟨w.heap.size, 0, none⟩ = some (.int .i64 a) from cb0 _ _ _ _ rfl) _) _)
  have k1 : (((w.alloc (.cells #[.int .i64 a, .int .i64 b] 25)).alloc (.cells #[.int .i64 c, .int .i64 d] 25)).alloc (.cells #[.int .i64 p, .int .i64 q] 25)).cell? ⟨w.heap.size, 1, none⟩ = some (.int .i64 b) := (cell_alloc (cell_alloc (show (w.alloc (.cells #[.int .i64 a, .int .i64 b] 25)).cell? ⟨w.heap.size, 1, none⟩ = some (.int .i64 b) from cb1 _ _ _ _ rfl) _) _)
  have k2 : (((w.alloc (.cells #[.int .i64 a, .int .i64 b] 25)).alloc (.cells #[.int .i64 c, .int .i64 d] 25)).alloc (.cells #[.int .i64 p, .int .i64 q] 25)).cell? ⟨w.heap.size + 1, 0, none⟩ = some (.int .i64 c) := (cell_alloc (show ((w.alloc (.cells #[.int .i64 a, .int .i64 b] 25)).alloc (.cells #[.int .i64 c, .int .i64 d] 25)).cell? ⟨w.heap.size + 1, 0, none⟩ = some (.int .i64 c) from cb0 _ _ _ _ (by simp)) _)
  have k3 : (((w.alloc (.cells #[.int .i64 a, .int .i64 b] 25)).alloc (.cells #[.int .i64 c, .int .i64 d] 25)).alloc (.cells #[.int .i64 p, .int .i64 q] 25)).cell? ⟨w.heap.size + 1, 1, none⟩ = some (.int .i64 d) := (cell_alloc (show ((w.alloc (.cells #[.int .i64 a, .int .i64 b] 25)).alloc (.cells #[.int .i64 c, .int .i64 d] 25)).cell? ⟨w.heap.size + 1, 1, none⟩ = some (.int .i64 d) from cb1 _ _ _ _ (by simp)) _)
  have k4 : (((w.alloc (.cells #[.int .i64 a, .int .i64 b] 25)).alloc (.cells #[.int .i64 c, .int .i64 d] 25)).alloc (.cells #[.int .i64 p, .int .i64 q] 25)).cell? ⟨w.heap.size + 1 + 1, 0, none⟩ = some (.int .i64 p) := (show (((w.alloc (.cells #[.int .i64 a, .int .i64 b] 25)).alloc (.cells #[.int .i64 c, .int .i64 d] 25)).alloc (.cells #[.int .i64 p, .int .i64 q] 25)).cell? ⟨w.heap.size + 1 + 1, 0, none⟩ = some (.int .i64 p) from cb0 _ _ _ _ (by simp))
  have k5 : (((w.alloc (.cells #[.int .i64 a, .int .i64 b] 25)).alloc (.cells #[.int .i64 c, .int .i64 d] 25)).alloc (.cells #[.int .i64 p, .int .i64 q] 25)).cell? ⟨w.heap.size + 1 + 1, 1, none⟩ = some (.int .i64 q) := (show (((w.alloc (.cells #[.int .i64 a, .int .i64 b] 25)).alloc (.cells #[.int .i64 c, .int .i64 d] 25)).alloc (.cells #[.int .i64 p, .int .i64 q] 25)).cell? ⟨w.heap.size + 1 + 1, 1, none⟩ = some (.int .i64 q) from cb1 _ _ _ _ (by simp))
  have hB : Below w.heap.size w (((w.alloc (.cells #[.int .i64 a, .int .i64 b] 25)).alloc (.cells #[.int .i64 c, .int .i64 d] 25)).alloc (.cells #[.int .i64 p, .int .i64 q] 25)) := ((((Below.refl _ _).alloc (Nat.le_refl _) _).alloc (by first | omega | (simp; done) | (simp; omega)) _).alloc (by first | omega | (simp; done) | (simp; omega)) _)
  have z0 : w.heap.size + 1 + 1 < (((w.alloc (.cells #[.int .i64 a, .int .i64 b] 25)).alloc (.cells #[.int .i64 c, .int .i64 d] 25)).alloc (.cells #[.int .i64 p, .int .i64 q] 25)).heap.size := by first | omega | (simp; done) | (simp; omega)
  generalize (((w.alloc (.cells #[.int .i64 a, .int .i64 b] 25)).alloc (.cells #[.int .i64 c, .int .i64 d] 25)).alloc (.cells #[.int .i64 p, .int .i64 q] 25)) = w3 at *
  have hS : Hid (∀ w', Below w3.heap.size w3 w' → w'.cell? ⟨w.heap.size, 0, none⟩ = some (.int .i64 a) ∧ w'.cell? ⟨w.heap.size, 1, none⟩ = some (.int .i64 b) ∧ w'.cell? ⟨w.heap.size + 1, 0, none⟩ = some (.int .i64 c) ∧ w'.cell? ⟨w.heap.size + 1, 1, none⟩ = some (.int .i64 d) ∧ w'.cell? ⟨w.heap.size + 1 + 1, 0, none⟩ = some (.int .i64 p) ∧ w'.cell? ⟨w.heap.size + 1 + 1, 1, none⟩ = some (.int .i64 q) ∧ Below w3.heap.size w3 w') := Lib.hid (fun w' h => ⟨cell_call k0 h, cell_call k1 h, cell_call k2 h, cell_call k3 h, cell_call k4 h, cell_call k5 h, h⟩)
  have b3 : Below w3.heap.size w3 w3 := Below.refl _ _
  go_cut [7, 8] (fun s7 s8 wx => ∃ g h : Nat, s7 = .pointer (some ⟨g, 0, none⟩) ∧ s8 = .pointer (some ⟨h, 0, none⟩) ∧ wx.cell? ⟨g, 0, none⟩ = some (.int .i64 (c - a)) ∧ wx.cell? ⟨g, 1, none⟩ = some (.int .i64 (d - b)) ∧ wx.cell? ⟨h, 0, none⟩ = some (.int .i64 (p - a)) ∧ wx.cell? ⟨h, 1, none⟩ = some (.int .i64 (q - b)) ∧ Below w.heap.size w wx)
  case first =>
    go_region_held3 (fun w' => w'.cell? ⟨w.heap.size, 0, none⟩ = some (.int .i64 a) ∧ w'.cell? ⟨w.heap.size, 1, none⟩ = some (.int .i64 b) ∧ w'.cell? ⟨w.heap.size + 1, 0, none⟩ = some (.int .i64 c) ∧ w'.cell? ⟨w.heap.size + 1, 1, none⟩ = some (.int .i64 d) ∧ w'.cell? ⟨w.heap.size + 1 + 1, 0, none⟩ = some (.int .i64 p) ∧ w'.cell? ⟨w.heap.size + 1 + 1, 1, none⟩ = some (.int .i64 q) ∧ Below w3.heap.size w3 w')
      ((go_split_ands; refine hS.out _ ?_; repeat (first | exact hb8 | assumption | apply Below.drew | (with_reducible refine belA ?_ _) | (with_reducible refine belS ?_ (by first | assumption | exact Nat.le_refl _ | exact Nat.le_succ _ | exact Nat.le_succ_of_le (by assumption)) _))))
      (first | (go_at_call 52; (first | (with_reducible refine (sub_in c d a b _ e1 e2).mono ?_) | (with_reducible refine (sub_in p q a b _ e3 e4).mono ?_)); rintro e w9 ⟨rfl, hb9⟩; have hb8 : Below w3.heap.size w3 w9 := belT (by go_split_ands; repeat (first | assumption | apply Below.drew | (with_reducible refine belA ?_ _))) hb9; have hz8 : w3.heap.size ≤ w9.heap.size := hb8.size; obtain ⟨hc9, hf9⟩ := bcell hb9; have hs9 := hb9.size; (try simp at hs9); (try have hs9b := Nat.lt_of_succ_le hs9); (try have hs9c := Nat.lt_of_succ_lt hs9b); (try have hs9d : w3.heap.size < w9.heap.size := by omega); (try have hs9e : w3.heap.size + 1 < w9.heap.size := by omega)))
    all_goals
      rename_i hH
      obtain ⟨_, _, _, _, _, _, bz⟩ := hH
      have fin := Lib.hid (hB.trans (bz.mono hB.size))
      clear bz hS b3
      go_wp2_with fail
      go_meet
      refine ⟨_, _, rfl, rfl, ?_, ?_, ?_, ?_, fin.out⟩
      all_goals (first | rfl | (go_simp; done) | (go_simp; refine setc (x := .int .i64 0) ?_ _; go_simp; done) | (refine setc (x := .int .i64 0) ?_ _; go_simp; trace_state; fail))
  case rest =>
    obtain ⟨g, h, rfl, rfl, c1, c2, c3, c4, hB2⟩ := hcut
    clear hB hS b3 z0 k0 k1 k2 k3 k4 k5
    go_wp2_with (go_at_call 53; refine (compare_any _ _ _).mono ?_; rintro e w' ⟨rfl, rfl⟩)
    go_ret
    exact ⟨rfl, hB2⟩
end Go.Proofs.YthmcejeeohlafaaDoor
