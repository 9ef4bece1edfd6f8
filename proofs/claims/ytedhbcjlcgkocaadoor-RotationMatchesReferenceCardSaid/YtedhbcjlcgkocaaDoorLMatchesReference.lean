/- Proved: the package agrees with its reference (the law RotationMatchesReference returns true).
Conditions: none on the arguments: for all arguments of the law. The table of package rotation lies as the program text lays it (the card ties it). -/
import Derived.Test.YtedhbcjlcgkocaaDoorDirFn
import Derived.Test.YtedhbcjlcgkocaaDoorTie
import Derived.Test.YtedhbcjlcgkocaaDoorCards
import Derived.SevenTiedAt
import Derived.Lib.SmallJoins
import Derived.Deep.RegionHeld3
namespace Go.Proofs.YtedhbcjlcgkocaaDoor.rotationMatchesReference
open Go.ChangeShapes Go.WideShapes Go.ChangeAt Go.RowKit
set_option linter.unusedVariables false

theorem laidOut : laidOutB Tryd.prog = true := by kernel_rfl
theorem cell_call {w w1 : World} {p : Addr} {v : Value} (k : w.cell? p = some v) (hb : Below w.heap.size w w1) : w1.cell? p = some v := (hb.cell (World.block_lt_of_cell? w _ k)).trans k
theorem cell_alloc {w : World} {p : Addr} {v : Value} (k : w.cell? p = some v) (o : Obj) : (w.alloc o).cell? p = some v := (World.cell?_alloc_lt _ _ _ (World.block_lt_of_cell? w _ k)).trans k
theorem shut_int1 {H : Type} {enc : TypeId × Value → H} {w : World} {base : Nat} {spare : Nat → Bool} {held : Bool} {t : TypeId} {k : IntKind} {x : Int} (ht : Tryd.prog.underlying t = some (.int k)) (hw : (Lit.int k x).wf = true) :
    ∃ n, DataW.trod enc Tryd.prog w base spare held n t [.int k x] = some (.lit (.int k x), []) := by
  obtain ⟨n, h⟩ := shut_int (enc := enc) (P := Tryd.prog) (w := w) (base := base) (spare := spare) (held := held) ht hw
  exact ⟨n, h⟩

def Bel (w0 w' : World) : Prop := Tab w' ∧ Below w0.heap.size w0 w'
theorem Bel.drew {w0 w : World} (h : Bel w0 w) : Bel w0 w.drew := ⟨h.1.drew, h.2.drew⟩
theorem Bel.tab {w0 w : World} (h : Bel w0 w) : Tab w := h.1
theorem Bel.below {w0 w w' : World} (h : Bel w0 w) (hb : Below w.heap.size w w') : Bel w0 w' := ⟨h.1.below hb, h.2.trans (hb.mono h.2.size)⟩
theorem comp_pair (X Y N q : Int) (hq : -9223372036854775808 ≤ q ∧ q ≤ 9223372036854775807) : ∃ P Q R : Int,
    Hid (∀ w, Tab w → Calls Tryd.prog 21 #[.agg #[.int .i64 X, .int .i64 Y, .int .i64 N], .int .i64 q] w fun e w' => e = .returned (.agg #[.int .i64 P, .int .i64 Q, .int .i64 R]) ∧ Below w.heap.size w w') ∧
    Hid (∀ w, Calls Tryd.prog 22 #[.agg #[.int .i64 X, .int .i64 Y, .int .i64 N], .int .i64 q] w fun e w' => e = .returned (.agg #[.int .i64 P, .int .i64 Q, .int .i64 R]) ∧ Below w.heap.size w w') := by
  by_cases h : vdB X Y N = true
  · by_cases h3 : N = 3
    · subst h3
      exact ⟨0, 0, 0, Lib.hid (fun w _ => compose_end X Y q w h), Lib.hid (fun w => add_end X Y q w h)⟩
    · have := vd_bd h
      exact ⟨_, _, _, Lib.hid (fun w hT => compose_ok X Y N q w hT h (by omega) hq), Lib.hid (fun w => add_is X Y N q _ _ w h (by omega) hq (Lib.hid rfl))⟩
  · have h' : vdB X Y N = false := by simpa using h
    exact ⟨0, 0, 0, Lib.hid (fun w _ => compose_bad X Y N q w h'), Lib.hid (fun w => add_bad X Y N q w h')⟩
theorem rot_pair (x y q : Int) (hx : -439400000 ≤ x ∧ x ≤ 439400000) (hy : -439400000 ≤ y ∧ y ≤ 439400000) (hq : -9223372036854775808 ≤ q ∧ q ≤ 9223372036854775807) : ∃ (A B : Int) (b : Bool),
    Hid (∀ w, Tab w → Calls Tryd.prog 15 #[.agg #[.int .i64 x, .int .i64 y], .int .i64 q] w fun e w' => e = .returned (.tuple #[.agg #[.int .i64 A, .int .i64 B], .bool b]) ∧ Below w.heap.size w w') ∧
    Hid (∀ w, Calls Tryd.prog 16 #[.agg #[.int .i64 x, .int .i64 y], .int .i64 q] w fun e w' => e = .returned (.tuple #[.agg #[.int .i64 A, .int .i64 B], .bool b]) ∧ Below w.heap.size w w') := by
  obtain ⟨hc, hs⟩ := csF_bd (q % 36).toNat
  obtain ⟨c, s, Ec⟩ : ∃ c s : Int, csF (q % 36).toNat = (c, s) := ⟨_, _, rfl⟩
  rw [Ec] at hc hs
  simp only at hc hs
  by_cases hd : (x * c - y * s) % 65 = 0 ∧ (x * s + y * c) % 65 = 0
  · obtain ⟨A, EA⟩ : ∃ A : Int, x * c - y * s = 65 * A := ⟨(x * c - y * s) / 65, by omega⟩
    obtain ⟨B, EB⟩ : ∃ B : Int, x * s + y * c = 65 * B := ⟨(x * s + y * c) / 65, by omega⟩
    obtain ⟨p1, p2⟩ := mul_bd hx hc
    obtain ⟨p3, p4⟩ := mul_bd hx hs
    obtain ⟨p5, p6⟩ := mul_bd hy hc
    obtain ⟨p7, p8⟩ := mul_bd hy hs
    exact ⟨A, B, true, Lib.hid (fun w hT => rotate_ok x y q A B _ _ w hT (by omega) (by omega) hq (Lib.hid (by rw [Ec])) (Lib.hid (by rw [Ec])) (Lib.hid EA) (Lib.hid EB) (by omega) (by omega)), Lib.hid (fun w => rot_ok x y q c s A B _ _ w (by omega) (by omega) hq (Lib.hid Ec) (Lib.hid rfl) (Lib.hid rfl) (Lib.hid EA) (Lib.hid EB) (by omega) (by omega))⟩
  · exact ⟨0, 0, false, Lib.hid (fun w hT => rotate_no x y q _ _ w hT (by omega) (by omega) hq (Lib.hid (by rw [Ec])) (Lib.hid (by rw [Ec])) hd), Lib.hid (fun w => rot_no x y q c s _ _ w (by omega) (by omega) hq (Lib.hid Ec) (Lib.hid rfl) (Lib.hid rfl) hd)⟩
theorem point_is (x y X Y : Int) (w : World) (hx : -2147483648 ≤ x ∧ x ≤ 2147483647) (hy : -2147483648 ≤ y ∧ y ≤ 2147483647) (EX : Hid (x.tmod 439400001 = X)) (EY : Hid (y.tmod 439400001 = Y)) :
    Calls Tryd.prog 12 #[.int .i32 x, .int .i32 y] w fun e w' => e = .returned (.agg #[.int .i64 X, .int .i64 Y]) ∧ Below w.heap.size w w' := by
  have := point_any x y w hx hy
  rw [EX.out, EY.out] at this
  exact this
theorem offset_is (X Y N n U V : Int) (w : World) (h : vdB X Y N = true) (hn : -200 ≤ n ∧ n ≤ 200) (hU : Hid (n * 16 * p65 (3 - N) * X = U)) (hV : Hid (n * 16 * p65 (3 - N) * Y = V)) :
    Calls Tryd.prog 23 #[.agg #[.int .i64 X, .int .i64 Y, .int .i64 N], .int .i64 n] w fun e w' => e = .returned (.agg #[.int .i64 U, .int .i64 V]) ∧ Below w.heap.size w w' := by
  have := offset_ok X Y N n w h hn
  rw [hU.out, hV.out] at this
  exact this
theorem valid_is (X Y N : Int) (v : Bool) (w : World) (h : Hid (vdB X Y N = v)) :
    Calls Tryd.prog 19 #[.agg #[.int .i64 X, .int .i64 Y, .int .i64 N]] w fun e w' => e = .returned (.bool v) ∧ Below w.heap.size w w' := by
  have := valid_any X Y N w
  rw [h.out] at this
  exact this
theorem right_is (X Y N : Int) (v : Bool) (w : World) (h : Hid (vdB X Y N = v)) :
    Calls Tryd.prog 20 #[.agg #[.int .i64 X, .int .i64 Y, .int .i64 N]] w fun e w' => e = .returned (.bool v) ∧ Below w.heap.size w w' := by
  have := right_any X Y N w
  rw [h.out] at this
  exact this
theorem opp_is (q o : Int) (w : World) (h : -9223372036854775808 ≤ q ∧ q ≤ 9223372036854775807) (ho : Hid (invF (q % 36) = o)) :
    Calls Tryd.prog 18 #[.int .i64 q] w fun e w' => e = .returned (.int .i64 o) ∧ w = w' := by
  have := opp_any q w h
  rw [ho.out] at this
  exact this

set_option maxRecDepth 100000 in
set_option maxHeartbeats 8000000 in
theorem walk {w0 : World} (q : Int) (vq : (Lit.int .i64 q).wf = true) (rx ry rn : Int) (_ : (Lit.int .i64 rx).wf = true) (_ : (Lit.int .i64 ry).wf = true) (_ : (Lit.int .i64 rn).wf = true) (a0 : Option Addr) (len0 cap0 : Nat) (z0 : List Int) (hr : IsRow .i64 w0 a0 len0 cap0 z0) (n : Int) (v3 : (Lit.int .i8 n).wf = true) (a4 : Int) (v4 : (Lit.int .i32 a4).wf = true) (a5 : Int) (v5 : (Lit.int .i32 a5).wf = true) (hT0 : Tab w0) :
    Calls Tryd.prog 3 #[.int .i64 q, .agg #[.int .i64 rx, .int .i64 ry, .int .i64 rn], .slice a0 len0 cap0, .int .i8 n, .int .i32 a4, .int .i32 a5] w0 fun e w' => e = .returned (.bool true) ∧ Below w0.heap.size w0 w' := by
  have hq := wf64 vq
  obtain ⟨rn1, rn2⟩ := wf8 v3
  have r4 := wf32 v4
  have r5 := wf32 v5
  have hcap : len0 ≤ maxLen := by
    rcases hr with ⟨_, h2, _⟩ | ⟨x, _, h2, h3, _⟩
    · omega
    · omega
  have hcap2 := hcap
  unfold maxLen at hcap2
  obtain ⟨bx1, bx2⟩ := tmod_pt a4
  obtain ⟨by1, by2⟩ := tmod_pt a5
  obtain ⟨x, EX⟩ : ∃ x : Int, Hid (a4.tmod 439400001 = x) := ⟨_, Lib.hid rfl⟩
  obtain ⟨y, EY⟩ : ∃ y : Int, Hid (a5.tmod 439400001 = y) := ⟨_, Lib.hid rfl⟩
  rw [EX.out] at bx1 bx2
  rw [EY.out] at by1 by2
  obtain ⟨c, s, E⟩ : ∃ c s : Int, Hid (csF (q % 36).toNat = (c, s)) := ⟨_, _, Lib.hid rfl⟩
  obtain ⟨o, Eo⟩ : ∃ o : Int, Hid (invF (q % 36) = o) := ⟨_, Lib.hid rfl⟩
  obtain ⟨b0, Eb⟩ : ∃ b : Bool, Hid (vdB rx ry rn = b) := ⟨_, Lib.hid rfl⟩
  obtain ⟨A, B, b, hU, hV⟩ := rot_pair x y q ⟨bx1, bx2⟩ ⟨by1, by2⟩ hq
  obtain ⟨P0, Q0, R0, hC0, hA0⟩ := comp_pair rx ry rn q hq
  have hB0 : Below w0.heap.size w0 w0 := Below.refl _ _
  by_cases hl : len0 ≤ 10
  · go_enter Tryd.func3, Tryd.ntmps3
    go_wp2_with fail
    refine (head_any _ (by repeat (first | exact hT0 | apply Tab.alloc))).mono ?_; rintro e w1 ⟨rfl, hb1⟩
    have hT1 : Tab w1 := Tab.below (by repeat (first | exact hT0 | apply Tab.alloc)) hb1
    have hB1 : Below w0.heap.size w0 w1 := (hB0.alloc (by have := hB0.size; first | omega | (simp; done) | (simp; omega)) _).trans (hb1.mono (by have := hB0.size; first | omega | (simp; done) | (simp; omega)))
    have k0_0_0_1 : w1.cell? ⟨w0.heap.size, 0, none⟩ = some (.int .i64 rx) := cell_call (show (w0.alloc (.cells #[.int .i64 rx, .int .i64 ry, .int .i64 rn] 23)).cell? ⟨w0.heap.size, 0, none⟩ = some (.int .i64 rx) by simp) hb1
    have k0_0_1_1 : w1.cell? ⟨w0.heap.size, 1, none⟩ = some (.int .i64 ry) := cell_call (show (w0.alloc (.cells #[.int .i64 rx, .int .i64 ry, .int .i64 rn] 23)).cell? ⟨w0.heap.size, 1, none⟩ = some (.int .i64 ry) by simp) hb1
    have k0_0_2_1 : w1.cell? ⟨w0.heap.size, 2, none⟩ = some (.int .i64 rn) := cell_call (show (w0.alloc (.cells #[.int .i64 rx, .int .i64 ry, .int .i64 rn] 23)).cell? ⟨w0.heap.size, 2, none⟩ = some (.int .i64 rn) by simp) hb1
    clear hb1
    have z0_0_1 : w0.heap.size < w1.heap.size := World.block_lt_of_cell? w1 _ k0_0_0_1
    go_wp2_with fail
    refine (dir_short a0 len0 cap0 z0 _ (hr.below hB1) (by unfold maxLen; omega)).mono ?_; rintro e w2 ⟨X, Y, N, rfl, HV, hb2⟩
    have hT2 : Tab w2 := Tab.below (by repeat (first | exact hT1 | apply Tab.alloc)) hb2
    have hB2 : Below w0.heap.size w0 w2 := hB1.trans (hb2.mono (by have := hB1.size; first | omega | (simp; done) | (simp; omega)))
    have k0_0_0_2 : w2.cell? ⟨w0.heap.size, 0, none⟩ = some (.int .i64 rx) := cell_call k0_0_0_1 hb2
    have k0_0_1_2 : w2.cell? ⟨w0.heap.size, 1, none⟩ = some (.int .i64 ry) := cell_call k0_0_1_1 hb2
    have k0_0_2_2 : w2.cell? ⟨w0.heap.size, 2, none⟩ = some (.int .i64 rn) := cell_call k0_0_2_1 hb2
    clear k0_0_0_1 k0_0_1_1 k0_0_2_1
    clear hb2
    clear z0_0_1
    have z0_0_2 : w0.heap.size < w2.heap.size := World.block_lt_of_cell? w2 _ k0_0_0_2
    obtain ⟨P, Q, R, hC, hA⟩ := comp_pair X Y N q hq
    have hv := Lib.hid HV
    clear HV
    go_wp2_with fail
    refine (point_is a4 a5 x y _ r4 r5 EX EY).mono ?_; rintro e w3 ⟨rfl, hb3⟩
    have hT3 : Tab w3 := Tab.below (by repeat (first | exact hT2 | apply Tab.alloc)) hb3
    have hB3 : Below w0.heap.size w0 w3 := (hB2.alloc (by have := hB2.size; first | omega | (simp; done) | (simp; omega)) _).trans (hb3.mono (by have := hB2.size; first | omega | (simp; done) | (simp; omega)))
    have k0_0_0_3 : w3.cell? ⟨w0.heap.size, 0, none⟩ = some (.int .i64 rx) := cell_call (cell_alloc k0_0_0_2 _) hb3
    have k0_0_1_3 : w3.cell? ⟨w0.heap.size, 1, none⟩ = some (.int .i64 ry) := cell_call (cell_alloc k0_0_1_2 _) hb3
    have k0_0_2_3 : w3.cell? ⟨w0.heap.size, 2, none⟩ = some (.int .i64 rn) := cell_call (cell_alloc k0_0_2_2 _) hb3
    clear k0_0_0_2 k0_0_1_2 k0_0_2_2
    have k2_0_0_3 : w3.cell? ⟨w2.heap.size, 0, none⟩ = some (.int .i64 X) := cell_call (show (w2.alloc (.cells #[.int .i64 X, .int .i64 Y, .int .i64 N] 23)).cell? ⟨w2.heap.size, 0, none⟩ = some (.int .i64 X) by simp) hb3
    have k2_0_1_3 : w3.cell? ⟨w2.heap.size, 1, none⟩ = some (.int .i64 Y) := cell_call (show (w2.alloc (.cells #[.int .i64 X, .int .i64 Y, .int .i64 N] 23)).cell? ⟨w2.heap.size, 1, none⟩ = some (.int .i64 Y) by simp) hb3
    have k2_0_2_3 : w3.cell? ⟨w2.heap.size, 2, none⟩ = some (.int .i64 N) := cell_call (show (w2.alloc (.cells #[.int .i64 X, .int .i64 Y, .int .i64 N] 23)).cell? ⟨w2.heap.size, 2, none⟩ = some (.int .i64 N) by simp) hb3
    clear hb3
    clear z0_0_2
    have z0_0_3 : w0.heap.size < w3.heap.size := World.block_lt_of_cell? w3 _ k0_0_0_3
    have z2_0_3 : w2.heap.size < w3.heap.size := World.block_lt_of_cell? w3 _ k2_0_0_3
    go_wp2_with fail
    refine (cossin_is _ c s _ (by repeat (first | exact hT3 | apply Tab.alloc)) hq E).mono ?_; rintro e w4 ⟨rfl, hb4⟩
    have hT4 : Tab w4 := Tab.below (by repeat (first | exact hT3 | apply Tab.alloc)) hb4
    have hB4 : Below w0.heap.size w0 w4 := (hB3.alloc (by have := hB3.size; first | omega | (simp; done) | (simp; omega)) _).trans (hb4.mono (by have := hB3.size; first | omega | (simp; done) | (simp; omega)))
    have k0_0_0_4 : w4.cell? ⟨w0.heap.size, 0, none⟩ = some (.int .i64 rx) := cell_call (cell_alloc k0_0_0_3 _) hb4
    have k0_0_1_4 : w4.cell? ⟨w0.heap.size, 1, none⟩ = some (.int .i64 ry) := cell_call (cell_alloc k0_0_1_3 _) hb4
    have k0_0_2_4 : w4.cell? ⟨w0.heap.size, 2, none⟩ = some (.int .i64 rn) := cell_call (cell_alloc k0_0_2_3 _) hb4
    have k2_0_0_4 : w4.cell? ⟨w2.heap.size, 0, none⟩ = some (.int .i64 X) := cell_call (cell_alloc k2_0_0_3 _) hb4
    have k2_0_1_4 : w4.cell? ⟨w2.heap.size, 1, none⟩ = some (.int .i64 Y) := cell_call (cell_alloc k2_0_1_3 _) hb4
    have k2_0_2_4 : w4.cell? ⟨w2.heap.size, 2, none⟩ = some (.int .i64 N) := cell_call (cell_alloc k2_0_2_3 _) hb4
    clear k0_0_0_3 k0_0_1_3 k0_0_2_3 k2_0_0_3 k2_0_1_3 k2_0_2_3
    have k3_0_0_4 : w4.cell? ⟨w3.heap.size, 0, none⟩ = some (.int .i64 x) := cell_call (show (w3.alloc (.cells #[.int .i64 x, .int .i64 y] 29)).cell? ⟨w3.heap.size, 0, none⟩ = some (.int .i64 x) by simp) hb4
    have k3_0_1_4 : w4.cell? ⟨w3.heap.size, 1, none⟩ = some (.int .i64 y) := cell_call (show (w3.alloc (.cells #[.int .i64 x, .int .i64 y] 29)).cell? ⟨w3.heap.size, 1, none⟩ = some (.int .i64 y) by simp) hb4
    clear hb4
    clear z0_0_3
    have z0_0_4 : w0.heap.size < w4.heap.size := World.block_lt_of_cell? w4 _ k0_0_0_4
    clear z2_0_3
    have z2_0_4 : w2.heap.size < w4.heap.size := World.block_lt_of_cell? w4 _ k2_0_0_4
    have z3_0_4 : w3.heap.size < w4.heap.size := World.block_lt_of_cell? w4 _ k3_0_0_4
    go_wp2_with fail
    refine (of_is _ c s _ hq E).mono ?_; rintro e w5 ⟨rfl, hb5⟩
    have hT5 : Tab w5 := Tab.below (by repeat (first | exact hT4 | apply Tab.alloc)) hb5
    have hB5 : Below w0.heap.size w0 w5 := hB4.trans (hb5.mono (by have := hB4.size; first | omega | (simp; done) | (simp; omega)))
    have k0_0_0_5 : w5.cell? ⟨w0.heap.size, 0, none⟩ = some (.int .i64 rx) := cell_call k0_0_0_4 hb5
    have k0_0_1_5 : w5.cell? ⟨w0.heap.size, 1, none⟩ = some (.int .i64 ry) := cell_call k0_0_1_4 hb5
    have k0_0_2_5 : w5.cell? ⟨w0.heap.size, 2, none⟩ = some (.int .i64 rn) := cell_call k0_0_2_4 hb5
    have k2_0_0_5 : w5.cell? ⟨w2.heap.size, 0, none⟩ = some (.int .i64 X) := cell_call k2_0_0_4 hb5
    have k2_0_1_5 : w5.cell? ⟨w2.heap.size, 1, none⟩ = some (.int .i64 Y) := cell_call k2_0_1_4 hb5
    have k2_0_2_5 : w5.cell? ⟨w2.heap.size, 2, none⟩ = some (.int .i64 N) := cell_call k2_0_2_4 hb5
    have k3_0_0_5 : w5.cell? ⟨w3.heap.size, 0, none⟩ = some (.int .i64 x) := cell_call k3_0_0_4 hb5
    have k3_0_1_5 : w5.cell? ⟨w3.heap.size, 1, none⟩ = some (.int .i64 y) := cell_call k3_0_1_4 hb5
    clear k0_0_0_4 k0_0_1_4 k0_0_2_4 k2_0_0_4 k2_0_1_4 k2_0_2_4 k3_0_0_4 k3_0_1_4
    clear hb5
    clear z0_0_4
    have z0_0_5 : w0.heap.size < w5.heap.size := World.block_lt_of_cell? w5 _ k0_0_0_5
    clear z2_0_4
    have z2_0_5 : w2.heap.size < w5.heap.size := World.block_lt_of_cell? w5 _ k2_0_0_5
    clear z3_0_4
    have z3_0_5 : w3.heap.size < w5.heap.size := World.block_lt_of_cell? w5 _ k3_0_0_5
    go_wp2_with fail
    refine (hU.out _ (by repeat (first | exact hT5 | apply Tab.alloc))).mono ?_; rintro e w6 ⟨rfl, hb6⟩
    have hT6 : Tab w6 := Tab.below (by repeat (first | exact hT5 | apply Tab.alloc)) hb6
    have hB6 : Below w0.heap.size w0 w6 := hB5.trans (hb6.mono (by have := hB5.size; first | omega | (simp; done) | (simp; omega)))
    have k0_0_0_6 : w6.cell? ⟨w0.heap.size, 0, none⟩ = some (.int .i64 rx) := cell_call k0_0_0_5 hb6
    have k0_0_1_6 : w6.cell? ⟨w0.heap.size, 1, none⟩ = some (.int .i64 ry) := cell_call k0_0_1_5 hb6
    have k0_0_2_6 : w6.cell? ⟨w0.heap.size, 2, none⟩ = some (.int .i64 rn) := cell_call k0_0_2_5 hb6
    have k2_0_0_6 : w6.cell? ⟨w2.heap.size, 0, none⟩ = some (.int .i64 X) := cell_call k2_0_0_5 hb6
    have k2_0_1_6 : w6.cell? ⟨w2.heap.size, 1, none⟩ = some (.int .i64 Y) := cell_call k2_0_1_5 hb6
    have k2_0_2_6 : w6.cell? ⟨w2.heap.size, 2, none⟩ = some (.int .i64 N) := cell_call k2_0_2_5 hb6
    have k3_0_0_6 : w6.cell? ⟨w3.heap.size, 0, none⟩ = some (.int .i64 x) := cell_call k3_0_0_5 hb6
    have k3_0_1_6 : w6.cell? ⟨w3.heap.size, 1, none⟩ = some (.int .i64 y) := cell_call k3_0_1_5 hb6
    clear k0_0_0_5 k0_0_1_5 k0_0_2_5 k2_0_0_5 k2_0_1_5 k2_0_2_5 k3_0_0_5 k3_0_1_5
    clear hb6
    clear z0_0_5
    have z0_0_6 : w0.heap.size < w6.heap.size := World.block_lt_of_cell? w6 _ k0_0_0_6
    clear z2_0_5
    have z2_0_6 : w2.heap.size < w6.heap.size := World.block_lt_of_cell? w6 _ k2_0_0_6
    clear z3_0_5
    have z3_0_6 : w3.heap.size < w6.heap.size := World.block_lt_of_cell? w6 _ k3_0_0_6
    go_wp2_with fail
    refine (hV.out _).mono ?_; rintro e w7 ⟨rfl, hb7⟩
    have hT7 : Tab w7 := Tab.below (by repeat (first | exact hT6 | apply Tab.alloc)) hb7
    have hB7 : Below w0.heap.size w0 w7 := (hB6.alloc (by have := hB6.size; first | omega | (simp; done) | (simp; omega)) _).trans (hb7.mono (by have := hB6.size; first | omega | (simp; done) | (simp; omega)))
    have k0_0_0_7 : w7.cell? ⟨w0.heap.size, 0, none⟩ = some (.int .i64 rx) := cell_call (cell_alloc k0_0_0_6 _) hb7
    have k0_0_1_7 : w7.cell? ⟨w0.heap.size, 1, none⟩ = some (.int .i64 ry) := cell_call (cell_alloc k0_0_1_6 _) hb7
    have k0_0_2_7 : w7.cell? ⟨w0.heap.size, 2, none⟩ = some (.int .i64 rn) := cell_call (cell_alloc k0_0_2_6 _) hb7
    have k2_0_0_7 : w7.cell? ⟨w2.heap.size, 0, none⟩ = some (.int .i64 X) := cell_call (cell_alloc k2_0_0_6 _) hb7
    have k2_0_1_7 : w7.cell? ⟨w2.heap.size, 1, none⟩ = some (.int .i64 Y) := cell_call (cell_alloc k2_0_1_6 _) hb7
    have k2_0_2_7 : w7.cell? ⟨w2.heap.size, 2, none⟩ = some (.int .i64 N) := cell_call (cell_alloc k2_0_2_6 _) hb7
    have k3_0_0_7 : w7.cell? ⟨w3.heap.size, 0, none⟩ = some (.int .i64 x) := cell_call (cell_alloc k3_0_0_6 _) hb7
    have k3_0_1_7 : w7.cell? ⟨w3.heap.size, 1, none⟩ = some (.int .i64 y) := cell_call (cell_alloc k3_0_1_6 _) hb7
    clear k0_0_0_6 k0_0_1_6 k0_0_2_6 k2_0_0_6 k2_0_1_6 k2_0_2_6 k3_0_0_6 k3_0_1_6
    have k6_0_0_7 : w7.cell? ⟨w6.heap.size, 0, none⟩ = some (.int .i64 A) := cell_call (show (w6.alloc (.cells #[.int .i64 A, .int .i64 B] 29)).cell? ⟨w6.heap.size, 0, none⟩ = some (.int .i64 A) by simp) hb7
    have k6_0_1_7 : w7.cell? ⟨w6.heap.size, 1, none⟩ = some (.int .i64 B) := cell_call (show (w6.alloc (.cells #[.int .i64 A, .int .i64 B] 29)).cell? ⟨w6.heap.size, 1, none⟩ = some (.int .i64 B) by simp) hb7
    clear hb7
    clear z0_0_6
    have z0_0_7 : w0.heap.size < w7.heap.size := World.block_lt_of_cell? w7 _ k0_0_0_7
    clear z2_0_6
    have z2_0_7 : w2.heap.size < w7.heap.size := World.block_lt_of_cell? w7 _ k2_0_0_7
    clear z3_0_6
    have z3_0_7 : w3.heap.size < w7.heap.size := World.block_lt_of_cell? w7 _ k3_0_0_7
    have z6_0_7 : w6.heap.size < w7.heap.size := World.block_lt_of_cell? w7 _ k6_0_0_7
    go_wp2_with fail
    simp only [List.append_eq, List.cons_append, List.nil_append]
    have k0_0_0_8 : (w7.alloc (.cells #[.int .i64 A, .int .i64 B] 29)).cell? ⟨w0.heap.size, 0, none⟩ = some (.int .i64 rx) := cell_alloc k0_0_0_7 _
    have k0_0_1_8 : (w7.alloc (.cells #[.int .i64 A, .int .i64 B] 29)).cell? ⟨w0.heap.size, 1, none⟩ = some (.int .i64 ry) := cell_alloc k0_0_1_7 _
    have k0_0_2_8 : (w7.alloc (.cells #[.int .i64 A, .int .i64 B] 29)).cell? ⟨w0.heap.size, 2, none⟩ = some (.int .i64 rn) := cell_alloc k0_0_2_7 _
    have k2_0_0_8 : (w7.alloc (.cells #[.int .i64 A, .int .i64 B] 29)).cell? ⟨w2.heap.size, 0, none⟩ = some (.int .i64 X) := cell_alloc k2_0_0_7 _
    have k2_0_1_8 : (w7.alloc (.cells #[.int .i64 A, .int .i64 B] 29)).cell? ⟨w2.heap.size, 1, none⟩ = some (.int .i64 Y) := cell_alloc k2_0_1_7 _
    have k2_0_2_8 : (w7.alloc (.cells #[.int .i64 A, .int .i64 B] 29)).cell? ⟨w2.heap.size, 2, none⟩ = some (.int .i64 N) := cell_alloc k2_0_2_7 _
    have k3_0_0_8 : (w7.alloc (.cells #[.int .i64 A, .int .i64 B] 29)).cell? ⟨w3.heap.size, 0, none⟩ = some (.int .i64 x) := cell_alloc k3_0_0_7 _
    have k3_0_1_8 : (w7.alloc (.cells #[.int .i64 A, .int .i64 B] 29)).cell? ⟨w3.heap.size, 1, none⟩ = some (.int .i64 y) := cell_alloc k3_0_1_7 _
    have k6_0_0_8 : (w7.alloc (.cells #[.int .i64 A, .int .i64 B] 29)).cell? ⟨w6.heap.size, 0, none⟩ = some (.int .i64 A) := cell_alloc k6_0_0_7 _
    have k6_0_1_8 : (w7.alloc (.cells #[.int .i64 A, .int .i64 B] 29)).cell? ⟨w6.heap.size, 1, none⟩ = some (.int .i64 B) := cell_alloc k6_0_1_7 _
    have kb0_8 : (w7.alloc (.cells #[.int .i64 A, .int .i64 B] 29)).cell? ⟨w7.heap.size, 0, none⟩ = some (.int .i64 A) := by simp
    have kb1_8 : (w7.alloc (.cells #[.int .i64 A, .int .i64 B] 29)).cell? ⟨w7.heap.size, 1, none⟩ = some (.int .i64 B) := by simp
    clear k0_0_0_7 k0_0_1_7 k0_0_2_7 k2_0_0_7 k2_0_1_7 k2_0_2_7 k3_0_0_7 k3_0_1_7 k6_0_0_7 k6_0_1_7
    have hT8 : Tab (w7.alloc (.cells #[.int .i64 A, .int .i64 B] 29)) := hT7.alloc _
    have hB8 : Below w0.heap.size w0 (w7.alloc (.cells #[.int .i64 A, .int .i64 B] 29)) := hB7.alloc hB7.size _
    generalize (w7.alloc (.cells #[.int .i64 A, .int .i64 B] 29)) = w8 at *
    have hS : Hid (∀ w', Bel w8 w' → w'.cell? ⟨w0.heap.size, 0, none⟩ = some (.int .i64 rx) ∧ w'.cell? ⟨w0.heap.size, 1, none⟩ = some (.int .i64 ry) ∧ w'.cell? ⟨w0.heap.size, 2, none⟩ = some (.int .i64 rn) ∧ w'.cell? ⟨w2.heap.size, 0, none⟩ = some (.int .i64 X) ∧ w'.cell? ⟨w2.heap.size, 1, none⟩ = some (.int .i64 Y) ∧ w'.cell? ⟨w2.heap.size, 2, none⟩ = some (.int .i64 N) ∧ w'.cell? ⟨w3.heap.size, 0, none⟩ = some (.int .i64 x) ∧ w'.cell? ⟨w3.heap.size, 1, none⟩ = some (.int .i64 y) ∧ w'.cell? ⟨w6.heap.size, 0, none⟩ = some (.int .i64 A) ∧ w'.cell? ⟨w6.heap.size, 1, none⟩ = some (.int .i64 B) ∧ w'.cell? ⟨w7.heap.size, 0, none⟩ = some (.int .i64 A) ∧ w'.cell? ⟨w7.heap.size, 1, none⟩ = some (.int .i64 B) ∧ Bel w8 w') := Lib.hid (fun w' h => ⟨cell_call k0_0_0_8 h.2, cell_call k0_0_1_8 h.2, cell_call k0_0_2_8 h.2, cell_call k2_0_0_8 h.2, cell_call k2_0_1_8 h.2, cell_call k2_0_2_8 h.2, cell_call k3_0_0_8 h.2, cell_call k3_0_1_8 h.2, cell_call k6_0_0_8 h.2, cell_call k6_0_1_8 h.2, cell_call kb0_8 h.2, cell_call kb1_8 h.2, h⟩)
    have b8 : Bel w8 w8 := ⟨hT8, Below.refl _ _⟩
    have hn2 : -200 ≤ n ∧ n ≤ 200 := by omega
    have cn : IntKind.i64.wrap n = n := IntWalk.i64_in _ (by omega)
    have hy2 : -9223372036854775807 ≤ y ∧ y ≤ 9223372036854775807 := by omega
    clear hr r4 r5 hcap hcap2 hT1 hT2 hT3 hT4 hT5 hT6 hT7 hB1 hB2 hB3 hB4 hB5 hB6 hB7 hB0 hU hV
    go_region_held3 (fun w' => w'.cell? ⟨w0.heap.size, 0, none⟩ = some (.int .i64 rx) ∧ w'.cell? ⟨w0.heap.size, 1, none⟩ = some (.int .i64 ry) ∧ w'.cell? ⟨w0.heap.size, 2, none⟩ = some (.int .i64 rn) ∧ w'.cell? ⟨w2.heap.size, 0, none⟩ = some (.int .i64 X) ∧ w'.cell? ⟨w2.heap.size, 1, none⟩ = some (.int .i64 Y) ∧ w'.cell? ⟨w2.heap.size, 2, none⟩ = some (.int .i64 N) ∧ w'.cell? ⟨w3.heap.size, 0, none⟩ = some (.int .i64 x) ∧ w'.cell? ⟨w3.heap.size, 1, none⟩ = some (.int .i64 y) ∧ w'.cell? ⟨w6.heap.size, 0, none⟩ = some (.int .i64 A) ∧ w'.cell? ⟨w6.heap.size, 1, none⟩ = some (.int .i64 B) ∧ w'.cell? ⟨w7.heap.size, 0, none⟩ = some (.int .i64 A) ∧ w'.cell? ⟨w7.heap.size, 1, none⟩ = some (.int .i64 B) ∧ Bel w8 w')
      ((go_split_ands; refine hS.out _ ?_; repeat (first | assumption | apply Bel.drew | (with_reducible refine Bel.below ?_ hb9))))
      (first | (go_at_call 17; refine (inverse_is _ o _ hq Eo).mono ?_; rintro e w9 ⟨rfl, rfl⟩) | (go_at_call 18; refine (opp_is _ o _ hq Eo).mono ?_; rintro e w9 ⟨rfl, rfl⟩) | (go_at_call 19; (first | (with_reducible refine (valid_is rx ry rn b0 _ Eb).mono ?_)); rintro e w9 ⟨rfl, hb9⟩) | (go_at_call 20; (first | (with_reducible refine (right_is rx ry rn b0 _ Eb).mono ?_)); rintro e w9 ⟨rfl, hb9⟩) | (go_at_call 21; (first | (with_reducible refine (hC0.out _ (by go_split_ands; refine Bel.tab (w0 := w8) ?_; repeat (first | assumption | apply Bel.drew))).mono ?_) | (with_reducible refine (hC.out _ (by go_split_ands; refine Bel.tab (w0 := w8) ?_; repeat (first | assumption | apply Bel.drew))).mono ?_)); rintro e w9 ⟨rfl, hb9⟩) | (go_at_call 22; (first | (with_reducible refine (hA0.out _).mono ?_) | (with_reducible refine (hA.out _).mono ?_)); rintro e w9 ⟨rfl, hb9⟩) | (go_at_call 23; (first | (with_reducible refine (offset_ok X Y N n _ hv.out hn2).mono ?_)); rintro e w9 ⟨rfl, hb9⟩) | (go_at_call 24; (first | (with_reducible refine (fine_is X Y N n _ hv.out hn2).mono ?_)); rintro e w9 ⟨rfl, hb9⟩) | (go_at_call 25; (first | (with_reducible refine (quarter_any x y _ hy2).mono ?_)); rintro e w9 ⟨rfl, hb9⟩) | (go_at_call 26; (first | (with_reducible refine (left_any x y _ hy2).mono ?_)); rintro e w9 ⟨rfl, hb9⟩))
    all_goals
      rename_i hH
      obtain ⟨_, _, _, _, _, _, _, _, _, _, _, _, bz⟩ := hH
      have fin := Lib.hid (hB8.trans (bz.2.mono hB8.size))
      clear bz hS b8
      go_wp2_with fail
      go_ret
      exact ⟨rfl, fin.out⟩
  · go_enter Tryd.func3, Tryd.ntmps3
    go_wp2_with fail
    refine (head_any _ (by repeat (first | exact hT0 | apply Tab.alloc))).mono ?_; rintro e w1 ⟨rfl, hb1⟩
    have hT1 : Tab w1 := Tab.below (by repeat (first | exact hT0 | apply Tab.alloc)) hb1
    have hB1 : Below w0.heap.size w0 w1 := (hB0.alloc (by have := hB0.size; first | omega | (simp; done) | (simp; omega)) _).trans (hb1.mono (by have := hB0.size; first | omega | (simp; done) | (simp; omega)))
    have k0_0_0_1 : w1.cell? ⟨w0.heap.size, 0, none⟩ = some (.int .i64 rx) := cell_call (show (w0.alloc (.cells #[.int .i64 rx, .int .i64 ry, .int .i64 rn] 23)).cell? ⟨w0.heap.size, 0, none⟩ = some (.int .i64 rx) by simp) hb1
    have k0_0_1_1 : w1.cell? ⟨w0.heap.size, 1, none⟩ = some (.int .i64 ry) := cell_call (show (w0.alloc (.cells #[.int .i64 rx, .int .i64 ry, .int .i64 rn] 23)).cell? ⟨w0.heap.size, 1, none⟩ = some (.int .i64 ry) by simp) hb1
    have k0_0_2_1 : w1.cell? ⟨w0.heap.size, 2, none⟩ = some (.int .i64 rn) := cell_call (show (w0.alloc (.cells #[.int .i64 rx, .int .i64 ry, .int .i64 rn] 23)).cell? ⟨w0.heap.size, 2, none⟩ = some (.int .i64 rn) by simp) hb1
    clear hb1
    have z0_0_1 : w0.heap.size < w1.heap.size := World.block_lt_of_cell? w1 _ k0_0_0_1
    go_wp2_with fail
    go_ret
    exact ⟨rfl, hB1⟩

set_option maxRecDepth 100000 in
theorem lifted (os : Os) (started : os.Started) (H : Type) (enc : TypeId × Value → H) :
    ReturnsInHanded {} Tryd.checked os 3 .any (fun w args => (Rows.rotationMatchesReferenceSpec.pre enc Tryd.prog Tryd.f3 [] false w args ∧ laidMetH Tryd.prog Rows.rotationMatchesReferenceRow.laid w) ∧ sizedMet enc Tryd.prog Tryd.f3 (OpenSpec.ofChange Rows.rotationMatchesReferenceSpec) false w args)
      (Rows.rotationMatchesReferenceSpec.post enc Tryd.prog Tryd.f3 false true false false) := by
  refine returnsInHanded_of_change_and (C := Tryd.checked) (X := fun w _ => laidMetH Tryd.prog Rows.rotationMatchesReferenceRow.laid w) (fun _ _ _ hh h => h.of_heap hh) own started (by kernel_rfl) Tryd.func3
    (ChangeSpec.witness_shaped (enc := enc) (C := Tryd.checked) (os := os) (X := fun w _ => laidMetH Tryd.prog Rows.rotationMatchesReferenceRow.laid w) false (World.doorLaid Tryd.prog 600 os) #[.int .i64 0, .agg #[.int .i64 0, .int .i64 0, .int .i64 0], .slice none 0 0, .int .i8 0, .int .i32 0, .int .i32 0] 8 rfl (World.shaped_of_RefB (by kernel_rfl) (by kernel_rfl)) (by kernel_rfl) (by kernel_rfl) (by kernel_rfl) (show laidMetH Tryd.prog [(qn, Rows.laid_ambidexter_rotation_quadrant)] _ from door_met os _)) ?_
  intro W base args ds gs before hval0 hW _ _ hL _
  have hval : ∀ (j : Nat) t v, Tryd.f3.params[j]? = some t → args[j]? = some v → Value.okWide Tryd.prog W .any base t v := hval0
  have hW' := hW
  obtain ⟨p, q, hA0, hV, rfl, hfz, hnd⟩ := hW
  have hA : DataW.TrodAll enc Tryd.prog W 0 (fun _ => true) true Tryd.f3.params.toList args.toList ds p := hA0
  rw [Tryd.params3] at hA hval
  obtain ⟨v0, vs0, d0, ds0, p0, q0, hargs, rfl, rfl, h0, r0⟩ := trodAll_cons hA
  obtain ⟨v1, vs1, d1, ds1, p1, q1, rfl, rfl, rfl, h1, r1⟩ := trodAll_cons r0
  obtain ⟨v2, vs2, d2, ds2, p2, q2, rfl, rfl, rfl, h2, r2⟩ := trodAll_cons r1
  obtain ⟨v3, vs3, d3, ds3, p3, q3, rfl, rfl, rfl, h3, r3⟩ := trodAll_cons r2
  obtain ⟨v4, vs4, d4, ds4, p4, q4, rfl, rfl, rfl, h4, r4⟩ := trodAll_cons r3
  obtain ⟨v5, vs5, d5, ds5, p5, q5, rfl, rfl, rfl, h5, r5⟩ := trodAll_cons r4
  obtain ⟨rfl, rfl, rfl⟩ := trodAll_nil r5
  obtain rfl : args = #[v0, v1, v2, v3, v4, v5] := by cases args; simp_all
  obtain ⟨rfl, rfl⟩ := trodVars_none hV
  obtain ⟨a0, rfl, rfl, rfl, w0⟩ := open_int Tryd.underlying3 (hval 0 3 v0 rfl rfl) h0
  obtain ⟨vx1, vy1, vn1, yx1, yy1, yn1, nn1, rfl, rfl, rfl, tx1, ty1, tn1⟩ := Joins.open_agg3 Tryd.underlying23 (by kernel_rfl) (by kernel_rfl) (hval 1 23 v1 rfl rfl) h1
  obtain ⟨x1, ex1, rfl, wx1⟩ := DataW.trod_int Tryd.underlying3 tx1
  obtain ⟨y1, ey1, rfl, wy1⟩ := DataW.trod_int Tryd.underlying3 ty1
  obtain ⟨n1, en1, rfl, wn1⟩ := DataW.trod_int Tryd.underlying3 tn1
  obtain rfl : vx1 = .int .i64 x1 := by simpa using ex1
  obtain rfl : vy1 = .int .i64 y1 := by simpa using ey1
  obtain rfl : vn1 = .int .i64 n1 := by simpa using en1
  obtain ⟨a2, len2, cap2, rfl⟩ := okWide_slice Tryd.underlying24 (hval 2 24 v2 rfl rfl)
  have k2 := h2
  have lt2 : ∀ x ∈ p2, x.block < W.heap.size := by obtain ⟨m, hm⟩ := k2; exact DataW.trod_lt m _ _ _ hm
  obtain ⟨z2, w2⟩ : ∃ zs, IsRow .i64 W a2 len2 cap2 zs := by
    obtain ⟨fuel, hf⟩ := h2
    rcases open_ints Tryd.underlying24 Tryd.underlying3 (by kernel_rfl) hf with ⟨hcs, _⟩ | ⟨x, l, c, zs, hcs, _, hl, hm, hz, _, hcell, hwz⟩
    · simp [Value.cells] at hcs
      obtain ⟨rfl, rfl, rfl⟩ := hcs
      exact ⟨[], .inl ⟨rfl, rfl, rfl, rfl⟩⟩
    · simp [Value.cells] at hcs
      obtain ⟨rfl, rfl, rfl⟩ := hcs
      exact ⟨zs, .inr ⟨_, rfl, hl, hm, by simpa using hz, hcell, hwz⟩⟩
  obtain ⟨a3, rfl, rfl, rfl, w3⟩ := open_int Tryd.underlying25 (hval 3 25 v3 rfl rfl) h3
  obtain ⟨a4, rfl, rfl, rfl, w4⟩ := open_int Tryd.underlying21 (hval 4 21 v4 rfl rfl) h4
  obtain ⟨a5, rfl, rfl, rfl, w5⟩ := open_int Tryd.underlying21 (hval 5 21 v5 rfl rfl) h5
  clear hA0 hval0
  simp only [List.append_nil] at hW'
  refine (walk a0 w0 x1 y1 n1 wx1 wy1 wn1 a2 len2 cap2 z2 w2 a3 w3 a4 w4 a5 w5 (tab_of_laid hL)).mono fun e W' ⟨he, hg⟩ => ?_
  subst he
  exact ⟨_, rfl, _, _, _, [], _, [], hW', trodAll_mk1 (shut_bool Tryd.underlying4 _), (trodAll_cons_mk (shut_int Tryd.underlying3 w0) (trodAll_cons_mk (Joins.shut_agg3 Tryd.underlying23 (by kernel_rfl) (by kernel_rfl) (shut_int1 Tryd.underlying3 wx1) (shut_int1 Tryd.underlying3 wy1) (shut_int1 Tryd.underlying3 wn1)) (trodAll_cons_mk (Below.trod laidOut (by kernel_rfl) (of_decide_eq_true (by kernel_rfl)) k2 hg lt2) (trodAll_cons_mk (shut_int Tryd.underlying25 w3) (trodAll_cons_mk (shut_int Tryd.underlying21 w4) (trodAll_cons_mk (shut_int Tryd.underlying21 w5) trodAll_mk0)))))), rfl, hg.frame _, fun h => by cases h⟩

theorem holds : Rows.RotationMatchesReferenceSaid :=
  OpenClaim.holds_of_wide 3 Tryd.f3 rfl rfl rfl rfl rfl rfl rfl ⟨rfl, rfl, rfl, rfl, rfl⟩ rfl rfl rfl rfl rfl (by kernel_rfl) Tryd.func3 (by kernel_rfl)
    (of_decide_eq_true (by kernel_rfl)) (by unfold Func.isWrapper; first | (rw [if_pos (by decide +kernel)]; kernel_rfl) | (rw [if_neg (by decide +kernel)]; exact ⟨rfl, rfl⟩))
    (fun os started H enc _ => lifted os started H enc)

/-- THE STATEMENT: the tied card. -/
theorem card_holds : Rows.RotationMatchesReferenceCardSaid :=
  Claim7.holds_tied_plain_at .later [] [.data] true Rows.rotationMatchesReferenceCard.stood.harness false
    holds (fun _ h => by cases h) (by kernel_rfl) (fun _ h => by cases h) rotationMatchesReference_row_tie rfl ⟨rfl, rfl⟩ (by kernel_rfl) rfl
    (fun f fn hf hfn => by
      obtain rfl : f = 3 := Option.some.inj ((show Tryd.prog.funcNamed Rows.rotationMatchesReferenceRow.func = some 3 by kernel_rfl).symm.trans hf) |>.symm
      obtain rfl : fn = Tryd.f3 := (Option.some.inj (Tryd.func3.symm.trans hfn)).symm
      exact ⟨by kernel_rfl, fun j t ht => by
        rw [Tryd.params3] at ht
        have hm : t ∈ [3, 23, 24, 25, 21] := by have := Array.mem_of_getElem? ht; simp only [List.mem_toArray, List.mem_cons, List.not_mem_nil, or_false] at this ⊢; grind
        have hall : ([3, 23, 24, 25, 21].all fun u => !Tryd.prog.wantsStandIn u) = true := by kernel_rfl
        exact (show Tryd.prog.wantsStandIn t = false by simpa using List.all_eq_true.1 hall t hm)⟩)
    (by kernel_rfl)
#print axioms card_holds
end Go.Proofs.YtedhbcjlcgkocaaDoor.rotationMatchesReference
