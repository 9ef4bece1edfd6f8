/- Proved: exact rotations of points keep the distance to the origin and can be undone (the law RotationPreservesLength returns true).
Conditions: none on the arguments: for all two int32 and every int. The table of package rotation lies as the program text lays it (the card ties it). -/
import Derived.Test.YtedhbcjlcgkocaaDoorRefB
import Derived.Test.YtedhbcjlcgkocaaDoorTie
import Derived.Test.YtedhbcjlcgkocaaDoorCards
import Derived.SevenTiedAt
import Derived.Deep.RegionHeld3
import Derived.StillTailTactics
namespace Go.Proofs.YtedhbcjlcgkocaaDoor.rotationPreservesLength
open Go.ChangeShapes Go.WideShapes Go.ChangeAt Go.RowKit
set_option linter.unusedVariables false

theorem point_is (x y X Y : Int) (w : World) (hx : -2147483648 ≤ x ∧ x ≤ 2147483647) (hy : -2147483648 ≤ y ∧ y ≤ 2147483647) (EX : Hid (x.tmod 439400001 = X)) (EY : Hid (y.tmod 439400001 = Y)) :
    Calls Tryd.prog 12 #[.int .i32 x, .int .i32 y] w fun e w' => e = .returned (.agg #[.int .i64 X, .int .i64 Y]) ∧ Below w.heap.size w w' := by
  have := point_any x y w hx hy
  rw [EX.out, EY.out] at this
  exact this
/-- What else is kept through the drawn region: the table, old memory, the point a. -/
def More (w0 w5 : World) (z0 z1 : Int) (b : Nat) (w' : World) : Prop :=
  Tab w' ∧ Below w0.heap.size w0 w' ∧ w5.heap.size < w'.heap.size ∧ w'.cell? ⟨b, 0, none⟩ = some (.int .i64 z0) ∧ w'.cell? ⟨b, 1, none⟩ = some (.int .i64 z1)
theorem More.drew {w0 w5 : World} {z0 z1 : Int} {b : Nat} {w : World} (h : More w0 w5 z0 z1 b w) : More w0 w5 z0 z1 b w.drew := ⟨h.1.drew, h.2.1.drew, h.2.2.1, h.2.2.2.1, h.2.2.2.2⟩
def Bel (w0 w' : World) : Prop := Tab w' ∧ Below w0.heap.size w0 w'
theorem Bel.drew {w0 w : World} (h : Bel w0 w) : Bel w0 w.drew := ⟨h.1.drew, h.2.drew⟩
theorem Bel.tab {w0 w : World} (h : Bel w0 w) : Tab w := h.1
theorem Bel.alloc {w0 w : World} (h : Bel w0 w) (o : Obj) : Bel w0 (w.alloc o) := ⟨h.1.alloc o, h.2.alloc h.2.size o⟩
theorem Bel.setCell {w0 w : World} (h : Bel w0 w) {p : Addr} (hp : w0.heap.size ≤ p.block) (v : Value) (hz : 0 < p.block) : Bel w0 (w.setCell p v) := ⟨h.1.setCell hz v, h.2.setCell hp v⟩
theorem Bel.below {w0 w w' : World} (h : Bel w0 w) (hb : Below w.heap.size w w') : Bel w0 w' := ⟨h.1.below hb, h.2.trans (hb.mono h.2.size)⟩
theorem More.below {w0 w5 : World} {z0 z1 : Int} {b : Nat} {w w' : World} (h : More w0 w5 z0 z1 b w) (hb : Below w.heap.size w w') (hlt : b < w.heap.size) : More w0 w5 z0 z1 b w' :=
  ⟨h.1.below hb, h.2.1.trans (hb.mono h.2.1.size), Nat.lt_of_lt_of_le h.2.2.1 hb.size, (hb.cell (p := ⟨b, 0, none⟩) hlt).trans h.2.2.2.1, (hb.cell (p := ⟨b, 1, none⟩) hlt).trans h.2.2.2.2⟩

set_option maxRecDepth 100000 in
set_option maxHeartbeats 4000000 in
theorem walk_yes (a0 : Int) (rx : -2147483648 ≤ a0 ∧ a0 ≤ 2147483647) (a1 : Int) (ry : -2147483648 ≤ a1 ∧ a1 ≤ 2147483647) (q : Int) (hq : -9223372036854775808 ≤ q ∧ q ≤ 9223372036854775807) (w0 : World) (hT0 : Tab w0)
    (X Y M K I J U V A B : Int) (EX : Hid (a0.tmod 439400001 = X)) (EY : Hid (a1.tmod 439400001 = Y)) (bX : -1000000000000 ≤ X ∧ X ≤ 1000000000000) (bY : -1000000000000 ≤ Y ∧ Y ≤ 1000000000000) (bYn : -1000000000000 ≤ -Y ∧ -Y ≤ 1000000000000)
    (bX' : -439400000 ≤ X ∧ X ≤ 439400000) (bY' : -439400000 ≤ Y ∧ Y ≤ 439400000) (Ei : Hid (X - X.tmod 65 = M)) (Ej : Hid (Y - Y.tmod 65 = K)) (bi : -1000000000000 ≤ M ∧ M ≤ 1000000000000) (bj : -1000000000000 ≤ K ∧ K ≤ 1000000000000) (bI : -1000000000000 ≤ I ∧ I ≤ 1000000000000) (bJ : -1000000000000 ≤ J ∧ J ≤ 1000000000000)
    (bi' : -439400000 ≤ M ∧ M ≤ 439400000) (bj' : -439400000 ≤ K ∧ K ≤ 439400000) (bI' : -1000000000 ≤ I ∧ I ≤ 1000000000) (bJ' : -1000000000 ≤ J ∧ J ≤ 1000000000)
    (EU : Hid (X * (csF (q % 36).toNat).1 - Y * (csF (q % 36).toNat).2 = U)) (EV : Hid (X * (csF (q % 36).toNat).2 + Y * (csF (q % 36).toNat).1 = V)) (EA : Hid (U = 65 * A)) (EB : Hid (V = 65 * B)) (bA : -1000000000000 ≤ A ∧ A ≤ 1000000000000) (bB : -1000000000000 ≤ B ∧ B ≤ 1000000000000)
    (EI : Hid (M * (csF (q % 36).toNat).1 - K * (csF (q % 36).toNat).2 = 65 * I)) (EJ : Hid (M * (csF (q % 36).toNat).2 + K * (csF (q % 36).toNat).1 = 65 * J))
    (E9a : Hid (X * (csF ((9 : Int) % 36).toNat).1 - Y * (csF ((9 : Int) % 36).toNat).2 = 65 * -Y)) (E9b : Hid (X * (csF ((9 : Int) % 36).toNat).2 + Y * (csF ((9 : Int) % 36).toNat).1 = 65 * X))
    (EL : Hid (I * I + J * J = M * M + K * K)) (oi : Int) (Eo : Hid (invF (q % 36) = oi)) (bo : -17 ≤ oi ∧ oi ≤ 18) (Eb1 : Hid (A * (csF (oi % 36).toNat).1 - B * (csF (oi % 36).toNat).2 = 65 * X)) (Eb2 : Hid (A * (csF (oi % 36).toNat).2 + B * (csF (oi % 36).toNat).1 = 65 * Y)) (EK : Hid (A * A + B * B = X * X + Y * Y)) :
    Calls Tryd.prog 9 #[.int .i32 a0, .int .i32 a1, .int .i64 q] w0 fun e w' => e = .returned (.bool true) ∧ Below w0.heap.size w0 w' := by
  have ei := Ei.out
  have ej := Ej.out
  have hB0 : Below w0.heap.size w0 w0 := Below.refl _ _
  go_enter Tryd.func9, Tryd.ntmps9
  go_wp2_with fail
  refine (head_any _ (by repeat (first | exact hT0 | apply Tab.alloc))).mono ?_; rintro e w1 ⟨rfl, hb1⟩
  have hT1 : Tab w1 := Tab.below (by repeat (first | exact hT0 | apply Tab.alloc)) hb1
  obtain ⟨hc1, hf1⟩ := bcell hb1
  have hs1 : w0.heap.size + 0 ≤ w1.heap.size := by have := hb1.size; first | exact this | (simp at this; omega)
  have hB1 : Below w0.heap.size w0 w1 := hB0.trans (hb1.mono (by have := hB0.size; first | omega | (simp; done) | (simp; omega)))
  go_wp2_with fail
  refine (point_is _ _ X Y _ rx ry EX EY).mono ?_; rintro e w2 ⟨rfl, hb2⟩
  have hT2 : Tab w2 := Tab.below (by repeat (first | exact hT1 | apply Tab.alloc)) hb2
  obtain ⟨hc2, hf2⟩ := bcell hb2
  have hs2 : w1.heap.size + 0 ≤ w2.heap.size := by have := hb2.size; first | exact this | (simp at this; omega)
  have hB2 : Below w0.heap.size w0 w2 := hB1.trans (hb2.mono (by have := hB1.size; first | omega | (simp; done) | (simp; omega)))
  go_wp2_with fail
  refine (rotate_ok X Y q A B U V _ (by repeat (first | exact hT2 | apply Tab.alloc)) bX bY hq EU EV EA EB bA bB).mono ?_; rintro e w3 ⟨rfl, hb3⟩
  have hT3 : Tab w3 := Tab.below (by repeat (first | exact hT2 | apply Tab.alloc)) hb3
  obtain ⟨hc3, hf3⟩ := bcell hb3
  have hs3 : w2.heap.size + 2 ≤ w3.heap.size := by have := hb3.size; first | exact this | (simp at this; omega)
  have hB3 : Below w0.heap.size w0 w3 := ((hB2.alloc (by have := hB2.size; first | omega | (simp; done) | (simp; omega)) _).alloc (by have := hB2.size; first | omega | (simp; done) | (simp; omega)) _).trans (hb3.mono (by have := hB2.size; first | omega | (simp; done) | (simp; omega)))
  have hz2_0_3 : w2.heap.size < w3.heap.size := by omega
  have hz2_1_3 : w2.heap.size + 1 < w3.heap.size := by omega
  go_wp2_with fail
  refine (rotate_ok M K q I J (65 * I) (65 * J) _ (by repeat (first | exact hT3 | apply Tab.alloc)) bi bj hq EI EJ (Lib.hid rfl) (Lib.hid rfl) bI bJ).mono ?_; rintro e w4 ⟨rfl, hb4⟩
  have hT4 : Tab w4 := Tab.below (by repeat (first | exact hT3 | apply Tab.alloc)) hb4
  obtain ⟨hc4, hf4⟩ := bcell hb4
  have hs4 : w3.heap.size + 1 ≤ w4.heap.size := by have := hb4.size; first | exact this | (simp at this; omega)
  have hB4 : Below w0.heap.size w0 w4 := (hB3.alloc (by have := hB3.size; first | omega | (simp; done) | (simp; omega)) _).trans (hb4.mono (by have := hB3.size; first | omega | (simp; done) | (simp; omega)))
  have hz2_0_4 : w2.heap.size < w4.heap.size := by omega
  have hz2_1_4 : w2.heap.size + 1 < w4.heap.size := by omega
  have hz3_0_4 : w3.heap.size < w4.heap.size := by omega
  go_wp2_with fail
  refine (rotate_ok X Y 9 (-Y) X (65 * -Y) (65 * X) _ (by repeat (first | exact hT4 | apply Tab.alloc)) bX bY (by omega) E9a E9b (Lib.hid rfl) (Lib.hid rfl) bYn bX).mono ?_; rintro e w5 ⟨rfl, hb5⟩
  have hT5 : Tab w5 := Tab.below (by repeat (first | exact hT4 | apply Tab.alloc)) hb5
  obtain ⟨hc5, hf5⟩ := bcell hb5
  have hs5 : w4.heap.size + 1 ≤ w5.heap.size := by have := hb5.size; first | exact this | (simp at this; omega)
  have hB5 : Below w0.heap.size w0 w5 := (hB4.alloc (by have := hB4.size; first | omega | (simp; done) | (simp; omega)) _).trans (hb5.mono (by have := hB4.size; first | omega | (simp; done) | (simp; omega)))
  have hz2_0_5 : w2.heap.size < w5.heap.size := by omega
  have hz2_1_5 : w2.heap.size + 1 < w5.heap.size := by omega
  have hz3_0_5 : w3.heap.size < w5.heap.size := by omega
  have hz4_0_5 : w4.heap.size < w5.heap.size := by omega
  go_wp2_with fail
  have k0 : (w5.alloc (.cells #[.int .i64 (-Y), .int .i64 X] 29)).cell? ⟨w2.heap.size, 0, none⟩ = some (.int .i64 X) := by rw [World.cell?_alloc_lt w5 _ ⟨w2.heap.size, 0, none⟩ (by first | omega | (simp; omega)), hb5.cell (p := ⟨w2.heap.size, 0, none⟩) (by first | omega | (simp; done) | (simp; omega)), World.cell?_alloc_lt w4 _ ⟨w2.heap.size, 0, none⟩ (by first | omega | (simp; omega)), hb4.cell (p := ⟨w2.heap.size, 0, none⟩) (by first | omega | (simp; done) | (simp; omega)), World.cell?_alloc_lt w3 _ ⟨w2.heap.size, 0, none⟩ (by first | omega | (simp; omega)), hb3.cell (p := ⟨w2.heap.size, 0, none⟩) (by first | omega | (simp; done) | (simp; omega))]; simp
  have k1 : (w5.alloc (.cells #[.int .i64 (-Y), .int .i64 X] 29)).cell? ⟨w2.heap.size, 1, none⟩ = some (.int .i64 Y) := by rw [World.cell?_alloc_lt w5 _ ⟨w2.heap.size, 1, none⟩ (by first | omega | (simp; omega)), hb5.cell (p := ⟨w2.heap.size, 1, none⟩) (by first | omega | (simp; done) | (simp; omega)), World.cell?_alloc_lt w4 _ ⟨w2.heap.size, 1, none⟩ (by first | omega | (simp; omega)), hb4.cell (p := ⟨w2.heap.size, 1, none⟩) (by first | omega | (simp; done) | (simp; omega)), World.cell?_alloc_lt w3 _ ⟨w2.heap.size, 1, none⟩ (by first | omega | (simp; omega)), hb3.cell (p := ⟨w2.heap.size, 1, none⟩) (by first | omega | (simp; done) | (simp; omega))]; simp
  have k2 : (w5.alloc (.cells #[.int .i64 (-Y), .int .i64 X] 29)).cell? ⟨w2.heap.size + 1, 0, none⟩ = some (.int .i64 M) := by rw [World.cell?_alloc_lt w5 _ ⟨w2.heap.size + 1, 0, none⟩ (by first | omega | (simp; omega)), hb5.cell (p := ⟨w2.heap.size + 1, 0, none⟩) (by first | omega | (simp; done) | (simp; omega)), World.cell?_alloc_lt w4 _ ⟨w2.heap.size + 1, 0, none⟩ (by first | omega | (simp; omega)), hb4.cell (p := ⟨w2.heap.size + 1, 0, none⟩) (by first | omega | (simp; done) | (simp; omega)), World.cell?_alloc_lt w3 _ ⟨w2.heap.size + 1, 0, none⟩ (by first | omega | (simp; omega)), hb3.cell (p := ⟨w2.heap.size + 1, 0, none⟩) (by first | omega | (simp; done) | (simp; omega))]; simp
  have k3 : (w5.alloc (.cells #[.int .i64 (-Y), .int .i64 X] 29)).cell? ⟨w2.heap.size + 1, 1, none⟩ = some (.int .i64 K) := by rw [World.cell?_alloc_lt w5 _ ⟨w2.heap.size + 1, 1, none⟩ (by first | omega | (simp; omega)), hb5.cell (p := ⟨w2.heap.size + 1, 1, none⟩) (by first | omega | (simp; done) | (simp; omega)), World.cell?_alloc_lt w4 _ ⟨w2.heap.size + 1, 1, none⟩ (by first | omega | (simp; omega)), hb4.cell (p := ⟨w2.heap.size + 1, 1, none⟩) (by first | omega | (simp; done) | (simp; omega)), World.cell?_alloc_lt w3 _ ⟨w2.heap.size + 1, 1, none⟩ (by first | omega | (simp; omega)), hb3.cell (p := ⟨w2.heap.size + 1, 1, none⟩) (by first | omega | (simp; done) | (simp; omega))]; simp
  have k4 : (w5.alloc (.cells #[.int .i64 (-Y), .int .i64 X] 29)).cell? ⟨w4.heap.size, 0, none⟩ = some (.int .i64 I) := by rw [World.cell?_alloc_lt w5 _ ⟨w4.heap.size, 0, none⟩ (by first | omega | (simp; omega)), hb5.cell (p := ⟨w4.heap.size, 0, none⟩) (by first | omega | (simp; done) | (simp; omega))]; simp
  have k5 : (w5.alloc (.cells #[.int .i64 (-Y), .int .i64 X] 29)).cell? ⟨w4.heap.size, 1, none⟩ = some (.int .i64 J) := by rw [World.cell?_alloc_lt w5 _ ⟨w4.heap.size, 1, none⟩ (by first | omega | (simp; omega)), hb5.cell (p := ⟨w4.heap.size, 1, none⟩) (by first | omega | (simp; done) | (simp; omega))]; simp
  have k6 : (w5.alloc (.cells #[.int .i64 (-Y), .int .i64 X] 29)).cell? ⟨w5.heap.size, 0, none⟩ = some (.int .i64 (-Y)) := by simp
  have k7 : (w5.alloc (.cells #[.int .i64 (-Y), .int .i64 X] 29)).cell? ⟨w5.heap.size, 1, none⟩ = some (.int .i64 X) := by simp
  have kM : More w0 w5 A B w3.heap.size (w5.alloc (.cells #[.int .i64 (-Y), .int .i64 X] 29)) := by
    refine ⟨hT5.alloc _, hB5.alloc hB5.size _, by simp, ?_, ?_⟩
    · rw [World.cell?_alloc_lt w5 _ ⟨w3.heap.size, 0, none⟩ (by first | omega | (simp; omega)), hb5.cell (p := ⟨w3.heap.size, 0, none⟩) (by first | omega | (simp; done) | (simp; omega)), World.cell?_alloc_lt w4 _ ⟨w3.heap.size, 0, none⟩ (by first | omega | (simp; omega)), hb4.cell (p := ⟨w3.heap.size, 0, none⟩) (by first | omega | (simp; done) | (simp; omega))]; simp
    · rw [World.cell?_alloc_lt w5 _ ⟨w3.heap.size, 1, none⟩ (by first | omega | (simp; omega)), hb5.cell (p := ⟨w3.heap.size, 1, none⟩) (by first | omega | (simp; done) | (simp; omega)), World.cell?_alloc_lt w4 _ ⟨w3.heap.size, 1, none⟩ (by first | omega | (simp; omega)), hb4.cell (p := ⟨w3.heap.size, 1, none⟩) (by first | omega | (simp; done) | (simp; omega))]; simp
  have z2 : w2.heap.size < (w5.alloc (.cells #[.int .i64 (-Y), .int .i64 X] 29)).heap.size := by simp; omega
  have z3 : w2.heap.size + 1 < (w5.alloc (.cells #[.int .i64 (-Y), .int .i64 X] 29)).heap.size := by simp; omega
  have z4 : w4.heap.size < (w5.alloc (.cells #[.int .i64 (-Y), .int .i64 X] 29)).heap.size := by simp; omega
  have z5 : w5.heap.size < (w5.alloc (.cells #[.int .i64 (-Y), .int .i64 X] 29)).heap.size := by simp
  have z6 : w3.heap.size < (w5.alloc (.cells #[.int .i64 (-Y), .int .i64 X] 29)).heap.size := by simp; omega
  clear hb1 hb2 hb3 hb4 hb5 hc1 hc2 hc3 hc4 hc5 hf1 hf2 hf3 hf4 hf5
  generalize w5.alloc (.cells #[.int .i64 (-Y), .int .i64 X] 29) = w6 at *
  obtain ⟨i1, i2⟩ := sq_bd (x := I) (B := 1000000000) bI'
  obtain ⟨i3, i4⟩ := sq_bd (x := J) (B := 1000000000) bJ'
  obtain ⟨i5, i6⟩ := sq_bd (x := M) (B := 439400000) bi'
  obtain ⟨i7, i8⟩ := sq_bd (x := K) (B := 439400000) bj'
  have g1 : IntKind.i64.wrap (I * I) = I * I := IntWalk.i64_in _ (by omega)
  have g2 : IntKind.i64.wrap (J * J) = J * J := IntWalk.i64_in _ (by omega)
  have g3 : IntKind.i64.wrap (M * M) = M * M := IntWalk.i64_in _ (by omega)
  have g4 : IntKind.i64.wrap (K * K) = K * K := IntWalk.i64_in _ (by omega)
  have g5 : IntKind.i64.wrap (I * I + J * J) = I * I + J * J := IntWalk.i64_in _ (by omega)
  have g6 : IntKind.i64.wrap (M * M + K * K) = M * M + K * K := IntWalk.i64_in _ (by omega)
  have g7 : (I * I + J * J != M * M + K * K) = false := by rw [EL.out]; simp
  go_region_held3 (fun w' => w'.cell? ⟨w2.heap.size, 0, none⟩ = some (.int .i64 X) ∧ w'.cell? ⟨w2.heap.size, 1, none⟩ = some (.int .i64 Y) ∧ w'.cell? ⟨w2.heap.size + 1, 0, none⟩ = some (.int .i64 M) ∧ w'.cell? ⟨w2.heap.size + 1, 1, none⟩ = some (.int .i64 K) ∧ w'.cell? ⟨w4.heap.size, 0, none⟩ = some (.int .i64 I) ∧ w'.cell? ⟨w4.heap.size, 1, none⟩ = some (.int .i64 J) ∧ w'.cell? ⟨w5.heap.size, 0, none⟩ = some (.int .i64 (-Y)) ∧ w'.cell? ⟨w5.heap.size, 1, none⟩ = some (.int .i64 X) ∧ w2.heap.size < w'.heap.size ∧ w2.heap.size + 1 < w'.heap.size ∧ w4.heap.size < w'.heap.size ∧ w5.heap.size < w'.heap.size ∧ w3.heap.size < w'.heap.size ∧ More w0 w5 A B w3.heap.size w') (first | (refine ⟨?_, ?_, ?_, ?_, ?_, ?_, ?_, ?_, ?_, ?_, ?_, ?_, ?_, ?_⟩ <;> first | (simp only [World.cell?_drew, World.size_drew]; assumption) | exact More.drew (by assumption)) | (refine ⟨(hb7.cell (p := ⟨w2.heap.size, 0, none⟩) (by assumption)).trans (by assumption), (hb7.cell (p := ⟨w2.heap.size, 1, none⟩) (by assumption)).trans (by assumption), (hb7.cell (p := ⟨w2.heap.size + 1, 0, none⟩) (by assumption)).trans (by assumption), (hb7.cell (p := ⟨w2.heap.size + 1, 1, none⟩) (by assumption)).trans (by assumption), (hb7.cell (p := ⟨w4.heap.size, 0, none⟩) (by assumption)).trans (by assumption), (hb7.cell (p := ⟨w4.heap.size, 1, none⟩) (by assumption)).trans (by assumption), (hb7.cell (p := ⟨w5.heap.size, 0, none⟩) (by assumption)).trans (by assumption), (hb7.cell (p := ⟨w5.heap.size, 1, none⟩) (by assumption)).trans (by assumption), Nat.lt_of_lt_of_le (by assumption) hb7.size, Nat.lt_of_lt_of_le (by assumption) hb7.size, Nat.lt_of_lt_of_le (by assumption) hb7.size, Nat.lt_of_lt_of_le (by assumption) hb7.size, Nat.lt_of_lt_of_le (by assumption) hb7.size, More.below (by first | assumption | exact More.drew (by assumption)) hb7 (by assumption)⟩))
    (first | (go_at_call 25; refine (quarter_any X Y _ (by omega)).mono ?_; rintro e w7 ⟨rfl, hb7⟩))
  have hH : w7.cell? ⟨w2.heap.size, 0, none⟩ = some (.int .i64 X) ∧ w7.cell? ⟨w2.heap.size, 1, none⟩ = some (.int .i64 Y) ∧ w7.cell? ⟨w2.heap.size + 1, 0, none⟩ = some (.int .i64 M) ∧ w7.cell? ⟨w2.heap.size + 1, 1, none⟩ = some (.int .i64 K) ∧ w7.cell? ⟨w4.heap.size, 0, none⟩ = some (.int .i64 I) ∧ w7.cell? ⟨w4.heap.size, 1, none⟩ = some (.int .i64 J) ∧ w7.cell? ⟨w5.heap.size, 0, none⟩ = some (.int .i64 (-Y)) ∧ w7.cell? ⟨w5.heap.size, 1, none⟩ = some (.int .i64 X) ∧ w2.heap.size < w7.heap.size ∧ w2.heap.size + 1 < w7.heap.size ∧ w4.heap.size < w7.heap.size ∧ w5.heap.size < w7.heap.size ∧ w3.heap.size < w7.heap.size ∧ More w0 w5 A B w3.heap.size w7 := by assumption
  obtain ⟨l0, l1, _, _, _, _, _, _, y2, y2b, _, _, y3, hT7, hB7, _, la, lb⟩ := hH
  clear k0 k1 k2 k3 k4 k5 k6 k7 kM g1 g2 g3 g4 g5 g6 g7 i1 i2 i3 i4 i5 i6 i7 i8 z2 z3 z4 z5 z6 hb7 ei ej
  by_cases hm : (-439400000 ≤ A ∧ A ≤ 439400000) ∧ (-439400000 ≤ B ∧ B ≤ 439400000)
  · go_wp2_with fail
    refine (may_yes A B _ hm.1 hm.2).mono ?_; rintro e w8 ⟨rfl, hb8⟩
    have hT8 := hT7.below hb8
    have hB8 : Below w0.heap.size w0 w8 := hB7.trans (hb8.mono hB7.size)
    have y8 : w2.heap.size < w8.heap.size := Nat.lt_of_lt_of_le y2 hb8.size
    have y9 : w3.heap.size < w8.heap.size := Nat.lt_of_lt_of_le y3 hb8.size
    have m0 : w8.cell? ⟨w2.heap.size, 0, none⟩ = some (.int .i64 X) := (hb8.cell (p := ⟨w2.heap.size, 0, none⟩) y2).trans l0
    have m1 : w8.cell? ⟨w2.heap.size, 1, none⟩ = some (.int .i64 Y) := (hb8.cell (p := ⟨w2.heap.size, 1, none⟩) y2).trans l1
    have m2 : w8.cell? ⟨w3.heap.size, 0, none⟩ = some (.int .i64 A) := (hb8.cell (p := ⟨w3.heap.size, 0, none⟩) y3).trans la
    have m3 : w8.cell? ⟨w3.heap.size, 1, none⟩ = some (.int .i64 B) := (hb8.cell (p := ⟨w3.heap.size, 1, none⟩) y3).trans lb
    go_wp2_with fail
    have hS : Hid (∀ w', Bel w8 w' → w'.cell? ⟨w2.heap.size, 0, none⟩ = some (.int .i64 X) ∧ w'.cell? ⟨w2.heap.size, 1, none⟩ = some (.int .i64 Y) ∧ w'.cell? ⟨w3.heap.size, 0, none⟩ = some (.int .i64 A) ∧ w'.cell? ⟨w3.heap.size, 1, none⟩ = some (.int .i64 B) ∧ Bel w8 w') := Lib.hid (fun w' h => ⟨(h.2.cell (p := ⟨w2.heap.size, 0, none⟩) y8).trans m0, (h.2.cell (p := ⟨w2.heap.size, 1, none⟩) y8).trans m1, (h.2.cell (p := ⟨w3.heap.size, 0, none⟩) y9).trans m2, (h.2.cell (p := ⟨w3.heap.size, 1, none⟩) y9).trans m3, h⟩)
    have b8 : Bel w8 w8 := ⟨hT8, Below.refl _ _⟩
    clear hb8 l0 l1 la lb hT7 hB7 y2 y2b y3
    go_region_held3 (fun w' => w'.cell? ⟨w2.heap.size, 0, none⟩ = some (.int .i64 X) ∧ w'.cell? ⟨w2.heap.size, 1, none⟩ = some (.int .i64 Y) ∧ w'.cell? ⟨w3.heap.size, 0, none⟩ = some (.int .i64 A) ∧ w'.cell? ⟨w3.heap.size, 1, none⟩ = some (.int .i64 B) ∧ Bel w8 w')
      ((go_split_ands; refine hS.out _ ?_; repeat (first | assumption | apply Bel.drew | (with_reducible refine Bel.below ?_ hb9) | (with_reducible refine Bel.alloc ?_ _) | (with_reducible refine Bel.setCell ?_ ?_ _ ?_) | exact Nat.le_refl _ | (simp; done) | omega | (dsimp only; omega))))
      (first | (go_at_call 17; refine (inverse_is q oi _ hq Eo).mono ?_; rintro e w9 ⟨rfl, rfl⟩) | (go_at_call 15; refine (rotate_ok A B oi X Y (65 * X) (65 * Y) _ (by refine Bel.tab (w0 := w8) ?_; repeat (first | assumption | apply Bel.drew | (with_reducible refine Bel.alloc ?_ _))) bA bB (by omega) Eb1 Eb2 (Lib.hid rfl) (Lib.hid rfl) bX bY).mono ?_; rintro e w9 ⟨rfl, hb9⟩; obtain ⟨hc9, hf9⟩ := bcell hb9))
    · rename_i hH
      obtain ⟨n0, n1, n2, n3, bz⟩ := hH
      have fin := Lib.hid (hB8.trans (bz.2.mono hB8.size))
      obtain ⟨i1, i2⟩ := sq_bd (x := A) (B := 439400000) hm.1
      obtain ⟨i3, i4⟩ := sq_bd (x := B) (B := 439400000) hm.2
      obtain ⟨i5, i6⟩ := sq_bd (x := X) (B := 439400000) bX'
      obtain ⟨i7, i8⟩ := sq_bd (x := Y) (B := 439400000) bY'
      have e1 : (A * A + B * B == X * X + Y * Y) = true := by rw [EK.out]; simp
      clear bz hb9 hS b8 m0 m1 m2 m3
      go_wp2_with fail
      go_ret
      exact ⟨rfl, fin.out⟩
    all_goals
      rename_i hH
      obtain ⟨n0, n1, n2, n3, bz⟩ := hH
      have q0 : w9.cell? ⟨w8.heap.size, 0, none⟩ = some (.int .i64 0) := (hb9.cell (p := ⟨w8.heap.size, 0, none⟩) (by simp)).trans (by simp)
      have q1 : w9.cell? ⟨w8.heap.size, 1, none⟩ = some (.int .i64 0) := (hb9.cell (p := ⟨w8.heap.size, 1, none⟩) (by simp)).trans (by simp)
      have fin := Lib.hid (hB8.trans (bz.2.mono hB8.size))
      obtain ⟨i1, i2⟩ := sq_bd (x := A) (B := 439400000) hm.1
      obtain ⟨i3, i4⟩ := sq_bd (x := B) (B := 439400000) hm.2
      obtain ⟨i5, i6⟩ := sq_bd (x := X) (B := 439400000) bX'
      obtain ⟨i7, i8⟩ := sq_bd (x := Y) (B := 439400000) bY'
      have e1 : (A * A + B * B == X * X + Y * Y) = true := by rw [EK.out]; simp
      clear bz hb9 hS b8 m0 m1 m2 m3
      go_wp2_with fail
      go_ret
      exact ⟨rfl, fin.out⟩
  · go_wp2_with fail
    refine (may_no A B _ hm).mono ?_; rintro e w8 ⟨rfl, hb8⟩
    have hB8 : Below w0.heap.size w0 w8 := hB7.trans (hb8.mono hB7.size)
    go_wp2_with fail
    go_ret
    exact ⟨rfl, hB8⟩

set_option maxRecDepth 100000 in
set_option maxHeartbeats 4000000 in
theorem walk_no (a0 : Int) (rx : -2147483648 ≤ a0 ∧ a0 ≤ 2147483647) (a1 : Int) (ry : -2147483648 ≤ a1 ∧ a1 ≤ 2147483647) (q : Int) (hq : -9223372036854775808 ≤ q ∧ q ≤ 9223372036854775807) (w0 : World) (hT0 : Tab w0)
    (X Y M K I J U V : Int) (EX : Hid (a0.tmod 439400001 = X)) (EY : Hid (a1.tmod 439400001 = Y)) (bX : -1000000000000 ≤ X ∧ X ≤ 1000000000000) (bY : -1000000000000 ≤ Y ∧ Y ≤ 1000000000000) (bYn : -1000000000000 ≤ -Y ∧ -Y ≤ 1000000000000)
    (bX' : -439400000 ≤ X ∧ X ≤ 439400000) (bY' : -439400000 ≤ Y ∧ Y ≤ 439400000) (Ei : Hid (X - X.tmod 65 = M)) (Ej : Hid (Y - Y.tmod 65 = K)) (bi : -1000000000000 ≤ M ∧ M ≤ 1000000000000) (bj : -1000000000000 ≤ K ∧ K ≤ 1000000000000) (bI : -1000000000000 ≤ I ∧ I ≤ 1000000000000) (bJ : -1000000000000 ≤ J ∧ J ≤ 1000000000000)
    (bi' : -439400000 ≤ M ∧ M ≤ 439400000) (bj' : -439400000 ≤ K ∧ K ≤ 439400000) (bI' : -1000000000 ≤ I ∧ I ≤ 1000000000) (bJ' : -1000000000 ≤ J ∧ J ≤ 1000000000)
    (EU : Hid (X * (csF (q % 36).toNat).1 - Y * (csF (q % 36).toNat).2 = U)) (EV : Hid (X * (csF (q % 36).toNat).2 + Y * (csF (q % 36).toNat).1 = V)) (hno : ¬ (U % 65 = 0 ∧ V % 65 = 0))
    (EI : Hid (M * (csF (q % 36).toNat).1 - K * (csF (q % 36).toNat).2 = 65 * I)) (EJ : Hid (M * (csF (q % 36).toNat).2 + K * (csF (q % 36).toNat).1 = 65 * J))
    (E9a : Hid (X * (csF ((9 : Int) % 36).toNat).1 - Y * (csF ((9 : Int) % 36).toNat).2 = 65 * -Y)) (E9b : Hid (X * (csF ((9 : Int) % 36).toNat).2 + Y * (csF ((9 : Int) % 36).toNat).1 = 65 * X))
    (EL : Hid (I * I + J * J = M * M + K * K)) :
    Calls Tryd.prog 9 #[.int .i32 a0, .int .i32 a1, .int .i64 q] w0 fun e w' => e = .returned (.bool true) ∧ Below w0.heap.size w0 w' := by
  have ei := Ei.out
  have ej := Ej.out
  have hB0 : Below w0.heap.size w0 w0 := Below.refl _ _
  go_enter Tryd.func9, Tryd.ntmps9
  go_wp2_with fail
  refine (head_any _ (by repeat (first | exact hT0 | apply Tab.alloc))).mono ?_; rintro e w1 ⟨rfl, hb1⟩
  have hT1 : Tab w1 := Tab.below (by repeat (first | exact hT0 | apply Tab.alloc)) hb1
  obtain ⟨hc1, hf1⟩ := bcell hb1
  have hs1 : w0.heap.size + 0 ≤ w1.heap.size := by have := hb1.size; first | exact this | (simp at this; omega)
  have hB1 : Below w0.heap.size w0 w1 := hB0.trans (hb1.mono (by have := hB0.size; first | omega | (simp; done) | (simp; omega)))
  go_wp2_with fail
  refine (point_is _ _ X Y _ rx ry EX EY).mono ?_; rintro e w2 ⟨rfl, hb2⟩
  have hT2 : Tab w2 := Tab.below (by repeat (first | exact hT1 | apply Tab.alloc)) hb2
  obtain ⟨hc2, hf2⟩ := bcell hb2
  have hs2 : w1.heap.size + 0 ≤ w2.heap.size := by have := hb2.size; first | exact this | (simp at this; omega)
  have hB2 : Below w0.heap.size w0 w2 := hB1.trans (hb2.mono (by have := hB1.size; first | omega | (simp; done) | (simp; omega)))
  go_wp2_with fail
  refine (rotate_no X Y q U V _ (by repeat (first | exact hT2 | apply Tab.alloc)) bX bY hq EU EV hno).mono ?_; rintro e w3 ⟨rfl, hb3⟩
  have hT3 : Tab w3 := Tab.below (by repeat (first | exact hT2 | apply Tab.alloc)) hb3
  obtain ⟨hc3, hf3⟩ := bcell hb3
  have hs3 : w2.heap.size + 2 ≤ w3.heap.size := by have := hb3.size; first | exact this | (simp at this; omega)
  have hB3 : Below w0.heap.size w0 w3 := ((hB2.alloc (by have := hB2.size; first | omega | (simp; done) | (simp; omega)) _).alloc (by have := hB2.size; first | omega | (simp; done) | (simp; omega)) _).trans (hb3.mono (by have := hB2.size; first | omega | (simp; done) | (simp; omega)))
  have hz2_0_3 : w2.heap.size < w3.heap.size := by omega
  have hz2_1_3 : w2.heap.size + 1 < w3.heap.size := by omega
  go_wp2_with fail
  refine (rotate_ok M K q I J (65 * I) (65 * J) _ (by repeat (first | exact hT3 | apply Tab.alloc)) bi bj hq EI EJ (Lib.hid rfl) (Lib.hid rfl) bI bJ).mono ?_; rintro e w4 ⟨rfl, hb4⟩
  have hT4 : Tab w4 := Tab.below (by repeat (first | exact hT3 | apply Tab.alloc)) hb4
  obtain ⟨hc4, hf4⟩ := bcell hb4
  have hs4 : w3.heap.size + 1 ≤ w4.heap.size := by have := hb4.size; first | exact this | (simp at this; omega)
  have hB4 : Below w0.heap.size w0 w4 := (hB3.alloc (by have := hB3.size; first | omega | (simp; done) | (simp; omega)) _).trans (hb4.mono (by have := hB3.size; first | omega | (simp; done) | (simp; omega)))
  have hz2_0_4 : w2.heap.size < w4.heap.size := by omega
  have hz2_1_4 : w2.heap.size + 1 < w4.heap.size := by omega
  have hz3_0_4 : w3.heap.size < w4.heap.size := by omega
  go_wp2_with fail
  refine (rotate_ok X Y 9 (-Y) X (65 * -Y) (65 * X) _ (by repeat (first | exact hT4 | apply Tab.alloc)) bX bY (by omega) E9a E9b (Lib.hid rfl) (Lib.hid rfl) bYn bX).mono ?_; rintro e w5 ⟨rfl, hb5⟩
  have hT5 : Tab w5 := Tab.below (by repeat (first | exact hT4 | apply Tab.alloc)) hb5
  obtain ⟨hc5, hf5⟩ := bcell hb5
  have hs5 : w4.heap.size + 1 ≤ w5.heap.size := by have := hb5.size; first | exact this | (simp at this; omega)
  have hB5 : Below w0.heap.size w0 w5 := (hB4.alloc (by have := hB4.size; first | omega | (simp; done) | (simp; omega)) _).trans (hb5.mono (by have := hB4.size; first | omega | (simp; done) | (simp; omega)))
  have hz2_0_5 : w2.heap.size < w5.heap.size := by omega
  have hz2_1_5 : w2.heap.size + 1 < w5.heap.size := by omega
  have hz3_0_5 : w3.heap.size < w5.heap.size := by omega
  have hz4_0_5 : w4.heap.size < w5.heap.size := by omega
  go_wp2_with fail
  have k0 : (w5.alloc (.cells #[.int .i64 (-Y), .int .i64 X] 29)).cell? ⟨w2.heap.size, 0, none⟩ = some (.int .i64 X) := by rw [World.cell?_alloc_lt w5 _ ⟨w2.heap.size, 0, none⟩ (by first | omega | (simp; omega)), hb5.cell (p := ⟨w2.heap.size, 0, none⟩) (by first | omega | (simp; done) | (simp; omega)), World.cell?_alloc_lt w4 _ ⟨w2.heap.size, 0, none⟩ (by first | omega | (simp; omega)), hb4.cell (p := ⟨w2.heap.size, 0, none⟩) (by first | omega | (simp; done) | (simp; omega)), World.cell?_alloc_lt w3 _ ⟨w2.heap.size, 0, none⟩ (by first | omega | (simp; omega)), hb3.cell (p := ⟨w2.heap.size, 0, none⟩) (by first | omega | (simp; done) | (simp; omega))]; simp
  have k1 : (w5.alloc (.cells #[.int .i64 (-Y), .int .i64 X] 29)).cell? ⟨w2.heap.size, 1, none⟩ = some (.int .i64 Y) := by rw [World.cell?_alloc_lt w5 _ ⟨w2.heap.size, 1, none⟩ (by first | omega | (simp; omega)), hb5.cell (p := ⟨w2.heap.size, 1, none⟩) (by first | omega | (simp; done) | (simp; omega)), World.cell?_alloc_lt w4 _ ⟨w2.heap.size, 1, none⟩ (by first | omega | (simp; omega)), hb4.cell (p := ⟨w2.heap.size, 1, none⟩) (by first | omega | (simp; done) | (simp; omega)), World.cell?_alloc_lt w3 _ ⟨w2.heap.size, 1, none⟩ (by first | omega | (simp; omega)), hb3.cell (p := ⟨w2.heap.size, 1, none⟩) (by first | omega | (simp; done) | (simp; omega))]; simp
  have k2 : (w5.alloc (.cells #[.int .i64 (-Y), .int .i64 X] 29)).cell? ⟨w2.heap.size + 1, 0, none⟩ = some (.int .i64 M) := by rw [World.cell?_alloc_lt w5 _ ⟨w2.heap.size + 1, 0, none⟩ (by first | omega | (simp; omega)), hb5.cell (p := ⟨w2.heap.size + 1, 0, none⟩) (by first | omega | (simp; done) | (simp; omega)), World.cell?_alloc_lt w4 _ ⟨w2.heap.size + 1, 0, none⟩ (by first | omega | (simp; omega)), hb4.cell (p := ⟨w2.heap.size + 1, 0, none⟩) (by first | omega | (simp; done) | (simp; omega)), World.cell?_alloc_lt w3 _ ⟨w2.heap.size + 1, 0, none⟩ (by first | omega | (simp; omega)), hb3.cell (p := ⟨w2.heap.size + 1, 0, none⟩) (by first | omega | (simp; done) | (simp; omega))]; simp
  have k3 : (w5.alloc (.cells #[.int .i64 (-Y), .int .i64 X] 29)).cell? ⟨w2.heap.size + 1, 1, none⟩ = some (.int .i64 K) := by rw [World.cell?_alloc_lt w5 _ ⟨w2.heap.size + 1, 1, none⟩ (by first | omega | (simp; omega)), hb5.cell (p := ⟨w2.heap.size + 1, 1, none⟩) (by first | omega | (simp; done) | (simp; omega)), World.cell?_alloc_lt w4 _ ⟨w2.heap.size + 1, 1, none⟩ (by first | omega | (simp; omega)), hb4.cell (p := ⟨w2.heap.size + 1, 1, none⟩) (by first | omega | (simp; done) | (simp; omega)), World.cell?_alloc_lt w3 _ ⟨w2.heap.size + 1, 1, none⟩ (by first | omega | (simp; omega)), hb3.cell (p := ⟨w2.heap.size + 1, 1, none⟩) (by first | omega | (simp; done) | (simp; omega))]; simp
  have k4 : (w5.alloc (.cells #[.int .i64 (-Y), .int .i64 X] 29)).cell? ⟨w4.heap.size, 0, none⟩ = some (.int .i64 I) := by rw [World.cell?_alloc_lt w5 _ ⟨w4.heap.size, 0, none⟩ (by first | omega | (simp; omega)), hb5.cell (p := ⟨w4.heap.size, 0, none⟩) (by first | omega | (simp; done) | (simp; omega))]; simp
  have k5 : (w5.alloc (.cells #[.int .i64 (-Y), .int .i64 X] 29)).cell? ⟨w4.heap.size, 1, none⟩ = some (.int .i64 J) := by rw [World.cell?_alloc_lt w5 _ ⟨w4.heap.size, 1, none⟩ (by first | omega | (simp; omega)), hb5.cell (p := ⟨w4.heap.size, 1, none⟩) (by first | omega | (simp; done) | (simp; omega))]; simp
  have k6 : (w5.alloc (.cells #[.int .i64 (-Y), .int .i64 X] 29)).cell? ⟨w5.heap.size, 0, none⟩ = some (.int .i64 (-Y)) := by simp
  have k7 : (w5.alloc (.cells #[.int .i64 (-Y), .int .i64 X] 29)).cell? ⟨w5.heap.size, 1, none⟩ = some (.int .i64 X) := by simp
  have kM : More w0 w5 0 0 w3.heap.size (w5.alloc (.cells #[.int .i64 (-Y), .int .i64 X] 29)) := by
    refine ⟨hT5.alloc _, hB5.alloc hB5.size _, by simp, ?_, ?_⟩
    · rw [World.cell?_alloc_lt w5 _ ⟨w3.heap.size, 0, none⟩ (by first | omega | (simp; omega)), hb5.cell (p := ⟨w3.heap.size, 0, none⟩) (by first | omega | (simp; done) | (simp; omega)), World.cell?_alloc_lt w4 _ ⟨w3.heap.size, 0, none⟩ (by first | omega | (simp; omega)), hb4.cell (p := ⟨w3.heap.size, 0, none⟩) (by first | omega | (simp; done) | (simp; omega))]; simp
    · rw [World.cell?_alloc_lt w5 _ ⟨w3.heap.size, 1, none⟩ (by first | omega | (simp; omega)), hb5.cell (p := ⟨w3.heap.size, 1, none⟩) (by first | omega | (simp; done) | (simp; omega)), World.cell?_alloc_lt w4 _ ⟨w3.heap.size, 1, none⟩ (by first | omega | (simp; omega)), hb4.cell (p := ⟨w3.heap.size, 1, none⟩) (by first | omega | (simp; done) | (simp; omega))]; simp
  have z2 : w2.heap.size < (w5.alloc (.cells #[.int .i64 (-Y), .int .i64 X] 29)).heap.size := by simp; omega
  have z3 : w2.heap.size + 1 < (w5.alloc (.cells #[.int .i64 (-Y), .int .i64 X] 29)).heap.size := by simp; omega
  have z4 : w4.heap.size < (w5.alloc (.cells #[.int .i64 (-Y), .int .i64 X] 29)).heap.size := by simp; omega
  have z5 : w5.heap.size < (w5.alloc (.cells #[.int .i64 (-Y), .int .i64 X] 29)).heap.size := by simp
  have z6 : w3.heap.size < (w5.alloc (.cells #[.int .i64 (-Y), .int .i64 X] 29)).heap.size := by simp; omega
  clear hb1 hb2 hb3 hb4 hb5 hc1 hc2 hc3 hc4 hc5 hf1 hf2 hf3 hf4 hf5
  generalize w5.alloc (.cells #[.int .i64 (-Y), .int .i64 X] 29) = w6 at *
  obtain ⟨i1, i2⟩ := sq_bd (x := I) (B := 1000000000) bI'
  obtain ⟨i3, i4⟩ := sq_bd (x := J) (B := 1000000000) bJ'
  obtain ⟨i5, i6⟩ := sq_bd (x := M) (B := 439400000) bi'
  obtain ⟨i7, i8⟩ := sq_bd (x := K) (B := 439400000) bj'
  have g1 : IntKind.i64.wrap (I * I) = I * I := IntWalk.i64_in _ (by omega)
  have g2 : IntKind.i64.wrap (J * J) = J * J := IntWalk.i64_in _ (by omega)
  have g3 : IntKind.i64.wrap (M * M) = M * M := IntWalk.i64_in _ (by omega)
  have g4 : IntKind.i64.wrap (K * K) = K * K := IntWalk.i64_in _ (by omega)
  have g5 : IntKind.i64.wrap (I * I + J * J) = I * I + J * J := IntWalk.i64_in _ (by omega)
  have g6 : IntKind.i64.wrap (M * M + K * K) = M * M + K * K := IntWalk.i64_in _ (by omega)
  have g7 : (I * I + J * J != M * M + K * K) = false := by rw [EL.out]; simp
  go_region_held3 (fun w' => w'.cell? ⟨w2.heap.size, 0, none⟩ = some (.int .i64 X) ∧ w'.cell? ⟨w2.heap.size, 1, none⟩ = some (.int .i64 Y) ∧ w'.cell? ⟨w2.heap.size + 1, 0, none⟩ = some (.int .i64 M) ∧ w'.cell? ⟨w2.heap.size + 1, 1, none⟩ = some (.int .i64 K) ∧ w'.cell? ⟨w4.heap.size, 0, none⟩ = some (.int .i64 I) ∧ w'.cell? ⟨w4.heap.size, 1, none⟩ = some (.int .i64 J) ∧ w'.cell? ⟨w5.heap.size, 0, none⟩ = some (.int .i64 (-Y)) ∧ w'.cell? ⟨w5.heap.size, 1, none⟩ = some (.int .i64 X) ∧ w2.heap.size < w'.heap.size ∧ w2.heap.size + 1 < w'.heap.size ∧ w4.heap.size < w'.heap.size ∧ w5.heap.size < w'.heap.size ∧ w3.heap.size < w'.heap.size ∧ More w0 w5 0 0 w3.heap.size w') (first | (refine ⟨?_, ?_, ?_, ?_, ?_, ?_, ?_, ?_, ?_, ?_, ?_, ?_, ?_, ?_⟩ <;> first | (simp only [World.cell?_drew, World.size_drew]; assumption) | exact More.drew (by assumption)) | (refine ⟨(hb7.cell (p := ⟨w2.heap.size, 0, none⟩) (by assumption)).trans (by assumption), (hb7.cell (p := ⟨w2.heap.size, 1, none⟩) (by assumption)).trans (by assumption), (hb7.cell (p := ⟨w2.heap.size + 1, 0, none⟩) (by assumption)).trans (by assumption), (hb7.cell (p := ⟨w2.heap.size + 1, 1, none⟩) (by assumption)).trans (by assumption), (hb7.cell (p := ⟨w4.heap.size, 0, none⟩) (by assumption)).trans (by assumption), (hb7.cell (p := ⟨w4.heap.size, 1, none⟩) (by assumption)).trans (by assumption), (hb7.cell (p := ⟨w5.heap.size, 0, none⟩) (by assumption)).trans (by assumption), (hb7.cell (p := ⟨w5.heap.size, 1, none⟩) (by assumption)).trans (by assumption), Nat.lt_of_lt_of_le (by assumption) hb7.size, Nat.lt_of_lt_of_le (by assumption) hb7.size, Nat.lt_of_lt_of_le (by assumption) hb7.size, Nat.lt_of_lt_of_le (by assumption) hb7.size, Nat.lt_of_lt_of_le (by assumption) hb7.size, More.below (by first | assumption | exact More.drew (by assumption)) hb7 (by assumption)⟩))
    (first | (go_at_call 25; refine (quarter_any X Y _ (by omega)).mono ?_; rintro e w7 ⟨rfl, hb7⟩))
  have hH : w7.cell? ⟨w2.heap.size, 0, none⟩ = some (.int .i64 X) ∧ w7.cell? ⟨w2.heap.size, 1, none⟩ = some (.int .i64 Y) ∧ w7.cell? ⟨w2.heap.size + 1, 0, none⟩ = some (.int .i64 M) ∧ w7.cell? ⟨w2.heap.size + 1, 1, none⟩ = some (.int .i64 K) ∧ w7.cell? ⟨w4.heap.size, 0, none⟩ = some (.int .i64 I) ∧ w7.cell? ⟨w4.heap.size, 1, none⟩ = some (.int .i64 J) ∧ w7.cell? ⟨w5.heap.size, 0, none⟩ = some (.int .i64 (-Y)) ∧ w7.cell? ⟨w5.heap.size, 1, none⟩ = some (.int .i64 X) ∧ w2.heap.size < w7.heap.size ∧ w2.heap.size + 1 < w7.heap.size ∧ w4.heap.size < w7.heap.size ∧ w5.heap.size < w7.heap.size ∧ w3.heap.size < w7.heap.size ∧ More w0 w5 0 0 w3.heap.size w7 := by assumption
  obtain ⟨l0, l1, _, _, _, _, _, _, y2, y2b, _, _, y3, hT7, hB7, _, la, lb⟩ := hH
  clear k0 k1 k2 k3 k4 k5 k6 k7 kM g1 g2 g3 g4 g5 g6 g7 i1 i2 i3 i4 i5 i6 i7 i8 z2 z3 z4 z5 z6 hb7 ei ej
  go_wp2_with fail
  go_ret
  exact ⟨rfl, hB7⟩

theorem rot_bd {x y c s u M : Int} (hM : 0 ≤ M) (hx : -M ≤ x ∧ x ≤ M) (hy : -M ≤ y ∧ y ≤ M) (hc : -65 ≤ c ∧ c ≤ 65) (hs : -65 ≤ s ∧ s ≤ 65) (h : x * c + y * s = 65 * u) : -(2 * M) ≤ u ∧ u ≤ 2 * M := by
  have p1 := mul_bd hx hc
  have p2 := mul_bd hy hs
  omega

theorem walk (a0 : Int) (v0 : (Lit.int .i32 a0).wf = true) (a1 : Int) (v1 : (Lit.int .i32 a1).wf = true) (q : Int) (v2 : (Lit.int .i64 q).wf = true) (w0 : World) (hT0 : Tab w0) :
    Calls Tryd.prog 9 #[.int .i32 a0, .int .i32 a1, .int .i64 q] w0 fun e w' => e = .returned (.bool true) ∧ Below w0.heap.size w0 w' := by
  have rx := wf32 v0
  have ry := wf32 v1
  have hq := wf64 v2
  have bX := tmod_pt a0
  have bY := tmod_pt a1
  obtain ⟨X, EX⟩ : ∃ X : Int, a0.tmod 439400001 = X := ⟨_, rfl⟩
  obtain ⟨Y, EY⟩ : ∃ Y : Int, a1.tmod 439400001 = Y := ⟨_, rfl⟩
  rw [EX] at bX
  rw [EY] at bY
  obtain ⟨i, Ei⟩ : ∃ i : Int, X - X.tmod 65 = 65 * i := ⟨X.tdiv 65, by have := Int.mul_tdiv_add_tmod X 65; omega⟩
  obtain ⟨j, Ej⟩ : ∃ j : Int, Y - Y.tmod 65 = 65 * j := ⟨Y.tdiv 65, by have := Int.mul_tdiv_add_tmod Y 65; omega⟩
  have tX : -439400000 ≤ 65 * i ∧ 65 * i ≤ 439400000 := by
    have := Int.tmod_eq_emod (a := X) (b := 65)
    split at this <;> omega
  have tY : -439400000 ≤ 65 * j ∧ 65 * j ≤ 439400000 := by
    have := Int.tmod_eq_emod (a := Y) (b := 65)
    split at this <;> omega
  obtain ⟨hc, hs⟩ := csF_bd (q % 36).toNat
  have l1 := len65 (q % 36).toNat (by omega)
  obtain ⟨⟨o1, o2⟩, i1, _, _, _⟩ := inv_facts (q % 36).toNat (by omega)
  rw [show (((q % 36).toNat : Nat) : Int) = q % 36 by omega] at o1 o2 i1
  obtain ⟨c, s, Ec⟩ : ∃ c s : Int, csF (q % 36).toNat = (c, s) := ⟨_, _, rfl⟩
  rw [Ec] at hc hs l1 i1
  simp only at hc hs l1 i1
  have E9a : Hid (X * (csF ((9 : Int) % 36).toNat).1 - Y * (csF ((9 : Int) % 36).toNat).2 = 65 * -Y) := Lib.hid (by rw [show (csF ((9 : Int) % 36).toNat) = (0, 65) by decide]; simp only; omega)
  have E9b : Hid (X * (csF ((9 : Int) % 36).toNat).2 + Y * (csF ((9 : Int) % 36).toNat).1 = 65 * X) := Lib.hid (by rw [show (csF ((9 : Int) % 36).toNat) = (0, 65) by decide]; simp only; omega)
  have EI : Hid (65 * i * (csF (q % 36).toNat).1 - 65 * j * (csF (q % 36).toNat).2 = 65 * (i * c - j * s)) := Lib.hid (by rw [Ec]; grind)
  have EJ : Hid (65 * i * (csF (q % 36).toNat).2 + 65 * j * (csF (q % 36).toNat).1 = 65 * (i * s + j * c)) := Lib.hid (by rw [Ec]; grind)
  have bI : -878800000 ≤ i * c - j * s ∧ i * c - j * s ≤ 878800000 := by
    have := rot_bd (x := 65 * i) (y := -(65 * j)) (c := c) (s := s) (u := i * c - j * s) (M := 439400000) (by omega) tX (by omega) hc hs (by grind)
    omega
  have bJ : -878800000 ≤ i * s + j * c ∧ i * s + j * c ≤ 878800000 := by
    have := rot_bd (x := 65 * i) (y := 65 * j) (c := s) (s := c) (u := i * s + j * c) (M := 439400000) (by omega) tX tY hs hc (by grind)
    omega
  have EL : (i * c - j * s) * (i * c - j * s) + (i * s + j * c) * (i * s + j * c) = 65 * i * (65 * i) + 65 * j * (65 * j) := by
    have : (i * c - j * s) * (i * c - j * s) + (i * s + j * c) * (i * s + j * c) = (i * i + j * j) * (c * c + s * s) := by grind
    rw [this, l1]; grind
  by_cases hd : (X * c - Y * s) % 65 = 0 ∧ (X * s + Y * c) % 65 = 0
  · obtain ⟨A, EA⟩ : ∃ A : Int, X * c - Y * s = 65 * A := ⟨(X * c - Y * s) / 65, by omega⟩
    obtain ⟨B, EB⟩ : ∃ B : Int, X * s + Y * c = 65 * B := ⟨(X * s + Y * c) / 65, by omega⟩
    have bA : -878800000 ≤ A ∧ A ≤ 878800000 := by
      have := rot_bd (x := X) (y := -Y) (c := c) (s := s) (u := A) (M := 439400000) (by omega) bX (by omega) hc hs (by rw [← EA]; grind)
      omega
    have bB : -878800000 ≤ B ∧ B ≤ 878800000 := by
      have := rot_bd (x := X) (y := Y) (c := s) (s := c) (u := B) (M := 439400000) (by omega) bX bY hs hc EB
      omega
    have k1 : 65 * (A * c + B * s) = 65 * (65 * X) := by
      have : 65 * (A * c + B * s) = (X * c - Y * s) * c + (X * s + Y * c) * s := by rw [EA, EB]; grind
      rw [this, show (X * c - Y * s) * c + (X * s + Y * c) * s = X * (c * c + s * s) by grind, l1]; omega
    have k2 : 65 * (B * c - A * s) = 65 * (65 * Y) := by
      have : 65 * (B * c - A * s) = (X * s + Y * c) * c - (X * c - Y * s) * s := by rw [EA, EB]; grind
      rw [this, show (X * s + Y * c) * c - (X * c - Y * s) * s = Y * (c * c + s * s) by grind, l1]; omega
    have EK : A * A + B * B = X * X + Y * Y := by
      have e : (65 * A) * (65 * A) + (65 * B) * (65 * B) = (X * X + Y * Y) * (c * c + s * s) := by rw [← EA, ← EB]; grind
      rw [l1] at e
      have : 4225 * (A * A + B * B) = 4225 * (X * X + Y * Y) := by
        have e2 : (65 * A) * (65 * A) + (65 * B) * (65 * B) = 4225 * (A * A + B * B) := by grind
        rw [← e2, e]; grind
      omega
    exact walk_yes a0 rx a1 ry q hq w0 hT0 X Y (65 * i) (65 * j) (i * c - j * s) (i * s + j * c) _ _ A B (Lib.hid EX) (Lib.hid EY) (by omega) (by omega) (by omega) bX bY (Lib.hid Ei) (Lib.hid Ej) (by omega) (by omega) (by omega) (by omega) tX tY (by omega) (by omega)
      (Lib.hid rfl) (Lib.hid rfl) (Lib.hid (by rw [Ec]; exact EA)) (Lib.hid (by rw [Ec]; exact EB)) (by omega) (by omega) EI EJ E9a E9b (Lib.hid EL)
      _ (Lib.hid rfl) ⟨o1, o2⟩ (Lib.hid (by rw [i1]; simp only; have : A * c - B * -s = A * c + B * s := by grind
                                            omega)) (Lib.hid (by rw [i1]; simp only; have : A * -s + B * c = B * c - A * s := by grind
                                                                 omega)) (Lib.hid EK)
  · exact walk_no a0 rx a1 ry q hq w0 hT0 X Y (65 * i) (65 * j) (i * c - j * s) (i * s + j * c) _ _ (Lib.hid EX) (Lib.hid EY) (by omega) (by omega) (by omega) bX bY (Lib.hid Ei) (Lib.hid Ej) (by omega) (by omega) (by omega) (by omega) tX tY (by omega) (by omega)
      (Lib.hid rfl) (Lib.hid rfl) (by rw [Ec]; exact hd) EI EJ E9a E9b (Lib.hid EL)

set_option maxRecDepth 100000 in
theorem lifted (os : Os) (started : os.Started) (H : Type) (enc : TypeId × Value → H) :
    ReturnsInHanded {} Tryd.checked os 9 .any (fun w args => (Rows.rotationPreservesLengthSpec.pre enc Tryd.prog Tryd.f9 [] false w args ∧ laidMetH Tryd.prog Rows.rotationPreservesLengthRow.laid w) ∧ sizedMet enc Tryd.prog Tryd.f9 (OpenSpec.ofChange Rows.rotationPreservesLengthSpec) false w args)
      (Rows.rotationPreservesLengthSpec.post enc Tryd.prog Tryd.f9 false true false false) := by
  refine returnsInHanded_of_change_and (C := Tryd.checked) (X := fun w _ => laidMetH Tryd.prog Rows.rotationPreservesLengthRow.laid w) (fun _ _ _ hh h => h.of_heap hh) own started (by kernel_rfl) Tryd.func9
    (ChangeSpec.witness_shaped (enc := enc) (C := Tryd.checked) (os := os) (X := fun w _ => laidMetH Tryd.prog Rows.rotationPreservesLengthRow.laid w) false (World.doorLaid Tryd.prog 600 os) #[.int .i32 0, .int .i32 0, .int .i64 0] 8 rfl (World.shaped_of_RefB (by kernel_rfl) (by kernel_rfl)) (by kernel_rfl) (by kernel_rfl) (by kernel_rfl) (show laidMetH Tryd.prog [(qn, Rows.laid_ambidexter_rotation_quadrant)] _ from door_met os _)) ?_
  intro W base args ds gs before hval0 hW _ _ hL _
  have hval : ∀ (j : Nat) t v, Tryd.f9.params[j]? = some t → args[j]? = some v → Value.okWide Tryd.prog W .any base t v := hval0
  have hW' := hW
  obtain ⟨p, q, hA0, hV, rfl, hfz, hnd⟩ := hW
  have hA : DataW.TrodAll enc Tryd.prog W 0 (fun _ => true) true Tryd.f9.params.toList args.toList ds p := hA0
  rw [Tryd.params9] at hA hval
  obtain ⟨v0, vs0, d0, ds0, p0, q0, hargs, rfl, rfl, h0, r0⟩ := trodAll_cons hA
  obtain ⟨v1, vs1, d1, ds1, p1, q1, rfl, rfl, rfl, h1, r1⟩ := trodAll_cons r0
  obtain ⟨v2, vs2, d2, ds2, p2, q2, rfl, rfl, rfl, h2, r2⟩ := trodAll_cons r1
  obtain ⟨rfl, rfl, rfl⟩ := trodAll_nil r2
  obtain rfl : args = #[v0, v1, v2] := by cases args; simp_all
  obtain ⟨rfl, rfl⟩ := trodVars_none hV
  obtain ⟨a0, rfl, rfl, rfl, w0⟩ := open_int Tryd.underlying21 (hval 0 21 v0 rfl rfl) h0
  obtain ⟨a1, rfl, rfl, rfl, w1⟩ := open_int Tryd.underlying21 (hval 1 21 v1 rfl rfl) h1
  obtain ⟨a2, rfl, rfl, rfl, w2⟩ := open_int Tryd.underlying3 (hval 2 3 v2 rfl rfl) h2
  clear hA0 hval0
  simp only [List.append_nil] at hW'
  refine (walk a0 w0 a1 w1 a2 w2 W (tab_of_laid hL)).mono fun e W' ⟨he, hg⟩ => ?_
  subst he
  exact ⟨_, rfl, _, _, _, [], _, [], hW', trodAll_mk1 (shut_bool Tryd.underlying4 _), (trodAll_cons_mk (shut_int Tryd.underlying21 w0) (trodAll_cons_mk (shut_int Tryd.underlying21 w1) (trodAll_cons_mk (shut_int Tryd.underlying3 w2) trodAll_mk0))), rfl, hg.frame _, fun h => by cases h⟩

theorem holds : Rows.RotationPreservesLengthSaid :=
  OpenClaim.holds_of_wide 9 Tryd.f9 rfl rfl rfl rfl rfl rfl rfl ⟨rfl, rfl, rfl, rfl, rfl⟩ rfl rfl rfl rfl rfl (by kernel_rfl) Tryd.func9 (by kernel_rfl)
    (of_decide_eq_true (by kernel_rfl)) (by unfold Func.isWrapper; first | (rw [if_pos (by decide +kernel)]; kernel_rfl) | (rw [if_neg (by decide +kernel)]; exact ⟨rfl, rfl⟩))
    (fun os started H enc _ => lifted os started H enc)

/-- THE STATEMENT: the tied card. -/
theorem card_holds : Rows.RotationPreservesLengthCardSaid :=
  Claim7.holds_tied_plain_at .later [] [.data] true Rows.rotationPreservesLengthCard.stood.harness false
    holds (fun _ h => by cases h) (by kernel_rfl) (fun _ h => by cases h) rotationPreservesLength_row_tie rfl ⟨rfl, rfl⟩ (by kernel_rfl) rfl
    (fun f fn hf hfn => by
      obtain rfl : f = 9 := Option.some.inj ((show Tryd.prog.funcNamed Rows.rotationPreservesLengthRow.func = some 9 by kernel_rfl).symm.trans hf) |>.symm
      obtain rfl : fn = Tryd.f9 := (Option.some.inj (Tryd.func9.symm.trans hfn)).symm
      exact ⟨by kernel_rfl, fun j t ht => by
        rw [Tryd.params9] at ht
        have hm : t ∈ [21, 3] := by have := Array.mem_of_getElem? ht; simp only [List.mem_toArray, List.mem_cons, List.not_mem_nil, or_false] at this ⊢; grind
        have hall : ([21, 3].all fun u => !Tryd.prog.wantsStandIn u) = true := by kernel_rfl
        exact (show Tryd.prog.wantsStandIn t = false by simpa using List.all_eq_true.1 hall t hm)⟩)
    (by kernel_rfl)
#print axioms card_holds
end Go.Proofs.YtedhbcjlcgkocaaDoor.rotationPreservesLength
