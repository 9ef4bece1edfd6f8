/- Proved: three compositions may be done in any order; a fourth is refused (the law RotationCommutes returns true).
Conditions: none on the arguments: for all three ints. The table of package rotation lies as the program text lays it (the card ties it). -/
import Derived.Test.YtedhbcjlcgkocaaDoorDirs
import Derived.Test.YtedhbcjlcgkocaaDoorTie
import Derived.Test.YtedhbcjlcgkocaaDoorCards
import Derived.SevenTiedAt
namespace Go.Proofs.YtedhbcjlcgkocaaDoor.rotationCommutes
open Go.ChangeShapes Go.WideShapes Go.ChangeAt Go.RowKit
set_option linter.unusedVariables false

theorem valid_is (X Y N : Int) (v : Bool) (w : World) (h : Hid (vdB X Y N = v)) :
    Calls Tryd.prog 19 #[.agg #[.int .i64 X, .int .i64 Y, .int .i64 N]] w fun e w' => e = .returned (.bool v) ∧ Below w.heap.size w w' := by
  have := valid_any X Y N w
  rw [h.out] at this
  exact this

set_option maxRecDepth 100000 in
set_option maxHeartbeats 2000000 in
theorem walk (p : Int) (vp : (Lit.int .i64 p).wf = true) (q : Int) (vq : (Lit.int .i64 q).wf = true) (r : Int) (vr : (Lit.int .i64 r).wf = true) (w0 : World) (hT0 : Tab w0) :
    Calls Tryd.prog 7 #[.int .i64 p, .int .i64 q, .int .i64 r] w0 fun e w' => e = .returned (.bool true) ∧ Below w0.heap.size w0 w' := by
  have hp := wf64 vp
  have lp := len65 (p % 36).toNat (by omega)
  obtain ⟨a, b, Ep⟩ : ∃ a b : Int, Hid (csF (p % 36).toNat = (a, b)) := ⟨_, _, Lib.hid rfl⟩
  rw [Ep.out] at lp
  simp only at lp
  have Ep1 : Hid (Hid ((1 : Int) * (csF (p % 36).toNat).1 - 0 * (csF (p % 36).toNat).2 = a) ∧ Hid ((1 : Int) * (csF (p % 36).toNat).2 + 0 * (csF (p % 36).toNat).1 = b)) := Lib.hid ⟨Lib.hid (by rw [Ep.out]; simp), Lib.hid (by rw [Ep.out]; simp)⟩
  have Sp : Hid (vdB a b 1 = true) := Lib.hid (vd_of a b 1 (by decide) (by decide) (by rw [lp]; rfl))
  have hq := wf64 vq
  have lq := len65 (q % 36).toNat (by omega)
  obtain ⟨c, d, Eq⟩ : ∃ c d : Int, Hid (csF (q % 36).toNat = (c, d)) := ⟨_, _, Lib.hid rfl⟩
  rw [Eq.out] at lq
  simp only at lq
  have Eq1 : Hid (Hid ((1 : Int) * (csF (q % 36).toNat).1 - 0 * (csF (q % 36).toNat).2 = c) ∧ Hid ((1 : Int) * (csF (q % 36).toNat).2 + 0 * (csF (q % 36).toNat).1 = d)) := Lib.hid ⟨Lib.hid (by rw [Eq.out]; simp), Lib.hid (by rw [Eq.out]; simp)⟩
  have Sq : Hid (vdB c d 1 = true) := Lib.hid (vd_of c d 1 (by decide) (by decide) (by rw [lq]; rfl))
  have hr := wf64 vr
  have lr := len65 (r % 36).toNat (by omega)
  obtain ⟨e, f, Er⟩ : ∃ e f : Int, Hid (csF (r % 36).toNat = (e, f)) := ⟨_, _, Lib.hid rfl⟩
  rw [Er.out] at lr
  simp only at lr
  have Er1 : Hid (Hid ((1 : Int) * (csF (r % 36).toNat).1 - 0 * (csF (r % 36).toNat).2 = e) ∧ Hid ((1 : Int) * (csF (r % 36).toNat).2 + 0 * (csF (r % 36).toNat).1 = f)) := Lib.hid ⟨Lib.hid (by rw [Er.out]; simp), Lib.hid (by rw [Er.out]; simp)⟩
  have Sr : Hid (vdB e f 1 = true) := Lib.hid (vd_of e f 1 (by decide) (by decide) (by rw [lr]; rfl))
  obtain ⟨Ux, Vx, Ex, Sx, eux, evx⟩ : ∃ U V : Int, Hid (Hid (a * (csF (q % 36).toNat).1 - b * (csF (q % 36).toNat).2 = U) ∧ Hid (a * (csF (q % 36).toNat).2 + b * (csF (q % 36).toNat).1 = V)) ∧ Hid (vdB U V 2 = true) ∧ Hid (a * c - b * d = U) ∧ Hid (a * d + b * c = V) :=
    ⟨a * c - b * d, a * d + b * c, Lib.hid ⟨Lib.hid (by rw [Eq.out]), Lib.hid (by rw [Eq.out])⟩, Lib.hid (vd_step a b 1 c d Sp.out (by decide) lq), Lib.hid rfl, Lib.hid rfl⟩
  obtain ⟨A, B, SA, ea, eb⟩ : ∃ A B : Int, Hid (vdB A B 3 = true) ∧ Hid (Ux * e - Vx * f = A) ∧ Hid (Ux * f + Vx * e = B) := ⟨_, _, Lib.hid (vd_step Ux Vx 2 e f Sx.out (by decide) lr), Lib.hid rfl, Lib.hid rfl⟩
  have Fx : Hid (Hid (Ux * (csF (r % 36).toNat).1 - Vx * (csF (r % 36).toNat).2 = A) ∧ Hid (Ux * (csF (r % 36).toNat).2 + Vx * (csF (r % 36).toNat).1 = B)) := by
    have xa := ea.out
    have xb := eb.out
    rw [← eux.out, ← evx.out] at xa xb
    rw [Er.out, ← eux.out, ← evx.out]
    exact Lib.hid ⟨Lib.hid (by simp only; rw [← xa]; try grind), Lib.hid (by simp only; rw [← xb]; try grind)⟩
  obtain ⟨Uy, Vy, Ey, Sy, euy, evy⟩ : ∃ U V : Int, Hid (Hid (e * (csF (p % 36).toNat).1 - f * (csF (p % 36).toNat).2 = U) ∧ Hid (e * (csF (p % 36).toNat).2 + f * (csF (p % 36).toNat).1 = V)) ∧ Hid (vdB U V 2 = true) ∧ Hid (e * a - f * b = U) ∧ Hid (e * b + f * a = V) :=
    ⟨e * a - f * b, e * b + f * a, Lib.hid ⟨Lib.hid (by rw [Ep.out]), Lib.hid (by rw [Ep.out])⟩, Lib.hid (vd_step e f 1 a b Sr.out (by decide) lp), Lib.hid rfl, Lib.hid rfl⟩
  have Fy : Hid (Hid (Uy * (csF (q % 36).toNat).1 - Vy * (csF (q % 36).toNat).2 = A) ∧ Hid (Uy * (csF (q % 36).toNat).2 + Vy * (csF (q % 36).toNat).1 = B)) := by
    have xa := ea.out
    have xb := eb.out
    rw [← eux.out, ← evx.out] at xa xb
    rw [Eq.out, ← euy.out, ← evy.out]
    exact Lib.hid ⟨Lib.hid (by simp only; rw [← xa]; try grind), Lib.hid (by simp only; rw [← xb]; try grind)⟩
  obtain ⟨Uz, Vz, Ez, Sz, euz, evz⟩ : ∃ U V : Int, Hid (Hid (c * (csF (r % 36).toNat).1 - d * (csF (r % 36).toNat).2 = U) ∧ Hid (c * (csF (r % 36).toNat).2 + d * (csF (r % 36).toNat).1 = V)) ∧ Hid (vdB U V 2 = true) ∧ Hid (c * e - d * f = U) ∧ Hid (c * f + d * e = V) :=
    ⟨c * e - d * f, c * f + d * e, Lib.hid ⟨Lib.hid (by rw [Er.out]), Lib.hid (by rw [Er.out])⟩, Lib.hid (vd_step c d 1 e f Sq.out (by decide) lr), Lib.hid rfl, Lib.hid rfl⟩
  have Fz : Hid (Hid (Uz * (csF (p % 36).toNat).1 - Vz * (csF (p % 36).toNat).2 = A) ∧ Hid (Uz * (csF (p % 36).toNat).2 + Vz * (csF (p % 36).toNat).1 = B)) := by
    have xa := ea.out
    have xb := eb.out
    rw [← eux.out, ← evx.out] at xa xb
    rw [Ep.out, ← euz.out, ← evz.out]
    exact Lib.hid ⟨Lib.hid (by simp only; rw [← xa]; try grind), Lib.hid (by simp only; rw [← xb]; try grind)⟩
  clear lp lq lr
  have hB0 : Below w0.heap.size w0 w0 := Below.refl _ _
  go_enter Tryd.func7, Tryd.ntmps7
  go_wp2_with fail
  refine (head_any _ (by repeat (first | exact hT0 | apply Tab.alloc))).mono ?_; rintro e w1 ⟨rfl, hb1⟩
  have hT1 : Tab w1 := Tab.below (by repeat (first | exact hT0 | apply Tab.alloc)) hb1
  obtain ⟨hc1, hf1⟩ := bcell hb1
  have hs1 : w0.heap.size + 0 ≤ w1.heap.size := by have := hb1.size; first | exact this | (simp at this; omega)
  have hB1 : Below w0.heap.size w0 w1 := hB0.trans (hb1.mono (by have := hB0.size; first | omega | (simp; done) | (simp; omega)))
  go_wp2_with fail
  refine (compose_is 1 0 0 _ a b _ (by repeat (first | exact hT1 | apply Tab.alloc)) (by decide) (by decide) hp Ep1.out.1 Ep1.out.2).mono ?_; rintro e w2 ⟨rfl, hb2⟩
  have hT2 : Tab w2 := Tab.below (by repeat (first | exact hT1 | apply Tab.alloc)) hb2
  obtain ⟨hc2, hf2⟩ := bcell hb2
  have hs2 : w1.heap.size + 0 ≤ w2.heap.size := by have := hb2.size; first | exact this | (simp at this; omega)
  have hB2 : Below w0.heap.size w0 w2 := hB1.trans (hb2.mono (by have := hB1.size; first | omega | (simp; done) | (simp; omega)))
  go_wp2_with fail
  refine (compose_is a b 1 _ Ux Vx _ (by repeat (first | exact hT2 | apply Tab.alloc)) Sp.out (by decide) hq Ex.out.1 Ex.out.2).mono ?_; rintro e w3 ⟨rfl, hb3⟩
  have hT3 : Tab w3 := Tab.below (by repeat (first | exact hT2 | apply Tab.alloc)) hb3
  obtain ⟨hc3, hf3⟩ := bcell hb3
  have hs3 : w2.heap.size + 0 ≤ w3.heap.size := by have := hb3.size; first | exact this | (simp at this; omega)
  have hB3 : Below w0.heap.size w0 w3 := hB2.trans (hb3.mono (by have := hB2.size; first | omega | (simp; done) | (simp; omega)))
  go_wp2_with fail
  refine (compose_is Ux Vx 2 _ A B _ (by repeat (first | exact hT3 | apply Tab.alloc)) Sx.out (by decide) hr Fx.out.1 Fx.out.2).mono ?_; rintro e w4 ⟨rfl, hb4⟩
  have hT4 : Tab w4 := Tab.below (by repeat (first | exact hT3 | apply Tab.alloc)) hb4
  obtain ⟨hc4, hf4⟩ := bcell hb4
  have hs4 : w3.heap.size + 0 ≤ w4.heap.size := by have := hb4.size; first | exact this | (simp at this; omega)
  have hB4 : Below w0.heap.size w0 w4 := hB3.trans (hb4.mono (by have := hB3.size; first | omega | (simp; done) | (simp; omega)))
  go_wp2_with fail
  refine (compose_is 1 0 0 _ e f _ (by repeat (first | exact hT4 | apply Tab.alloc)) (by decide) (by decide) hr Er1.out.1 Er1.out.2).mono ?_; rintro e w5 ⟨rfl, hb5⟩
  have hT5 : Tab w5 := Tab.below (by repeat (first | exact hT4 | apply Tab.alloc)) hb5
  obtain ⟨hc5, hf5⟩ := bcell hb5
  have hs5 : w4.heap.size + 1 ≤ w5.heap.size := by have := hb5.size; first | exact this | (simp at this; omega)
  have hB5 : Below w0.heap.size w0 w5 := (hB4.alloc (by have := hB4.size; first | omega | (simp; done) | (simp; omega)) _).trans (hb5.mono (by have := hB4.size; first | omega | (simp; done) | (simp; omega)))
  have hz4_0_5 : w4.heap.size < w5.heap.size := by omega
  go_wp2_with fail
  refine (compose_is e f 1 _ Uy Vy _ (by repeat (first | exact hT5 | apply Tab.alloc)) Sr.out (by decide) hp Ey.out.1 Ey.out.2).mono ?_; rintro e w6 ⟨rfl, hb6⟩
  have hT6 : Tab w6 := Tab.below (by repeat (first | exact hT5 | apply Tab.alloc)) hb6
  obtain ⟨hc6, hf6⟩ := bcell hb6
  have hs6 : w5.heap.size + 0 ≤ w6.heap.size := by have := hb6.size; first | exact this | (simp at this; omega)
  have hB6 : Below w0.heap.size w0 w6 := hB5.trans (hb6.mono (by have := hB5.size; first | omega | (simp; done) | (simp; omega)))
  have hz4_0_6 : w4.heap.size < w6.heap.size := by omega
  go_wp2_with fail
  refine (compose_is Uy Vy 2 _ A B _ (by repeat (first | exact hT6 | apply Tab.alloc)) Sy.out (by decide) hq Fy.out.1 Fy.out.2).mono ?_; rintro e w7 ⟨rfl, hb7⟩
  have hT7 : Tab w7 := Tab.below (by repeat (first | exact hT6 | apply Tab.alloc)) hb7
  obtain ⟨hc7, hf7⟩ := bcell hb7
  have hs7 : w6.heap.size + 0 ≤ w7.heap.size := by have := hb7.size; first | exact this | (simp at this; omega)
  have hB7 : Below w0.heap.size w0 w7 := hB6.trans (hb7.mono (by have := hB6.size; first | omega | (simp; done) | (simp; omega)))
  have hz4_0_7 : w4.heap.size < w7.heap.size := by omega
  go_wp2_with fail
  refine (compose_is 1 0 0 _ c d _ (by repeat (first | exact hT7 | apply Tab.alloc)) (by decide) (by decide) hq Eq1.out.1 Eq1.out.2).mono ?_; rintro e w8 ⟨rfl, hb8⟩
  have hT8 : Tab w8 := Tab.below (by repeat (first | exact hT7 | apply Tab.alloc)) hb8
  obtain ⟨hc8, hf8⟩ := bcell hb8
  have hs8 : w7.heap.size + 1 ≤ w8.heap.size := by have := hb8.size; first | exact this | (simp at this; omega)
  have hB8 : Below w0.heap.size w0 w8 := (hB7.alloc (by have := hB7.size; first | omega | (simp; done) | (simp; omega)) _).trans (hb8.mono (by have := hB7.size; first | omega | (simp; done) | (simp; omega)))
  have hz4_0_8 : w4.heap.size < w8.heap.size := by omega
  have hz7_0_8 : w7.heap.size < w8.heap.size := by omega
  go_wp2_with fail
  refine (compose_is c d 1 _ Uz Vz _ (by repeat (first | exact hT8 | apply Tab.alloc)) Sq.out (by decide) hr Ez.out.1 Ez.out.2).mono ?_; rintro e w9 ⟨rfl, hb9⟩
  have hT9 : Tab w9 := Tab.below (by repeat (first | exact hT8 | apply Tab.alloc)) hb9
  obtain ⟨hc9, hf9⟩ := bcell hb9
  have hs9 : w8.heap.size + 0 ≤ w9.heap.size := by have := hb9.size; first | exact this | (simp at this; omega)
  have hB9 : Below w0.heap.size w0 w9 := hB8.trans (hb9.mono (by have := hB8.size; first | omega | (simp; done) | (simp; omega)))
  have hz4_0_9 : w4.heap.size < w9.heap.size := by omega
  have hz7_0_9 : w7.heap.size < w9.heap.size := by omega
  go_wp2_with fail
  refine (compose_is Uz Vz 2 _ A B _ (by repeat (first | exact hT9 | apply Tab.alloc)) Sz.out (by decide) hp Fz.out.1 Fz.out.2).mono ?_; rintro e w10 ⟨rfl, hb10⟩
  have hT10 : Tab w10 := Tab.below (by repeat (first | exact hT9 | apply Tab.alloc)) hb10
  obtain ⟨hc10, hf10⟩ := bcell hb10
  have hs10 : w9.heap.size + 0 ≤ w10.heap.size := by have := hb10.size; first | exact this | (simp at this; omega)
  have hB10 : Below w0.heap.size w0 w10 := hB9.trans (hb10.mono (by have := hB9.size; first | omega | (simp; done) | (simp; omega)))
  have hz4_0_10 : w4.heap.size < w10.heap.size := by omega
  have hz7_0_10 : w7.heap.size < w10.heap.size := by omega
  go_wp2_with fail
  refine (valid_is A B 3 true _ SA).mono ?_; rintro e w11 ⟨rfl, hb11⟩
  have hT11 : Tab w11 := Tab.below (by repeat (first | exact hT10 | apply Tab.alloc)) hb11
  obtain ⟨hc11, hf11⟩ := bcell hb11
  have hs11 : w10.heap.size + 1 ≤ w11.heap.size := by have := hb11.size; first | exact this | (simp at this; omega)
  have hB11 : Below w0.heap.size w0 w11 := (hB10.alloc (by have := hB10.size; first | omega | (simp; done) | (simp; omega)) _).trans (hb11.mono (by have := hB10.size; first | omega | (simp; done) | (simp; omega)))
  have hz4_0_11 : w4.heap.size < w11.heap.size := by omega
  have hz7_0_11 : w7.heap.size < w11.heap.size := by omega
  have hz10_0_11 : w10.heap.size < w11.heap.size := by omega
  go_wp2_with fail
  refine (compose_end A B _ _ SA.out).mono ?_; rintro e w12 ⟨rfl, hb12⟩
  have hT12 : Tab w12 := Tab.below (by repeat (first | exact hT11 | apply Tab.alloc)) hb12
  obtain ⟨hc12, hf12⟩ := bcell hb12
  have hs12 : w11.heap.size + 0 ≤ w12.heap.size := by have := hb12.size; first | exact this | (simp at this; omega)
  have hB12 : Below w0.heap.size w0 w12 := hB11.trans (hb12.mono (by have := hB11.size; first | omega | (simp; done) | (simp; omega)))
  have hz4_0_12 : w4.heap.size < w12.heap.size := by omega
  have hz7_0_12 : w7.heap.size < w12.heap.size := by omega
  have hz10_0_12 : w10.heap.size < w12.heap.size := by omega
  go_wp2_with fail
  refine (compose_end A B _ _ SA.out).mono ?_; rintro e w13 ⟨rfl, hb13⟩
  have hT13 : Tab w13 := Tab.below (by repeat (first | exact hT12 | apply Tab.alloc)) hb13
  obtain ⟨hc13, hf13⟩ := bcell hb13
  have hs13 : w12.heap.size + 0 ≤ w13.heap.size := by have := hb13.size; first | exact this | (simp at this; omega)
  have hB13 : Below w0.heap.size w0 w13 := hB12.trans (hb13.mono (by have := hB12.size; first | omega | (simp; done) | (simp; omega)))
  have hz4_0_13 : w4.heap.size < w13.heap.size := by omega
  have hz7_0_13 : w7.heap.size < w13.heap.size := by omega
  have hz10_0_13 : w10.heap.size < w13.heap.size := by omega
  go_wp2_with fail
  refine (valid_is 0 0 0 false _ (Lib.hid (by decide))).mono ?_; rintro e w14 ⟨rfl, hb14⟩
  have hT14 : Tab w14 := Tab.below (by repeat (first | exact hT13 | apply Tab.alloc)) hb14
  obtain ⟨hc14, hf14⟩ := bcell hb14
  have hs14 : w13.heap.size + 0 ≤ w14.heap.size := by have := hb14.size; first | exact this | (simp at this; omega)
  have hB14 : Below w0.heap.size w0 w14 := hB13.trans (hb14.mono (by have := hB13.size; first | omega | (simp; done) | (simp; omega)))
  have hz4_0_14 : w4.heap.size < w14.heap.size := by omega
  have hz7_0_14 : w7.heap.size < w14.heap.size := by omega
  have hz10_0_14 : w10.heap.size < w14.heap.size := by omega
  go_wp2_with fail
  go_ret
  exact ⟨rfl, hB14⟩

set_option maxRecDepth 100000 in
theorem lifted (os : Os) (started : os.Started) (H : Type) (enc : TypeId × Value → H) :
    ReturnsInHanded {} Tryd.checked os 7 .any (fun w args => (Rows.rotationCommutesSpec.pre enc Tryd.prog Tryd.f7 [] false w args ∧ laidMetH Tryd.prog Rows.rotationCommutesRow.laid w) ∧ sizedMet enc Tryd.prog Tryd.f7 (OpenSpec.ofChange Rows.rotationCommutesSpec) false w args)
      (Rows.rotationCommutesSpec.post enc Tryd.prog Tryd.f7 false true false false) := by
  refine returnsInHanded_of_change_and (C := Tryd.checked) (X := fun w _ => laidMetH Tryd.prog Rows.rotationCommutesRow.laid w) (fun _ _ _ hh h => h.of_heap hh) own started (by kernel_rfl) Tryd.func7
    (ChangeSpec.witness_shaped (enc := enc) (C := Tryd.checked) (os := os) (X := fun w _ => laidMetH Tryd.prog Rows.rotationCommutesRow.laid w) false (World.doorLaid Tryd.prog 600 os) #[.int .i64 0, .int .i64 0, .int .i64 0] 8 rfl (World.shaped_of_RefB (by kernel_rfl) (by kernel_rfl)) (by kernel_rfl) (by kernel_rfl) (by kernel_rfl) (show laidMetH Tryd.prog [(qn, Rows.laid_ambidexter_rotation_quadrant)] _ from door_met os _)) ?_
  intro W base args ds gs before hval0 hW _ _ hL _
  have hval : ∀ (j : Nat) t v, Tryd.f7.params[j]? = some t → args[j]? = some v → Value.okWide Tryd.prog W .any base t v := hval0
  have hW' := hW
  obtain ⟨p, q, hA0, hV, rfl, hfz, hnd⟩ := hW
  have hA : DataW.TrodAll enc Tryd.prog W 0 (fun _ => true) true Tryd.f7.params.toList args.toList ds p := hA0
  rw [Tryd.params7] at hA hval
  obtain ⟨v0, vs0, d0, ds0, p0, q0, hargs, rfl, rfl, h0, r0⟩ := trodAll_cons hA
  obtain ⟨v1, vs1, d1, ds1, p1, q1, rfl, rfl, rfl, h1, r1⟩ := trodAll_cons r0
  obtain ⟨v2, vs2, d2, ds2, p2, q2, rfl, rfl, rfl, h2, r2⟩ := trodAll_cons r1
  obtain ⟨rfl, rfl, rfl⟩ := trodAll_nil r2
  obtain rfl : args = #[v0, v1, v2] := by cases args; simp_all
  obtain ⟨rfl, rfl⟩ := trodVars_none hV
  obtain ⟨a0, rfl, rfl, rfl, w0⟩ := open_int Tryd.underlying3 (hval 0 3 v0 rfl rfl) h0
  obtain ⟨a1, rfl, rfl, rfl, w1⟩ := open_int Tryd.underlying3 (hval 1 3 v1 rfl rfl) h1
  obtain ⟨a2, rfl, rfl, rfl, w2⟩ := open_int Tryd.underlying3 (hval 2 3 v2 rfl rfl) h2
  clear hA0 hval0
  simp only [List.append_nil] at hW'
  refine (walk a0 w0 a1 w1 a2 w2 W (tab_of_laid hL)).mono fun e W' ⟨he, hg⟩ => ?_
  subst he
  exact ⟨_, rfl, _, _, _, [], _, [], hW', trodAll_mk1 (shut_bool Tryd.underlying4 _), (trodAll_cons_mk (shut_int Tryd.underlying3 w0) (trodAll_cons_mk (shut_int Tryd.underlying3 w1) (trodAll_cons_mk (shut_int Tryd.underlying3 w2) trodAll_mk0))), rfl, hg.frame _, fun h => by cases h⟩

theorem holds : Rows.RotationCommutesSaid :=
  OpenClaim.holds_of_wide 7 Tryd.f7 rfl rfl rfl rfl rfl rfl rfl ⟨rfl, rfl, rfl, rfl, rfl⟩ rfl rfl rfl rfl rfl (by kernel_rfl) Tryd.func7 (by kernel_rfl)
    (of_decide_eq_true (by kernel_rfl)) (by unfold Func.isWrapper; first | (rw [if_pos (by decide +kernel)]; kernel_rfl) | (rw [if_neg (by decide +kernel)]; exact ⟨rfl, rfl⟩))
    (fun os started H enc _ => lifted os started H enc)

/-- THE STATEMENT: the tied card. -/
theorem card_holds : Rows.RotationCommutesCardSaid :=
  Claim7.holds_tied_plain_at .later [] [.data] true Rows.rotationCommutesCard.stood.harness false
    holds (fun _ h => by cases h) (by kernel_rfl) (fun _ h => by cases h) rotationCommutes_row_tie rfl ⟨rfl, rfl⟩ (by kernel_rfl) rfl
    (fun f fn hf hfn => by
      obtain rfl : f = 7 := Option.some.inj ((show Tryd.prog.funcNamed Rows.rotationCommutesRow.func = some 7 by kernel_rfl).symm.trans hf) |>.symm
      obtain rfl : fn = Tryd.f7 := (Option.some.inj (Tryd.func7.symm.trans hfn)).symm
      exact ⟨by kernel_rfl, fun j t ht => by
        rw [Tryd.params7] at ht
        have hm : t ∈ [3] := by have := Array.mem_of_getElem? ht; simp only [List.mem_toArray, List.mem_cons, List.not_mem_nil, or_false] at this ⊢; grind
        have hall : ([3].all fun u => !Tryd.prog.wantsStandIn u) = true := by kernel_rfl
        exact (show Tryd.prog.wantsStandIn t = false by simpa using List.all_eq_true.1 hall t hm)⟩)
    (by kernel_rfl)
#print axioms card_holds
end Go.Proofs.YtedhbcjlcgkocaaDoor.rotationCommutes
