/- Contracts of the reference of layer 4: Far, in, Convex. Conditions: the slice reads as the list says; the coordinates are bounded. -/
import Derived.Test.YtnpadblfpaiofaaHlC
import Derived.Test.YtnpadblfpaiofaaHlP
import Derived.Test.YtnpadblfpaiofaaHw
import Derived.WalkMore
namespace Go.Proofs.Ytnpadblfpaiofaa
open Go.ChangeShapes Go.WideShapes Go.ChangeAt Go.RowKit
set_option linter.unusedVariables false
set_option linter.unusedSimpArgs false

def farI (a b c d : Int) : Int := (a - c) * (a - c) + (b - d) * (b - d)
set_option maxHeartbeats 1000000 in
theorem far_is (a b c d n : Int) (w : World) (ka : InV a) (kb : InV b) (kc : InV c) (kd : InV d) (h : Hid (farI a b c d = n)) :
    Calls Try.prog 37 #[.agg #[.int .i64 a, .int .i64 b], .agg #[.int .i64 c, .int .i64 d]] w fun e w' => e = .returned (.int .i64 n) ∧ Below w.heap.size w w' := by
  have d1 := vdif ka kc
  have d2 := vdif kb kd
  obtain ⟨m1, m2⟩ := vprod d1 d1
  obtain ⟨m3, m4⟩ := vprod d2 d2
  obtain ⟨d11, d12⟩ := d1
  obtain ⟨d21, d22⟩ := d2
  clear ka kb kc kd
  go_enter Try.func37, Try.ntmps37
  go_wp2
  go_ret
  exact ⟨ret_int (by rw [← h.out]; rfl), belA (belA (Below.refl _ _) _) _⟩

set_option maxHeartbeats 4000000 in
theorem in4_is (a1 a2 b1 b2 c1 c2 p q : Int) (t : Bool) (w : World) (V1 : InV a1) (V2 : InV a2) (V3 : InV b1) (V4 : InV b2) (V5 : InV c1) (V6 : InV c2) (V7 : InV p) (V8 : InV q) (ht : Hid ((decide (0 ≤ det a1 a2 b1 b2 p q) && (decide (0 ≤ det b1 b2 c1 c2 p q) && decide (0 ≤ det c1 c2 a1 a2 p q))) = t)) :
    Calls Try.prog 69 #[.agg #[.int .i64 a1, .int .i64 a2], .agg #[.int .i64 b1, .int .i64 b2], .agg #[.int .i64 c1, .int .i64 c2], .agg #[.int .i64 p, .int .i64 q]] w fun e w' => e = .returned (.bool t) ∧ Below w.heap.size w w' := by
  obtain ⟨D1, g1⟩ : ∃ x, det a1 a2 b1 b2 p q = x := ⟨_, rfl⟩
  obtain ⟨D2, g2⟩ : ∃ x, det b1 b2 c1 c2 p q = x := ⟨_, rfl⟩
  obtain ⟨D3, g3⟩ : ∃ x, det c1 c2 a1 a2 p q = x := ⟨_, rfl⟩
  have S1 := Lib.hid (fun w => side_is a1 a2 b1 b2 p q D1 w V1 V2 V3 V4 V7 V8 (Lib.hid g1))
  have S2 := Lib.hid (fun w => side_is b1 b2 c1 c2 p q D2 w V3 V4 V5 V6 V7 V8 (Lib.hid g2))
  have S3 := Lib.hid (fun w => side_is c1 c2 a1 a2 p q D3 w V5 V6 V1 V2 V7 V8 (Lib.hid g3))
  have E : Hid (t = (decide (0 ≤ D1) && (decide (0 ≤ D2) && decide (0 ≤ D3)))) := Lib.hid (by rw [← ht.out, g1, g2, g3])
  clear g1 g2 g3 ht V1 V2 V3 V4 V5 V6 V7 V8
  have X1 := blk_alloc (blk_alloc (blk_alloc (blk_new w (.cells #[.int .i64 a1, .int .i64 a2] 35) _ rfl) (.cells #[.int .i64 b1, .int .i64 b2] 35)) (.cells #[.int .i64 c1, .int .i64 c2] 35)) (.cells #[.int .i64 p, .int .i64 q] 35)
  have X2 := blk_alloc (blk_alloc (blk_new (w.alloc (.cells #[.int .i64 a1, .int .i64 a2] 35)) (.cells #[.int .i64 b1, .int .i64 b2] 35) (w.heap.size + 1) (by simp)) (.cells #[.int .i64 c1, .int .i64 c2] 35)) (.cells #[.int .i64 p, .int .i64 q] 35)
  have X3 := blk_alloc (blk_new ((w.alloc (.cells #[.int .i64 a1, .int .i64 a2] 35)).alloc (.cells #[.int .i64 b1, .int .i64 b2] 35)) (.cells #[.int .i64 c1, .int .i64 c2] 35) (w.heap.size + 1 + 1) (by simp)) (.cells #[.int .i64 p, .int .i64 q] 35)
  have X4 := blk_new (((w.alloc (.cells #[.int .i64 a1, .int .i64 a2] 35)).alloc (.cells #[.int .i64 b1, .int .i64 b2] 35)).alloc (.cells #[.int .i64 c1, .int .i64 c2] 35)) (.cells #[.int .i64 p, .int .i64 q] 35) (w.heap.size + 1 + 1 + 1) (by simp)
  have HB := belA (belA (belA (belA (Below.refl _ w) (.cells #[.int .i64 a1, .int .i64 a2] 35)) (.cells #[.int .i64 b1, .int .i64 b2] 35)) (.cells #[.int .i64 c1, .int .i64 c2] 35)) (.cells #[.int .i64 p, .int .i64 q] 35)
  go_enter Try.func69, Try.ntmps69
  go_wp2_with fail
  refine (S1.out _).mono ?_
  rintro e w1 ⟨rfl, hb⟩
  replace X1 := blk_call X1 hb
  replace X2 := blk_call X2 hb
  replace X3 := blk_call X3 hb
  replace X4 := blk_call X4 hb
  replace HB := belT HB hb
  clear hb
  have k1 := blk_cell X1 0 _ rfl
  have k2 := blk_cell X1 1 _ rfl
  have z1 := blk_lt X1
  have k3 := blk_cell X2 0 _ rfl
  have k4 := blk_cell X2 1 _ rfl
  have z2 := blk_lt X2
  have k5 := blk_cell X3 0 _ rfl
  have k6 := blk_cell X3 1 _ rfl
  have z3 := blk_lt X3
  have k7 := blk_cell X4 0 _ rfl
  have k8 := blk_cell X4 1 _ rfl
  have z4 := blk_lt X4
  go_wp2_with fail
  refine (S2.out _).mono ?_
  rintro e w2 ⟨rfl, hb⟩
  clear k1 k2 k3 k4 k5 k6 k7 k8 z1 z2 z3 z4
  replace X1 := blk_call X1 hb
  replace X3 := blk_call X3 hb
  replace X4 := blk_call X4 hb
  replace HB := belT HB hb
  clear hb
  have k1 := blk_cell X1 0 _ rfl
  have k2 := blk_cell X1 1 _ rfl
  have z1 := blk_lt X1
  have k5 := blk_cell X3 0 _ rfl
  have k6 := blk_cell X3 1 _ rfl
  have z3 := blk_lt X3
  have k7 := blk_cell X4 0 _ rfl
  have k8 := blk_cell X4 1 _ rfl
  have z4 := blk_lt X4
  go_wp2_with fail
  refine (S3.out _).mono ?_
  rintro e w3 ⟨rfl, hb⟩
  clear k1 k2 k5 k6 k7 k8 z1 z3 z4
  replace HB := belT HB hb
  by_cases e1 : 0 ≤ D1
  · by_cases e2 : 0 ≤ D2
    · by_cases e3 : 0 ≤ D3
      · go_wp2_with fail
        go_ret
        exact ⟨ret_bool (by rw [E.out, decide_eq_true e1, decide_eq_true e2, decide_eq_true e3]; rfl), HB⟩
      · go_wp2_with fail
        go_ret
        exact ⟨ret_bool (by rw [E.out, decide_eq_true e1, decide_eq_true e2, decide_eq_false (by omega : ¬ 0 ≤ D3)]; rfl), HB⟩
    · go_wp2_with fail
      go_ret
      exact ⟨ret_bool (by rw [E.out, decide_eq_true e1, decide_eq_false (by omega : ¬ 0 ≤ D2)]; rfl), HB⟩
  · go_wp2_with fail
    go_ret
    exact ⟨ret_bool (by rw [E.out, decide_eq_false (by omega : ¬ 0 ≤ D1)]; rfl), HB⟩

set_option maxRecDepth 100000 in
set_option maxHeartbeats 8000000 in
theorem conv4_is (ao : Option Addr) (n cap : Nat) (ps : List (Int × Int)) (t : Bool) (w : World) (hn : ps.length = n) (ht : Hid (convB ps = t)) (hle : n ≤ 1000000) (hP : PRow w ao ps) (hV : AllV ps) :
    Calls Try.prog 16 #[.slice ao n cap] w fun e w' => e = .returned (.bool t) ∧ Below w.heap.size w w' := by
  subst hn
  have HP := Lib.hid hP
  have HV := Lib.hid hV
  have HNO := Lib.hid (fun (i k : Nat) (hi : i < ps.length) (hk : k < ps.length) (hf : leftB ps i k = false) => (by
    rw [← ht.out]; unfold convB; rw [Bool.and_eq_false_iff]; right; rw [List.all_eq_false]
    refine ⟨i, List.mem_range.2 hi, ?_⟩
    rw [Bool.not_eq_true]; unfold othersB; rw [List.all_eq_false]
    exact ⟨k, List.mem_range.2 hk, by rw [hf]; decide⟩ : t = false))
  have HYE := Lib.hid (fun (h : ∀ i, i < ps.length → ∀ k, k < ps.length → leftB ps i k = true) => (by
    rw [← ht.out]; unfold convB
    rw [List.all_eq_true.2 fun i hi => (by unfold othersB; exact List.all_eq_true.2 fun k hk => h i (List.mem_range.1 hi) k (List.mem_range.1 hk) : othersB ps i = true), Bool.and_true] : t = decide (3 ≤ ps.length)))
  clear hP hV ht
  go_enter Try.func16, Try.ntmps16
  go_wp2_with fail
  go_loopw [3] (fun i wr => ∃ k : Nat, k ≤ ps.length ∧ i = .int .i64 k ∧ Hid (∀ i, i < k → ∀ m, m < ps.length → leftB ps i m = true) ∧ Below w.heap.size w wr) (fun i _ => ps.length - (intOf i).toNat)
  case atStart => exact ⟨0, Nat.zero_le _, rfl, Lib.hid (fun j hj => by omega), Below.refl _ _⟩
  case round =>
    obtain ⟨i, hi, rfl, HF, hB⟩ := hrel
    by_cases hlt : i < ps.length
    · have hii : (i : Int) < ps.length := by omega
      obtain ⟨j, hj⟩ : ∃ j, nx ps.length i = j := ⟨_, rfl⟩
      have hjl : j < ps.length := by rw [← hj]; exact nx_lt' hlt
      have hji : (j : Int) < ps.length := by omega
      have hNX : (i + 1 < ps.length ∧ j = i + 1) ∨ (¬ i + 1 < ps.length ∧ j = 0) := by
        by_cases g : i + 1 < ps.length
        · exact .inl ⟨g, by rw [← hj, nx_small g]⟩
        · exact .inr ⟨g, by rw [← hj, nx_last (by omega)]⟩
      have HL : Hid (∀ k, leftB ps i k = (k == i || (k == j || decide (0 < det (cx ps i) (cy ps i) (cx ps j) (cy ps j) (cx ps k) (cy ps k))))) := Lib.hid (fun k => by unfold leftB; rw [hj]; rfl)
      have HB0 := Lib.hid hB
      clear hj hB
      have body : ∀ (T : Array Value), T = T → True := fun _ _ => trivial
      clear body
      rcases hNX with ⟨g1, rfl⟩ | ⟨g1, rfl⟩
      · have g1i : (i : Int) + 1 < ps.length := by omega
        have g1n : 0 ≤ (i : Int) + 1 := by omega
        have hB := HB0.out
        go_wp2_with fail
        go_loopw [5] (fun i' wr => ∃ k : Nat, k ≤ ps.length ∧ i' = .int .i64 k ∧ Hid (∀ m, m < k → leftB ps i m = true) ∧ Below w.heap.size w wr) (fun i _ => ps.length - (intOf i).toNat)
        case atStart => exact ⟨0, Nat.zero_le _, rfl, Lib.hid (fun j hj => by omega), hB⟩
        case round =>
          obtain ⟨k, hk, rfl, HM, hBx⟩ := hrel
          by_cases hkl : k < ps.length
          · have hki : (k : Int) < ps.length := by omega
            obtain ⟨b, b0, rfl, c1, c2⟩ := prow_at HP.out hlt
            obtain ⟨b', b0', ho', c3, c4⟩ := prow_at HP.out hjl
            obtain ⟨rfl, rfl⟩ : b = b' ∧ b0 = b0' := by simpa using ho'
            clear ho'
            obtain ⟨b', b0', ho', c5, c6⟩ := prow_at HP.out hkl
            obtain ⟨rfl, rfl⟩ : b = b' ∧ b0 = b0' := by simpa using ho'
            clear ho'
            obtain ⟨i1, i2⟩ := HV.out i hlt
            obtain ⟨i3, i4⟩ := HV.out (i + 1) hjl
            obtain ⟨i5, i6⟩ := HV.out k hkl
            have d1 := (hBx.cell (World.block_lt_of_cell? w _ c1)).trans c1
            have zb : b < wr.heap.size := World.block_lt_of_cell? wr ⟨b, b0 + i * 2, none⟩ d1
            have G1 := fun p => cell_blw (w := wr) (a := ⟨b, b0 + i * 2, none⟩) zb d1 p
            have G2 := fun p => cell_blw (w := wr) (a := ⟨b, b0 + i * 2 + 1, none⟩) zb ((hBx.cell (World.block_lt_of_cell? w _ c2)).trans c2) p
            have G3 := fun p => cell_blw (w := wr) (a := ⟨b, b0 + (i + 1) * 2, none⟩) zb (by have := ((hBx.cell (World.block_lt_of_cell? w _ c3)).trans c3); simpa using this) p
            have G4 := fun p => cell_blw (w := wr) (a := ⟨b, b0 + (i + 1) * 2 + 1, none⟩) zb (by have := ((hBx.cell (World.block_lt_of_cell? w _ c4)).trans c4); simpa using this) p
            have G5 := fun p => cell_blw (w := wr) (a := ⟨b, b0 + k * 2, none⟩) zb ((hBx.cell (World.block_lt_of_cell? w _ c5)).trans c5) p
            have G6 := fun p => cell_blw (w := wr) (a := ⟨b, b0 + k * 2 + 1, none⟩) zb ((hBx.cell (World.block_lt_of_cell? w _ c6)).trans c6) p
            obtain ⟨o, ho⟩ : ∃ o, det (cx ps i) (cy ps i) (cx ps (i + 1)) (cy ps (i + 1)) (cx ps k) (cy ps k) = o := ⟨_, rfl⟩
            have HO := Lib.hid ho
            have HLK : Hid (leftB ps i k = (k == i || (k == (i + 1) || decide (0 < o)))) := Lib.hid (by rw [HL.out, ho])
            generalize cx ps i = x1 at *
            generalize cy ps i = x2 at *
            generalize cx ps (i + 1) = y1 at *
            generalize cy ps (i + 1) = y2 at *
            generalize cx ps k = u1 at *
            generalize cy ps k = u2 at *
            have C := Lib.hid (fun p : BlwBy wr => side_is x1 x2 y1 y2 u1 u2 o p.x i1 i2 i3 i4 i5 i6 HO)
            have HBX := Lib.hid hBx
            clear c1 c2 c3 c4 c5 c6 d1 ho i1 i2 i3 i4 i5 i6 HO hBx hB
            go_upto_region 10 with fail
            refine wb_region mixedP (by kernel_rfl) ?_
            repeat (refine wq_step (fun K hK => ?_); go_simp; first | (refine hK _ ?_; clear hK K) | (apply Exists.intro; refine ⟨fun _ => ?_, hK _ ?_⟩; (go_at_call 30; refine Calls.blw_of (C.out _)); clear hK K))
            refine wq_nil ?_
            intro _ hw'
            obtain ⟨pb, hw''⟩ := hw'
            subst hw''
            have HB3 := Lib.hid (HBX.out.trans (pb.hb.mono HBX.out.size))
            clear G1 G2 G3 G4 G5 G6 C HBX zb
            obtain ⟨w5, hb5⟩ := pb
            change Hid (Below w.heap.size w w5) at HB3
            dsimp only
            have NX : leftB ps i k = true → Hid (∀ m, m < k + 1 → leftB ps i m = true) := fun h => Lib.hid (fun m hm => by
              by_cases e : m = k
              · subst e; exact h
              · exact HM.out m (by omega))
            by_cases e1 : k = i
            · subst e1
              have HN := NX (by rw [HLK.out]; simp)
              clear NX
              go_wp2_with fail
              go_roundw
              case rel => exact ⟨k + 1, by omega, by go_num, HN, HB3.out⟩
              case measure => simp [intOf]; omega
            · by_cases e2 : k = (i + 1)
              · have HN := NX (by rw [HLK.out, e2]; simp)
                clear NX
                subst e2
                go_wp2_with fail
                go_roundw
                case rel => exact ⟨(i + 1) + 1, by omega, by go_num, HN, HB3.out⟩
                case measure => simp [intOf]; omega
              · have e1i : ¬ (k : Int) = i := by omega
                have e1b : ((k : Int) != (i : Int)) = true := by rw [bne_iff_ne]; exact e1i
                have e2i : ¬ (k : Int) = ((i : Int) + 1) := by omega
                have e2b : ((k : Int) != ((i : Int) + 1)) = true := by rw [bne_iff_ne]; exact e2i
                by_cases e3 : o ≤ 0
                · have HE : Hid (t = false) := Lib.hid (HNO.out i k hlt hkl (by rw [HLK.out, decide_eq_false (by omega : ¬ 0 < o)]; simp [e1, e2]))
                  clear NX
                  go_wp2_with fail
                  go_ret
                  exact ⟨ret_bool HE.out.symm, HB3.out⟩
                · have HN := NX (by rw [HLK.out, decide_eq_true (by omega : 0 < o)]; simp)
                  clear NX
                  go_wp2_with fail
                  go_roundw
                  case rel => exact ⟨k + 1, by omega, by go_num, HN, HB3.out⟩
                  case measure => simp [intOf]; omega
          · have hkli : ¬ (k : Int) < ps.length := by omega
            have HB3 := Lib.hid hBx
            have HFN : Hid (∀ i', i' < i + 1 → ∀ m, m < ps.length → leftB ps i' m = true) := Lib.hid (fun i' hi' => by
              by_cases e : i' = i
              · subst e; exact fun m hm => HM.out m (by omega)
              · exact HF.out i' (by omega))
            clear HM HF hBx hB
            go_wp2_with fail
            go_roundw
            case rel => exact ⟨i + 1, by omega, by go_num, HFN, HB3.out⟩
            case measure => simp [intOf]; omega
      · have g1i : ¬ (i : Int) + 1 < ps.length := by omega
        have hB := HB0.out
        go_wp2_with fail
        go_loopw [5] (fun i' wr => ∃ k : Nat, k ≤ ps.length ∧ i' = .int .i64 k ∧ Hid (∀ m, m < k → leftB ps i m = true) ∧ Below w.heap.size w wr) (fun i _ => ps.length - (intOf i).toNat)
        case atStart => exact ⟨0, Nat.zero_le _, rfl, Lib.hid (fun j hj => by omega), hB⟩
        case round =>
          obtain ⟨k, hk, rfl, HM, hBx⟩ := hrel
          by_cases hkl : k < ps.length
          · have hki : (k : Int) < ps.length := by omega
            obtain ⟨b, b0, rfl, c1, c2⟩ := prow_at HP.out hlt
            obtain ⟨b', b0', ho', c3, c4⟩ := prow_at HP.out hjl
            obtain ⟨rfl, rfl⟩ : b = b' ∧ b0 = b0' := by simpa using ho'
            clear ho'
            obtain ⟨b', b0', ho', c5, c6⟩ := prow_at HP.out hkl
            obtain ⟨rfl, rfl⟩ : b = b' ∧ b0 = b0' := by simpa using ho'
            clear ho'
            obtain ⟨i1, i2⟩ := HV.out i hlt
            obtain ⟨i3, i4⟩ := HV.out 0 hjl
            obtain ⟨i5, i6⟩ := HV.out k hkl
            have d1 := (hBx.cell (World.block_lt_of_cell? w _ c1)).trans c1
            have zb : b < wr.heap.size := World.block_lt_of_cell? wr ⟨b, b0 + i * 2, none⟩ d1
            have G1 := fun p => cell_blw (w := wr) (a := ⟨b, b0 + i * 2, none⟩) zb d1 p
            have G2 := fun p => cell_blw (w := wr) (a := ⟨b, b0 + i * 2 + 1, none⟩) zb ((hBx.cell (World.block_lt_of_cell? w _ c2)).trans c2) p
            have G3 := fun p => cell_blw (w := wr) (a := ⟨b, b0, none⟩) zb (by have := ((hBx.cell (World.block_lt_of_cell? w _ c3)).trans c3); simpa using this) p
            have G4 := fun p => cell_blw (w := wr) (a := ⟨b, b0 + 1, none⟩) zb (by have := ((hBx.cell (World.block_lt_of_cell? w _ c4)).trans c4); simpa using this) p
            have G5 := fun p => cell_blw (w := wr) (a := ⟨b, b0 + k * 2, none⟩) zb ((hBx.cell (World.block_lt_of_cell? w _ c5)).trans c5) p
            have G6 := fun p => cell_blw (w := wr) (a := ⟨b, b0 + k * 2 + 1, none⟩) zb ((hBx.cell (World.block_lt_of_cell? w _ c6)).trans c6) p
            obtain ⟨o, ho⟩ : ∃ o, det (cx ps i) (cy ps i) (cx ps 0) (cy ps 0) (cx ps k) (cy ps k) = o := ⟨_, rfl⟩
            have HO := Lib.hid ho
            have HLK : Hid (leftB ps i k = (k == i || (k == 0 || decide (0 < o)))) := Lib.hid (by rw [HL.out, ho])
            generalize cx ps i = x1 at *
            generalize cy ps i = x2 at *
            generalize cx ps 0 = y1 at *
            generalize cy ps 0 = y2 at *
            generalize cx ps k = u1 at *
            generalize cy ps k = u2 at *
            have C := Lib.hid (fun p : BlwBy wr => side_is x1 x2 y1 y2 u1 u2 o p.x i1 i2 i3 i4 i5 i6 HO)
            have HBX := Lib.hid hBx
            clear c1 c2 c3 c4 c5 c6 d1 ho i1 i2 i3 i4 i5 i6 HO hBx hB
            go_upto_region 10 with fail
            refine wb_region mixedP (by kernel_rfl) ?_
            repeat (refine wq_step (fun K hK => ?_); go_simp; first | (refine hK _ ?_; clear hK K) | (apply Exists.intro; refine ⟨fun _ => ?_, hK _ ?_⟩; (go_at_call 30; refine Calls.blw_of (C.out _)); clear hK K))
            refine wq_nil ?_
            intro _ hw'
            obtain ⟨pb, hw''⟩ := hw'
            subst hw''
            have HB3 := Lib.hid (HBX.out.trans (pb.hb.mono HBX.out.size))
            clear G1 G2 G3 G4 G5 G6 C HBX zb
            obtain ⟨w5, hb5⟩ := pb
            change Hid (Below w.heap.size w w5) at HB3
            dsimp only
            have NX : leftB ps i k = true → Hid (∀ m, m < k + 1 → leftB ps i m = true) := fun h => Lib.hid (fun m hm => by
              by_cases e : m = k
              · subst e; exact h
              · exact HM.out m (by omega))
            by_cases e1 : k = i
            · subst e1
              have HN := NX (by rw [HLK.out]; simp)
              clear NX
              go_wp2_with fail
              go_roundw
              case rel => exact ⟨k + 1, by omega, by go_num, HN, HB3.out⟩
              case measure => simp [intOf]; omega
            · by_cases e2 : k = 0
              · have HN := NX (by rw [HLK.out, e2]; simp)
                clear NX
                subst e2
                go_wp2_with fail
                go_roundw
                case rel => exact ⟨0 + 1, by omega, by go_num, HN, HB3.out⟩
                case measure => simp [intOf]; omega
              · have e1i : ¬ (k : Int) = i := by omega
                have e1b : ((k : Int) != (i : Int)) = true := by rw [bne_iff_ne]; exact e1i
                have e2i : ¬ (k : Int) = 0 := by omega
                have e2b : ((k : Int) != 0) = true := by rw [bne_iff_ne]; exact e2i
                by_cases e3 : o ≤ 0
                · have HE : Hid (t = false) := Lib.hid (HNO.out i k hlt hkl (by rw [HLK.out, decide_eq_false (by omega : ¬ 0 < o)]; simp [e1, e2]))
                  clear NX
                  go_wp2_with fail
                  go_ret
                  exact ⟨ret_bool HE.out.symm, HB3.out⟩
                · have HN := NX (by rw [HLK.out, decide_eq_true (by omega : 0 < o)]; simp)
                  clear NX
                  go_wp2_with fail
                  go_roundw
                  case rel => exact ⟨k + 1, by omega, by go_num, HN, HB3.out⟩
                  case measure => simp [intOf]; omega
          · have hkli : ¬ (k : Int) < ps.length := by omega
            have HB3 := Lib.hid hBx
            have HFN : Hid (∀ i', i' < i + 1 → ∀ m, m < ps.length → leftB ps i' m = true) := Lib.hid (fun i' hi' => by
              by_cases e : i' = i
              · subst e; exact fun m hm => HM.out m (by omega)
              · exact HF.out i' (by omega))
            clear HM HF hBx hB
            go_wp2_with fail
            go_roundw
            case rel => exact ⟨i + 1, by omega, by go_num, HFN, HB3.out⟩
            case measure => simp [intOf]; omega
    · have HE : Hid (t = decide (3 ≤ ps.length)) := Lib.hid (HYE.out fun i' hi' => HF.out i' (by omega))
      have HB3 := Lib.hid hB
      clear HF hB
      go_wp2_with fail
      go_ret
      exact ⟨ret_bool (by rw [HE.out]; rw [Bool.eq_iff_iff]; simp only [decide_eq_true_eq]; omega), HB3.out⟩
end Go.Proofs.Ytnpadblfpaiofaa
