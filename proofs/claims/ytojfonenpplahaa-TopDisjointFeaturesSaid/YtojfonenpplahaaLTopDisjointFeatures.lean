/- Proved: of two valid polygons that do not meet, every corner of each lies strictly outside the other and no two of their edges share a point (the law TopDisjointFeatures returns true).
Conditions: none on the arguments. -/
import Derived.Test.YtojfonenpplahaaIyA
import Derived.Test.YtojfonenpplahaaHlFr
namespace Go.Proofs.Ytojfonenpplahaa.topDisjointFeatures
open Go.ChangeShapes Go.WideShapes Go.ChangeAt Go.RowKit
set_option linter.unusedVariables false
set_option linter.unusedSimpArgs false

set_option maxRecDepth 100000 in
set_option maxHeartbeats 16000000 in
theorem walk {w : World} (ao : Option Addr) (ca : Nat) (a : List (Int × Int)) (na : a.length ≤ 9223372036854775807) (hA : PRow w ao a) (bo : Option Addr) (cb : Nat) (b : List (Int × Int)) (nb : b.length ≤ 9223372036854775807) (hB : PRow w bo b) (W' : World) (hw : w = W') :
    Calls Try.prog 12 #[.slice ao a.length ca, .slice bo b.length cb] w fun e w' => e = .returned (.bool true) ∧ Below w.heap.size w w' := by
  have PA := Lib.hid hA
  have PB := Lib.hid hB
  clear hA hB hw
  go_enter Try.func12, Try.ntmps12
  go_wp2_with fail
  refine (head05_is _).mono ?_
  rintro e w1 ⟨rfl, hb1⟩
  replace PA := Lib.hid (prow_below PA.out hb1)
  replace PB := Lib.hid (prow_below PB.out hb1)
  have B := Lib.hid (belT (Below.refl _ w) hb1)
  clear hb1
  obtain ⟨ta, ht⟩ : ∃ t, validP a = t := ⟨_, rfl⟩
  have HA := Lib.hid ht
  clear ht
  go_wp2_with fail
  refine (right_is ao _ ca a ta _ rfl HA na PA.out).mono ?_
  rintro e w2 ⟨rfl, hb2⟩
  replace PA := Lib.hid (prow_below PA.out hb2)
  replace PB := Lib.hid (prow_below PB.out hb2)
  replace B := Lib.hid (belT B.out hb2)
  clear hb2
  cases ta with
  | false =>
    go_wp2_with fail
    go_ret
    exact ⟨rfl, B.out⟩
  | true =>
  obtain ⟨tb, ht⟩ : ∃ t, validP b = t := ⟨_, rfl⟩
  have HB := Lib.hid ht
  clear ht
  go_wp2_with fail
  refine (right_is bo _ cb b tb _ rfl HB nb PB.out).mono ?_
  rintro e w3 ⟨rfl, hb3⟩
  replace PA := Lib.hid (prow_below PA.out hb3)
  replace PB := Lib.hid (prow_below PB.out hb3)
  replace B := Lib.hid (belT B.out hb3)
  clear hb3
  cases tb with
  | false =>
    go_wp2_with fail
    go_ret
    exact ⟨rfl, B.out⟩
  | true =>
  obtain ⟨a3, a12, aV⟩ := vparts HA.out
  have RA := Lib.hid aV.r2
  clear aV
  obtain ⟨b3, b12, bV⟩ := vparts HB.out
  have RB := Lib.hid bV.r2
  clear bV
  obtain ⟨t, ht⟩ : ∃ t, touchB a b = t := ⟨_, rfl⟩
  have HP := Lib.hid ht
  clear ht
  go_wp2_with fail
  refine (polygons_is ao bo _ _ ca cb a b t _ rfl rfl HP (by omega) (by omega) a12 b12 PA.out PB.out RA.out RB.out).mono ?_
  rintro e w4 ⟨rfl, hb4⟩
  replace PA := Lib.hid (prow_below PA.out hb4)
  replace PB := Lib.hid (prow_below PB.out hb4)
  replace B := Lib.hid (belT B.out hb4)
  clear hb4
  cases t with
  | true =>
    go_wp2_with fail
    go_ret
    exact ⟨rfl, B.out⟩
  | false =>
  obtain ⟨e0, e1, e2⟩ := touch_no HP.out
  have E0 := Lib.hid e0
  have E1 := Lib.hid e1
  have E2 := Lib.hid e2
  clear e0 e1 e2
  go_wp2_with fail
  go_loopw [6] (fun i wr => ∃ k : Nat, k ≤ b.length ∧ i = .int .i64 k ∧ Below w4.heap.size w4 wr) (fun i _ => b.length - (intOf i).toNat)
  case atStart => exact ⟨0, Nat.zero_le _, rfl, Below.refl _ _⟩
  case round =>
    obtain ⟨i, hi, rfl, hB⟩ := hrel
    by_cases hlt : i < b.length
    · have hii : (i : Int) < b.length := by omega
      obtain ⟨i', hi'⟩ : ∃ j, nx b.length i = j := ⟨_, rfl⟩
      have hil : i' < b.length := by rw [← hi']; exact nx_lt' hlt
      have hiil : (i' : Int) < b.length := by omega
      have hb0 : (b.length : Int) ≠ 0 := by omega
      have hpe : ¬ b = [] := fun e => by rw [e] at hlt; simp at hlt
      have ti : ((i : Int) + 1).tmod (b.length : Int) = (i' : Int) := by
        rw [← hi', Int.tmod_eq_emod_of_nonneg (by omega)]; unfold nx; simp
      have wi : IntKind.i64.wrap ((i : Int) + 1) = (i : Int) + 1 := wrap_k _ (by omega)
      obtain ⟨g1, o1, rfl, c1, c2⟩ := prow_at PB.out hlt
      have d1 := (hB.cell (World.block_lt_of_cell? w4 _ c1)).trans c1
      have d2 := (hB.cell (World.block_lt_of_cell? w4 _ c2)).trans c2
      obtain ⟨i5, i6⟩ := RB.out i hlt
      have hl := E2.out i hlt
      have PA5 := Lib.hid (prow_below PA.out hB)
      have B5 := Lib.hid hB
      have HI := Lib.hid hi'
      obtain ⟨u1, q1⟩ : ∃ v, cx b i = v := ⟨_, rfl⟩
      obtain ⟨u2, q2⟩ : ∃ v, cy b i = v := ⟨_, rfl⟩
      have Q1 := Lib.hid q1
      have Q2 := Lib.hid q2
      rw [q1] at d1 i5 hl
      rw [q2] at d2 i6 hl
      have HL := Lib.hid hl
      clear c1 c2 hl hi' hB q1 q2
      go_wp2_with fail
      refine (locate_at ao _ ca a u1 u2 (-1) _ rfl HL (by omega) a12 PA5.out RA.out i5 i6).mono ?_
      rintro e w6 ⟨rfl, hb⟩
      have B6 := Lib.hid (belT B5.out hb)
      clear hb d1 d2 PA5 B5
      go_wp2_with fail
      go_loopw [7] (fun i' wr => ∃ k : Nat, k ≤ a.length ∧ i' = .int .i64 k ∧ Below w4.heap.size w4 wr) (fun i _ => a.length - (intOf i).toNat)
      case atStart => exact ⟨0, Nat.zero_le _, rfl, B6.out⟩
      case round =>
        obtain ⟨k, hk, rfl, hBx⟩ := hrel
        by_cases hkl : k < a.length
        · have hki : (k : Int) < a.length := by omega
          obtain ⟨k', hk'⟩ : ∃ j, nx a.length k = j := ⟨_, rfl⟩
          have hkkl : k' < a.length := by rw [← hk']; exact nx_lt' hkl
          have hkki : (k' : Int) < a.length := by omega
          have ha0 : (a.length : Int) ≠ 0 := by omega
          have hqe : ¬ a = [] := fun e => by rw [e] at hkl; simp at hkl
          have tk : ((k : Int) + 1).tmod (a.length : Int) = (k' : Int) := by
            rw [← hk', Int.tmod_eq_emod_of_nonneg (by omega)]; unfold nx; simp
          have wk : IntKind.i64.wrap ((k : Int) + 1) = (k : Int) + 1 := wrap_k _ (by omega)
          obtain ⟨g2, o2, rfl, c1, c2⟩ := prow_at PA.out hkl
          obtain ⟨g', o', ho', c3, c4⟩ := prow_at PA.out hkkl
          obtain ⟨rfl, rfl⟩ : g2 = g' ∧ o2 = o' := by simpa using ho'
          clear ho'
          obtain ⟨g', o', ho', c5, c6⟩ := prow_at PB.out hlt
          obtain ⟨rfl, rfl⟩ : g1 = g' ∧ o1 = o' := by simpa using ho'
          clear ho'
          obtain ⟨g', o', ho', c7, c8⟩ := prow_at PB.out hil
          obtain ⟨rfl, rfl⟩ : g1 = g' ∧ o1 = o' := by simpa using ho'
          clear ho'
          obtain ⟨i1, i2⟩ := RA.out k hkl
          obtain ⟨i3, i4⟩ := RA.out k' hkkl
          obtain ⟨i7, i8⟩ := RB.out i' hil
          have hl := E1.out k hkl
          have hv : eeB b a i k = false := by rw [eeB_comm]; exact E0.out k i hkl hlt
          unfold eeB at hv
          rw [HI.out, hk'] at hv
          rw [Q1.out] at hv c5
          rw [Q2.out] at hv c6
          have c1' := (hBx.cell (World.block_lt_of_cell? w4 _ c1)).trans c1
          have Gc1 := fun p => cell_blw (w := wr) (a := ⟨g2, o2 + k * 2, none⟩) (World.block_lt_of_cell? wr ⟨g2, o2 + k * 2, none⟩ c1') c1' p
          have c2' := (hBx.cell (World.block_lt_of_cell? w4 _ c2)).trans c2
          have Gc2 := fun p => cell_blw (w := wr) (a := ⟨g2, o2 + k * 2 + 1, none⟩) (World.block_lt_of_cell? wr ⟨g2, o2 + k * 2 + 1, none⟩ c2') c2' p
          have c3' := (hBx.cell (World.block_lt_of_cell? w4 _ c3)).trans c3
          have Gc3 := fun p => cell_blw (w := wr) (a := ⟨g2, o2 + k' * 2, none⟩) (World.block_lt_of_cell? wr ⟨g2, o2 + k' * 2, none⟩ c3') c3' p
          have c4' := (hBx.cell (World.block_lt_of_cell? w4 _ c4)).trans c4
          have Gc4 := fun p => cell_blw (w := wr) (a := ⟨g2, o2 + k' * 2 + 1, none⟩) (World.block_lt_of_cell? wr ⟨g2, o2 + k' * 2 + 1, none⟩ c4') c4' p
          have c5' := (hBx.cell (World.block_lt_of_cell? w4 _ c5)).trans c5
          have Gc5 := fun p => cell_blw (w := wr) (a := ⟨g1, o1 + i * 2, none⟩) (World.block_lt_of_cell? wr ⟨g1, o1 + i * 2, none⟩ c5') c5' p
          have c6' := (hBx.cell (World.block_lt_of_cell? w4 _ c6)).trans c6
          have Gc6 := fun p => cell_blw (w := wr) (a := ⟨g1, o1 + i * 2 + 1, none⟩) (World.block_lt_of_cell? wr ⟨g1, o1 + i * 2 + 1, none⟩ c6') c6' p
          have c7' := (hBx.cell (World.block_lt_of_cell? w4 _ c7)).trans c7
          have Gc7 := fun p => cell_blw (w := wr) (a := ⟨g1, o1 + i' * 2, none⟩) (World.block_lt_of_cell? wr ⟨g1, o1 + i' * 2, none⟩ c7') c7' p
          have c8' := (hBx.cell (World.block_lt_of_cell? w4 _ c8)).trans c8
          have Gc8 := fun p => cell_blw (w := wr) (a := ⟨g1, o1 + i' * 2 + 1, none⟩) (World.block_lt_of_cell? wr ⟨g1, o1 + i' * 2 + 1, none⟩ c8') c8' p
          generalize cx a k = x1 at *
          generalize cy a k = x2 at *
          generalize cx a k' = y1 at *
          generalize cy a k' = y2 at *
          generalize cx b i' = v1 at *
          generalize cy b i' = v2 at *
          have HV := Lib.hid hv
          have HL2 := Lib.hid hl
          have PB5 := Lib.hid (prow_below PB.out hBx)
          have C := Lib.hid (fun p : BlwBy wr => cross_is u1 u2 v1 v2 x1 x2 y1 y2 false p.x HV i5 i6 i7 i8 i1 i2 i3 i4)
          have CL := Lib.hid (fun p : BlwBy wr => locate_at (some ⟨g1, o1, none⟩) _ cb b x1 x2 (-1) p.x rfl HL2 (by omega) b12 (prow_below PB5.out p.hb) RB.out i1 i2)
          have HBX := Lib.hid hBx
          clear c1 c2 c3 c4 c5 c6 c7 c8 c1' c2' c3' c4' c5' c6' c7' c8' hv hl hk' hBx i1 i2 i3 i4 i7 i8
          go_upto_region 12 with fail
          refine wb_region mixedP (by kernel_rfl) ?_
          repeat (refine wq_step (fun K hK => ?_); go_simp; first | (refine hK _ ?_; clear hK K) | (apply Exists.intro; refine ⟨fun _ => ?_, hK _ ?_⟩; (first | (go_at_call 37; refine Calls.blw_of (CL.out _)) | (go_at_call 36; refine Calls.blw_of (C.out _))); clear hK K))
          refine wq_nil ?_
          intro _ hw'
          obtain ⟨pb, hw''⟩ := hw'
          subst hw''
          have HB3 := Lib.hid (HBX.out.trans (pb.hb.mono HBX.out.size))
          clear Gc1 Gc2 Gc3 Gc4 Gc5 Gc6 Gc7 Gc8 C CL HBX
          obtain ⟨w7, hb7⟩ := pb
          change Hid (Below w4.heap.size w4 w7) at HB3
          dsimp only
          clear hb7
          go_wp2_with fail
          go_roundw
          case rel => exact ⟨k + 1, by omega, by go_num, HB3.out⟩
          case measure => simp [intOf]; omega
        · have hkli : ¬ (k : Int) < a.length := by omega
          have HB3 := Lib.hid hBx
          clear hBx
          go_wp2_with fail
          go_roundw
          case rel => exact ⟨i + 1, by omega, by go_num, HB3.out⟩
          case measure => simp [intOf]; omega
    · have hili : ¬ (i : Int) < b.length := by omega
      have HT : Hid (touchB b a = false) := Lib.hid (by rw [touch_comm]; exact HP.out)
      have PA5 := Lib.hid (prow_below PA.out hB)
      have PB5 := Lib.hid (prow_below PB.out hB)
      have B5 := Lib.hid (belT B.out hB)
      clear hB
      go_wp2_with fail
      refine (polygons_is bo ao _ _ cb ca b a false _ rfl rfl HT (by omega) (by omega) b12 a12 PB5.out PA5.out RB.out RA.out).mono ?_
      rintro e w6 ⟨rfl, hb⟩
      go_wp2_with fail
      go_ret
      exact ⟨rfl, belT B5.out hb⟩

set_option maxRecDepth 100000 in
theorem lifted (os : Os) (started : os.Started) (H : Type) (enc : TypeId × Value → H) :
    ReturnsInHanded {} Try.checked os 12 .any (Rows.topDisjointFeaturesSpec.pre6 enc Try.prog Try.f12 Rows.topDisjointFeaturesRow.domain false) (Rows.topDisjointFeaturesSpec.post enc Try.prog Try.f12 false true false false) := by
  refine returnsInHanded_of_change (C := Try.checked) HFr.own started (by kernel_rfl) Try.func12
    (ChangeSpec.witness6 (enc := enc) (C := Try.checked) false ⟨#[], #[.slice none 0 0, .slice none 0 0], []⟩ 8 (by kernel_rfl) (by kernel_rfl) (by kernel_rfl) (by kernel_rfl)) ?_
  intro W base args ds gs before hval0 hW hcnd _
  have hval : ∀ (j : Nat) t v, Try.f12.params[j]? = some t → args[j]? = some v → Value.okWide Try.prog W .any base t v := hval0
  have hW' := hW
  obtain ⟨p, q, hA0, hV, rfl, hfz, hnd⟩ := hW
  have hA : DataW.TrodAll enc Try.prog W 0 (fun _ => true) true Try.f12.params.toList args.toList ds p := hA0
  rw [Try.params12] at hA hval
  obtain ⟨v0, vs0, d0, ds0, p0, q0, hargs, rfl, rfl, h0, r0⟩ := trodAll_cons hA
  obtain ⟨v1, vs1, d1, ds1, p1, q1, rfl, rfl, rfl, h1, r1⟩ := trodAll_cons r0
  obtain ⟨rfl, rfl, rfl⟩ := trodAll_nil r1
  obtain rfl : args = #[v0, v1] := by cases args; simp_all
  obtain ⟨rfl, rfl⟩ := trodVars_none hV
  have k0 := h0
  have lt0 : ∀ x ∈ p0, x.block < W.heap.size := by obtain ⟨m, hm⟩ := k0; exact DataW.trod_lt m _ _ _ hm
  obtain ⟨a0, cap0, l0, rfl, n0, w0⟩ := HFr.open_poly (hval 0 23 v0 rfl rfl) h0
  have k1 := h1
  have lt1 : ∀ x ∈ p1, x.block < W.heap.size := by obtain ⟨m, hm⟩ := k1; exact DataW.trod_lt m _ _ _ hm
  obtain ⟨a1, cap1, l1, rfl, n1, w1⟩ := HFr.open_poly (hval 1 23 v1 rfl rfl) h1
  clear hA0 hval0
  refine (walk a0 cap0 l0 n0 w0 a1 cap1 l1 n1 w1 W rfl).mono fun e W' ⟨he, bel⟩ => ?_
  subst he
  exact ⟨_, rfl, _, _, _, [], _, [], hW', trodAll_mk1 (shut_bool Try.underlying4 _), (trodAll_cons_mk (Below.trod HFr.laidOut (by kernel_rfl) (of_decide_eq_true (by kernel_rfl)) k0 bel lt0) (trodAll_cons_mk (Below.trod HFr.laidOut (by kernel_rfl) (of_decide_eq_true (by kernel_rfl)) k1 bel lt1) trodAll_mk0)), rfl, bel.frame _, fun h => by cases h⟩

/-- THE STATEMENT. -/
theorem holds : Rows.TopDisjointFeaturesSaid :=
  OpenClaim.holds_of_wide 12 Try.f12 rfl rfl rfl rfl rfl rfl rfl ⟨rfl, rfl, rfl, rfl, rfl⟩ rfl rfl rfl rfl rfl (by kernel_rfl) Try.func12 (by kernel_rfl)
    (of_decide_eq_true (by kernel_rfl)) (by unfold Func.isWrapper; first | (rw [if_pos (by decide +kernel)]; kernel_rfl) | (rw [if_neg (by decide +kernel)]; exact ⟨rfl, rfl⟩))
    (fun os started H enc _ => lifted os started H enc)
#print axioms holds
end Go.Proofs.Ytojfonenpplahaa.topDisjointFeatures
