/- Proved: the parts of a valid polygon are strictly convex triangles, their corners are corners of the polygon, their areas add up to its area, and a strictly convex polygon is its own only part (the law HullPartsPreserveArea returns true).
Conditions: none on the arguments. -/
import Derived.Test.YtjgkipgllpelhaaHlU
import Derived.Test.YtjgkipgllpelhaaHlQ
import Derived.Test.YtjgkipgllpelhaaHlN
import Derived.Test.YtjgkipgllpelhaaHuG
import Derived.Test.YtjgkipgllpelhaaHlFr
namespace Go.Proofs.Ytjgkipgllpelhaa.hullPartsPreserveArea
open Go.ChangeShapes Go.WideShapes Go.ChangeAt Go.RowKit
set_option linter.unusedVariables false
set_option linter.unusedSimpArgs false

set_option maxRecDepth 100000 in
set_option maxHeartbeats 8000000 in
theorem walk_w {w : World} (ao : Option Addr) (cap : Nat) (ps : List (Int × Int)) (nl : ps.length ≤ 9223372036854775807) (hP : PRow w ao ps) :
    Calls Try.prog 7 #[.slice ao ps.length cap] w fun e w' => e = .returned (.bool true) ∧ Below w.heap.size w w' := by
  have HP := Lib.hid hP
  clear hP
  go_enter Try.func7, Try.ntmps7
  go_wp2_with fail
  refine (head_is _).mono ?_
  rintro e w1 ⟨rfl, b1⟩
  have B1 := Lib.hid b1
  have P1 := Lib.hid (prow_below HP.out b1)
  clear b1
  by_cases h12 : 12 < ps.length
  · have h12' : (12 : Int) < ps.length := by omega
    go_wp2
    go_ret
    exact ⟨rfl, B1.out⟩
  have h12' : ¬ (12 : Int) < ps.length := by omega
  obtain ⟨t, ht⟩ : ∃ t, validP ps = t := ⟨_, rfl⟩
  have HT := Lib.hid ht
  clear ht
  go_wp2_with fail
  refine (right4_is ao _ cap ps t w1 rfl HT nl P1.out).mono ?_
  rintro e w2 ⟨rfl, hb⟩
  have B2 := Lib.hid (B1.out.trans (hb.mono B1.out.size))
  have P2 := Lib.hid (prow_below P1.out hb)
  clear hb
  cases t with
  | false =>
    go_wp2
    go_ret
    exact ⟨rfl, B2.out⟩
  | true =>
  obtain ⟨h3, _, hV⟩ := valid_parts HT.out
  have HV := Lib.hid hV
  obtain ⟨us, hus⟩ : ∃ us, decL ps = us := ⟨_, rfl⟩
  obtain ⟨c, hc⟩ : ∃ c, convB ps = c := ⟨_, rfl⟩
  have HU := Lib.hid hus
  have HC := Lib.hid hc
  clear hV hus hc
  go_wp2_with fail
  refine (decompose_is ao _ cap ps us w2 rfl HU (by omega) (by omega) P2.out HV.out).mono ?_
  rintro e w3 ⟨⟨bo, cb, rfl, hp⟩, hb⟩
  have B3 := Lib.hid (B2.out.trans (hb.mono B2.out.size))
  have P3 := Lib.hid (prow_below P2.out hb)
  have Q3 := Lib.hid hp
  clear hb hp
  go_wp2_with fail
  refine (conv_is ao _ cap ps c w3 rfl HC (by omega) P3.out HV.out).mono ?_
  rintro e w4 ⟨rfl, hb⟩
  have B4 := Lib.hid (B3.out.trans (hb.mono B3.out.size))
  have P4 := Lib.hid (prow_below P3.out hb)
  have Q4 := Lib.hid (prows_below Q3.out hb)
  clear hb
  cases c with
  | true =>
    obtain rfl : us = [ps] := by rw [← HU.out]; exact dec_conv HC.out
    have hn : ([ps] : List (List (Int × Int))).length = 1 := rfl
    go_wp2_with fail
    have P5 := Lib.hid (prow_below P4.out (belA (Below.refl _ w4) (.cells #[.slice ao ps.length cap] 23)))
    have Q5 := Lib.hid (prows_below Q4.out (belA (Below.refl _ w4) (.cells #[.slice ao ps.length cap] 23)))
    have B5 := Lib.hid (belA B4.out (.cells #[.slice ao ps.length cap] 23))
    have hx := blk_cell (blk_new w4 (.cells #[.slice ao ps.length cap] 23) _ rfl) 0 _ rfl
    refine (sameAll_is bo (some ⟨w4.heap.size, 0, none⟩) 1 1 cb 1 [ps] [ps] true _ rfl rfl (Lib.hid (by simp)) (by simp) (by intro i hi; simp at hi; subst hi; simp; omega) (by intro i hi; simp at hi; subst hi; simp; omega) Q5.out (by
      intro i hi
      simp at hi
      subst hi
      exact ⟨w4.heap.size, 0, ao, cap, rfl, by simp [hx], P5.out⟩)).mono ?_
    rintro e w5 ⟨rfl, hb⟩
    have B6 := Lib.hid (B5.out.trans (hb.mono B5.out.size))
    clear hb hx
    go_wp2
    go_ret
    exact ⟨rfl, B6.out⟩
  | false =>
    have hcl : Clips ps us := by rw [← HU.out]; exact dec_clips HT.out HC.out
    have hln := clips_len hcl
    have hG : Good ps := (ccw_valid HT.out).good
    have HPT : Hid (∀ k, k < us.length → (us.getD k []).length = 3 ∧ convB (us.getD k []) = true ∧ (∀ y, y ∈ us.getD k [] → y ∈ ps) ∧ AllV (us.getD k [])) := Lib.hid (fun k hk => by
      obtain ⟨q1, q2, q3⟩ := hcl.part hG (getD_mem' hk)
      exact ⟨q1, (convB_iff _).2 (tri_conv3 q1 q2), q3, allV_sub HV.out q3⟩)
    have hpos : ∀ t, t ∈ us → 0 ≤ area2 t := fun t ht => by
      obtain ⟨q1, q2, _⟩ := hcl.part hG ht
      rw [area_tri q1]; omega
    have HSA : Hid (sumA us = area2 ps) := Lib.hid (hcl.area hG)
    have HBD : Hid (∀ k, 0 ≤ sumA (us.take k) ∧ sumA (us.take k) ≤ 6000000000000000000) := Lib.hid (fun k => by
      have e1 := sumA_pre hpos k
      have e2 := (area_bd HV.out h3 (by omega)).2
      rw [← HSA.out] at e2
      omega)
    clear hcl hpos hG
    go_wp2
    go_loopw [7, 8] (fun s i wr => ∃ k : Nat, k ≤ us.length ∧ i = .int .i64 k ∧ s = .int .i64 (sumA (us.take k)) ∧ Below w4.heap.size w4 wr) (fun _ i _ => us.length - (intOf i).toNat)
    case atStart => exact ⟨0, Nat.zero_le _, rfl, rfl, Below.refl _ _⟩
    case round =>
      obtain ⟨k, hk, rfl, rfl, hB⟩ := hrel
      by_cases hlt : k < us.length
      · obtain ⟨q1, q2, q3, q4⟩ := HPT.out k hlt
        obtain ⟨b, o, ro, rc, rfl, c1, hpr⟩ := Q4.out k hlt
        have HSN := Lib.hid (sumA_take hlt)
        have HS1 := Lib.hid (HBD.out k)
        have HS2 := Lib.hid (HBD.out (k + 1))
        have hki : (k : Int) < us.length := by omega
        have zb : b < w4.heap.size := World.block_lt_of_cell? w4 _ c1
        have R1 := Lib.hid (prow_below hpr hB)
        have d1 := (hB.cell zb).trans c1
        have HB := Lib.hid hB
        have C1 := Lib.hid c1
        have HPR := Lib.hid hpr
        rw [q1] at d1 C1
        generalize us.getD k [] = T at *
        have Q2 := Lib.hid q2
        have Q3' := Lib.hid q3
        have QV := Lib.hid q4
        have h33 : ((3 : Nat) : Int) = 3 := rfl
        generalize hS : sumA (us.take k) = S at *
        generalize hS' : sumA (us.take (k + 1)) = S' at *
        clear hB c1 hpr q2 q3 q4 hS
        go_wp2_with fail
        refine (conv_is ro 3 rc T true wr q1 Q2 (by omega) R1.out QV.out).mono ?_
        rintro e w5 ⟨rfl, hb⟩
        have HB5 := Lib.hid (HB.out.trans (hb.mono HB.out.size))
        clear hb d1 HB R1
        go_wp2
        go_loopw [9] (fun i wr => ∃ m : Nat, m ≤ 3 ∧ i = .int .i64 m ∧ Below w4.heap.size w4 wr) (fun i _ => 3 - (intOf i).toNat)
        case atStart => exact ⟨0, Nat.zero_le _, rfl, HB5.out⟩
        case round =>
          obtain ⟨m, hm, rfl, hB⟩ := hrel
          by_cases hml : m < 3
          · have hmi : (m : Int) < 3 := by omega
            have R1 := prow_below HPR.out hB
            obtain ⟨b', o', rfl, c1, c2⟩ := prow_at R1 (show m < T.length by omega)
            have d1 := (hB.cell (p := ⟨b, o + k, none⟩) zb).trans C1.out
            have P5 := Lib.hid (prow_below P4.out hB)
            have HM : Hid (decide ((cx T m, cy T m) ∈ ps) = true) := Lib.hid (decide_eq_true (Q3'.out _ (mem_corner (by omega))))
            have HB := Lib.hid hB
            clear hB R1
            generalize cx T m = X at *
            generalize cy T m = Y at *
            go_wp2_with fail
            refine (has_is ao _ cap X Y ps true _ rfl HM (by omega) P5.out).mono ?_
            rintro e w6 ⟨rfl, hb⟩
            have HB6 := Lib.hid (HB.out.trans (hb.mono HB.out.size))
            clear hb d1 c1 c2 HB
            go_wp2
            go_roundw
            case rel => exact ⟨m + 1, by omega, by go_num, HB6.out⟩
            case measure => simp [intOf]; omega
          · obtain rfl : m = 3 := by omega
            have d1 := (hB.cell (p := ⟨b, o + k, none⟩) zb).trans C1.out
            have R1 := Lib.hid (prow_below HPR.out hB)
            have HB := Lib.hid hB
            obtain ⟨v, hv⟩ : ∃ v, area2 T = v := ⟨_, rfl⟩
            have HVV := Lib.hid hv
            rw [hv] at HSN
            clear hB hv
            go_wp2_with fail
            refine (area4_is ro 3 rc T v _ q1 HVV (by omega) (by omega) R1.out QV.out).mono ?_
            rintro e w6 ⟨rfl, hb⟩
            have HB6 := Lib.hid (HB.out.trans (hb.mono HB.out.size))
            have hsv : S + v = S' := HSN.out.symm
            obtain ⟨s1, s2⟩ := HS1.out
            obtain ⟨s3, s4⟩ := HS2.out
            clear hb d1 HB
            go_wp2
            go_roundw
            case rel => exact ⟨k + 1, by omega, by go_num, by rw [hS', ← hsv], HB6.out⟩
            case measure => simp [intOf]; omega
      · obtain rfl : k = us.length := by omega
        have P5 := Lib.hid (prow_below P4.out hB)
        have HB := Lib.hid (B4.out.trans (hB.mono B4.out.size))
        have HA : Hid (area2 ps = sumA (us.take us.length)) := Lib.hid (by rw [List.take_length]; exact HSA.out.symm)
        have hl2 : ((us.length : Int) == (ps.length : Int) - 2) = true := by rw [beq_iff_eq]; omega
        clear hB
        generalize sumA (us.take us.length) = S at *
        go_wp2_with fail
        refine (area4_is ao _ cap ps S _ rfl HA (by omega) (by omega) P5.out HV.out).mono ?_
        rintro e w6 ⟨rfl, hb⟩
        have HB6 := Lib.hid (HB.out.trans (hb.mono HB.out.size))
        clear hb HB
        go_wp2
        go_ret
        exact ⟨rfl, HB6.out⟩

theorem walk {W : World} (ao : Option Addr) (cap : Nat) (ps : List (Int × Int)) (nl : ps.length ≤ 9223372036854775807) (hP : PRow W ao ps) (W' : World) (hw : W = W') :
    Calls Try.prog 7 #[.slice ao ps.length cap] W fun e w' => e = .returned (.bool true) ∧ Below W.heap.size W w' := walk_w ao cap ps nl hP

set_option maxRecDepth 100000 in
theorem lifted (os : Os) (started : os.Started) (H : Type) (enc : TypeId × Value → H) :
    ReturnsInHanded {} Try.checked os 7 .any (Rows.hullPartsPreserveAreaSpec.pre6 enc Try.prog Try.f7 Rows.hullPartsPreserveAreaRow.domain false) (Rows.hullPartsPreserveAreaSpec.post enc Try.prog Try.f7 false true false false) := by
  refine returnsInHanded_of_change (C := Try.checked) HFr.own started (by kernel_rfl) Try.func7
    (ChangeSpec.witness6 (enc := enc) (C := Try.checked) false ⟨#[], #[.slice none 0 0], []⟩ 8 (by kernel_rfl) (by kernel_rfl) (by kernel_rfl) (by kernel_rfl)) ?_
  intro W base args ds gs before hval0 hW hcnd _
  have hval : ∀ (j : Nat) t v, Try.f7.params[j]? = some t → args[j]? = some v → Value.okWide Try.prog W .any base t v := hval0
  have hW' := hW
  obtain ⟨p, q, hA0, hV, rfl, hfz, hnd⟩ := hW
  have hA : DataW.TrodAll enc Try.prog W 0 (fun _ => true) true Try.f7.params.toList args.toList ds p := hA0
  rw [Try.params7] at hA hval
  obtain ⟨v0, vs0, d0, ds0, p0, q0, hargs, rfl, rfl, h0, r0⟩ := trodAll_cons hA
  obtain ⟨rfl, rfl, rfl⟩ := trodAll_nil r0
  obtain rfl : args = #[v0] := by cases args; simp_all
  obtain ⟨rfl, rfl⟩ := trodVars_none hV
  have k0 := h0
  have lt0 : ∀ x ∈ p0, x.block < W.heap.size := by obtain ⟨m, hm⟩ := k0; exact DataW.trod_lt m _ _ _ hm
  obtain ⟨a0, cap0, l0, rfl, n0, w0⟩ := HFr.open_poly (hval 0 23 v0 rfl rfl) h0
  clear hA0 hval0
  refine (walk a0 cap0 l0 n0 w0 W rfl).mono fun e W' ⟨he, bel⟩ => ?_
  subst he
  exact ⟨_, rfl, _, _, _, [], _, [], hW', trodAll_mk1 (shut_bool Try.underlying4 _), (trodAll_cons_mk (Below.trod HFr.laidOut (by kernel_rfl) (of_decide_eq_true (by kernel_rfl)) k0 bel lt0) trodAll_mk0), rfl, bel.frame _, fun h => by cases h⟩

/-- THE STATEMENT. -/
theorem holds : Rows.HullPartsPreserveAreaSaid :=
  OpenClaim.holds_of_wide 7 Try.f7 rfl rfl rfl rfl rfl rfl rfl ⟨rfl, rfl, rfl, rfl, rfl⟩ rfl rfl rfl rfl rfl (by kernel_rfl) Try.func7 (by kernel_rfl)
    (of_decide_eq_true (by kernel_rfl)) (by unfold Func.isWrapper; first | (rw [if_pos (by decide +kernel)]; kernel_rfl) | (rw [if_neg (by decide +kernel)]; exact ⟨rfl, rfl⟩))
    (fun os started H enc _ => lifted os started H enc)
#print axioms holds
end Go.Proofs.Ytjgkipgllpelhaa.hullPartsPreserveArea
