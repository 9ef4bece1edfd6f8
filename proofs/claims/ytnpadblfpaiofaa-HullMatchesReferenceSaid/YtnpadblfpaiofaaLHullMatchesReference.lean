/- Proved: Of, IsConvex and, for valid polygons, Decompose answer as the reference does (the law HullMatchesReference returns true).
Conditions: none on the arguments. -/
import Derived.Test.YtnpadblfpaiofaaHmG
import Derived.Test.YtnpadblfpaiofaaHmF
import Derived.Test.YtnpadblfpaiofaaHlU
import Derived.Test.YtnpadblfpaiofaaHlO
import Derived.Test.YtnpadblfpaiofaaHlN
import Derived.Test.YtnpadblfpaiofaaHmH
import Derived.Test.YtnpadblfpaiofaaHlFr
namespace Go.Proofs.Ytnpadblfpaiofaa.hullMatchesReference
open Go.ChangeShapes Go.WideShapes Go.ChangeAt Go.RowKit
set_option linter.unusedVariables false
set_option linter.unusedSimpArgs false

theorem hull_short {l : List (Int × Int)} (h : l.length < 3) : hullL l = [] := by
  rcases hull_cases l with ⟨h0, _⟩ | ⟨h0, hH⟩
  · exact h0
  · exfalso
    have := pigeon (hullL l) l (conv_nodup hH.1) fun q hq => by obtain ⟨i, hi, e⟩ := mem_gp hq; rw [← e]; exact hH.2.1 i hi
    have := hH.1.1
    omega
theorem of4_any (ao : Option Addr) (n cap : Nat) (l us : List (Int × Int)) (t : Bool) (w : World) (hn : l.length = n) (hu : Hid (hullL l = us)) (ht : Hid (decide (us ≠ []) = t)) (hle : n ≤ 1000) (hP : PRow w ao l) (hV : AllV l) :
    Calls Try.prog 13 #[.slice ao n cap] w fun e w' => (∃ a c, e = .returned (.tuple #[.slice a us.length c, .bool t]) ∧ PRow w' a us) ∧ Below w.heap.size w w' := by
  by_cases h3 : 3 ≤ n
  · exact of4_is ao n cap l us t w hn hu ht h3 hle hP hV
  · have e : us = [] := by rw [← hu.out]; exact hull_short (by omega)
    subst e
    obtain rfl : t = false := by rw [← ht.out]; rfl
    exact (of4_small ao n cap w (by omega)).mono fun e w' ⟨h1, h2⟩ => ⟨⟨none, 0, h1, fun i hi => absurd hi (by simp)⟩, h2⟩
theorem hull_allV {l : List (Int × Int)} (h : AllV l) : (hullL l).length ≤ l.length := by
  rcases hull_cases l with ⟨h0, _⟩ | ⟨h0, hH⟩
  · rw [h0]; simp
  · exact pigeon (hullL l) l (conv_nodup hH.1) fun q hq => by obtain ⟨i, hi, e⟩ := mem_gp hq; rw [← e]; exact hH.2.1 i hi

theorem fits_bl (ao : Option Addr) (n cap : Nat) (l : List (Int × Int)) (t : Bool) (w : World) (hn : l.length = n) (ht : Hid (fitsL l = t)) (hle : n ≤ 9223372036854775807) (hP : PRow w ao l) :
    Calls Try.prog 11 #[.slice ao n cap] w fun e w' => e = .returned (.bool t) ∧ Below w.heap.size w w' := (fits_is ao n cap l t w hn ht hle hP).mono fun e w' ⟨h1, h2⟩ => ⟨h1, h2 ▸ Below.refl _ _⟩
set_option maxRecDepth 100000 in
set_option maxHeartbeats 16000000 in
theorem walk {w : World} (ao : Option Addr) (ca : Nat) (a : List (Int × Int)) (na : a.length ≤ 9223372036854775807) (hA : PRow w ao a) (bo : Option Addr) (cb : Nat) (b : List (Int × Int)) (nbc : b.length ≤ 9223372036854775807 ∧ b.length ≤ cb) (hB : PRow w bo b) (W' : World) (hw : w = W') :
    Calls Try.prog 3 #[.slice ao a.length ca, .slice bo b.length cb] w fun e w' => e = .returned (.bool true) ∧ Below w.heap.size w w' := by
  obtain ⟨nb, ncb⟩ := nbc
  have PA := Lib.hid hA
  have PB := Lib.hid hB
  clear hA hB hw
  go_enter Try.func3, Try.ntmps3
  go_wp2_with fail
  refine (head_is _).mono ?_
  rintro e w1 ⟨rfl, hb1⟩
  replace PA := Lib.hid (prow_below PA.out hb1)
  replace PB := Lib.hid (prow_below PB.out hb1)
  have B := Lib.hid (belT (Below.refl _ w) hb1)
  clear hb1
  obtain ⟨ta, ht⟩ : ∃ t, fitsL a = t := ⟨_, rfl⟩
  have HA := Lib.hid ht
  clear ht
  go_wp2_with fail
  refine (fits_bl ao _ ca a ta _ rfl HA na PA.out).mono ?_
  rintro e w2 ⟨rfl, hb2⟩
  replace PA := Lib.hid (prow_below PA.out hb2)
  replace PB := Lib.hid (prow_below PB.out hb2)
  replace B := Lib.hid (belT B.out hb2)
  clear hb2
  obtain ⟨tb, ht⟩ : ∃ t, fitsL b = t := ⟨_, rfl⟩
  have HB := Lib.hid ht
  clear ht
  go_wp2_with fail
  refine (fits_bl bo _ cb b tb _ rfl HB nb PB.out).mono ?_
  rintro e w3 ⟨rfl, hb3⟩
  replace PA := Lib.hid (prow_below PA.out hb3)
  replace PB := Lib.hid (prow_below PB.out hb3)
  replace B := Lib.hid (belT B.out hb3)
  clear hb3
  cases ta with
  | false =>
    cases tb with
    | false =>
      go_wp2_with fail
      go_ret
      exact ⟨rfl, B.out⟩
    | true =>
      go_wp2_with fail
      go_ret
      exact ⟨rfl, B.out⟩
  | true =>
  cases tb with
  | false =>
    go_wp2_with fail
    go_ret
    exact ⟨rfl, B.out⟩
  | true =>
  obtain ⟨a40, hv⟩ := (fitsL_iff a).1 HA.out
  have VA := Lib.hid hv
  clear hv
  obtain ⟨b40, hv⟩ := (fitsL_iff b).1 HB.out
  have VB := Lib.hid hv
  clear hv
  obtain ⟨H, hH⟩ : ∃ H, hullL a = H := ⟨_, rfl⟩
  have HH := Lib.hid hH
  have hHl : H.length ≤ 40 := by rw [← hH]; have := hull_allV VA.out; omega
  clear hH
  obtain ⟨t, ht⟩ : ∃ t, decide (H ≠ []) = t := ⟨_, rfl⟩
  have HT := Lib.hid ht
  clear ht
  go_wp2_with fail
  refine (of_is ao _ ca a H t _ rfl HH HT (by omega) PA.out VA.out).mono ?_
  rintro e w4 ⟨⟨uo, uc, rfl, hp⟩, hb4⟩
  replace PA := Lib.hid (prow_below PA.out hb4)
  replace PB := Lib.hid (prow_below PB.out hb4)
  replace B := Lib.hid (belT B.out hb4)
  clear hb4
  have Pu := Lib.hid hp
  clear hp
  go_wp2_with fail
  refine (of4_any ao _ ca a H t _ rfl HH HT (by omega) PA.out VA.out).mono ?_
  rintro e w5 ⟨⟨vo, vc, rfl, hp⟩, hb5⟩
  replace PA := Lib.hid (prow_below PA.out hb5)
  replace PB := Lib.hid (prow_below PB.out hb5)
  replace Pu := Lib.hid (prow_below Pu.out hb5)
  replace B := Lib.hid (belT B.out hb5)
  clear hb5
  have Pv := Lib.hid hp
  clear hp
  go_wp2_with fail
  refine (same_is uo vo _ _ uc vc H H true _ rfl rfl (Lib.hid (decide_eq_true rfl)) (by omega) (by omega) Pu.out Pv.out).mono ?_
  rintro e w6 ⟨rfl, hb6⟩
  replace PA := Lib.hid (prow_below PA.out hb6)
  replace PB := Lib.hid (prow_below PB.out hb6)
  replace Pu := Lib.hid (prow_below Pu.out hb6)
  replace Pv := Lib.hid (prow_below Pv.out hb6)
  replace B := Lib.hid (belT B.out hb6)
  clear hb6
  obtain ⟨c, hc⟩ : ∃ c, convB b = c := ⟨_, rfl⟩
  have HC := Lib.hid hc
  clear hc
  go_wp2_with fail
  refine (conv_is bo _ cb b c _ rfl HC (by omega) PB.out VB.out).mono ?_
  rintro e w7 ⟨rfl, hb7⟩
  replace PA := Lib.hid (prow_below PA.out hb7)
  replace PB := Lib.hid (prow_below PB.out hb7)
  replace B := Lib.hid (belT B.out hb7)
  clear hb7
  go_wp2_with fail
  refine (conv4_is bo _ cb b c _ rfl HC (by omega) PB.out VB.out).mono ?_
  rintro e w8 ⟨rfl, hb8⟩
  replace PA := Lib.hid (prow_below PA.out hb8)
  replace PB := Lib.hid (prow_below PB.out hb8)
  replace B := Lib.hid (belT B.out hb8)
  clear hb8
  obtain ⟨r, hr⟩ : ∃ r, validP b = r := ⟨_, rfl⟩
  have HR := Lib.hid hr
  clear hr
  go_wp2_with fail
  refine (right4_is bo _ cb b r _ rfl HR (by omega) PB.out).mono ?_
  rintro e w9 ⟨rfl, hb9⟩
  replace PA := Lib.hid (prow_below PA.out hb9)
  replace PB := Lib.hid (prow_below PB.out hb9)
  replace B := Lib.hid (belT B.out hb9)
  clear hb9
  cases r with
  | false =>
    go_wp2_with fail
    go_ret
    exact ⟨rfl, B.out⟩
  | true =>
  obtain ⟨us, hus⟩ : ∃ us, decL b = us := ⟨_, rfl⟩
  have HU := Lib.hid hus
  have h0 : 0 < b.length := by have := (valid_parts HR.out).1; omega
  obtain ⟨u0, u12, up⟩ := dec_few HR.out
  rw [hus] at u0 u12 up
  have UL : AllLen us 1000 := fun i hi => by have := (up _ (getD_mem' hi)).2.1; omega
  have HUL := Lib.hid UL
  clear hus up UL
  go_wp2_with fail
  refine (decompose_is bo _ cb b us _ rfl HU h0 (by omega) PB.out VB.out).mono ?_
  rintro e w10 ⟨⟨po, pc, rfl, hp⟩, hb10⟩
  replace PA := Lib.hid (prow_below PA.out hb10)
  replace PB := Lib.hid (prow_below PB.out hb10)
  replace B := Lib.hid (belT B.out hb10)
  clear hb10
  have Qp := Lib.hid hp
  clear hp
  go_wp2_with fail
  refine (parts4_is bo _ cb b us _ rfl HU HR (by omega) ncb PB.out VB.out).mono ?_
  rintro e w11 ⟨⟨qo, qc, rfl, hp⟩, hb11⟩
  have Qp' := Lib.hid (prows_below Qp.out hb11)
  replace PA := Lib.hid (prow_below PA.out hb11)
  replace PB := Lib.hid (prow_below PB.out hb11)
  replace B := Lib.hid (belT B.out hb11)
  clear hb11
  have Qq := Lib.hid hp
  clear hp
  go_wp2_with fail
  refine (sameAll_is po qo _ _ pc qc us us true _ rfl rfl (Lib.hid (decide_eq_true rfl)) (by omega) HUL.out HUL.out Qp'.out Qq.out).mono ?_
  rintro e w12 ⟨rfl, hb12⟩
  replace PA := Lib.hid (prow_below PA.out hb12)
  replace PB := Lib.hid (prow_below PB.out hb12)
  replace B := Lib.hid (belT B.out hb12)
  clear hb12
  go_wp2_with fail
  go_ret
  exact ⟨rfl, B.out⟩

set_option maxRecDepth 100000 in
theorem lifted (os : Os) (started : os.Started) (H : Type) (enc : TypeId × Value → H) :
    ReturnsInHanded {} Try.checked os 3 .any (Rows.hullMatchesReferenceSpec.pre6 enc Try.prog Try.f3 Rows.hullMatchesReferenceRow.domain false) (Rows.hullMatchesReferenceSpec.post enc Try.prog Try.f3 false true false false) := by
  refine returnsInHanded_of_change (C := Try.checked) HFr.own started (by kernel_rfl) Try.func3
    (ChangeSpec.witness6 (enc := enc) (C := Try.checked) false ⟨#[], #[.slice none 0 0, .slice none 0 0], []⟩ 8 (by kernel_rfl) (by kernel_rfl) (by kernel_rfl) (by kernel_rfl)) ?_
  intro W base args ds gs before hval0 hW hcnd _
  have hval : ∀ (j : Nat) t v, Try.f3.params[j]? = some t → args[j]? = some v → Value.okWide Try.prog W .any base t v := hval0
  have hW' := hW
  obtain ⟨p, q, hA0, hV, rfl, hfz, hnd⟩ := hW
  have hA : DataW.TrodAll enc Try.prog W 0 (fun _ => true) true Try.f3.params.toList args.toList ds p := hA0
  rw [Try.params3] at hA hval
  obtain ⟨v0, vs0, d0, ds0, p0, q0, hargs, rfl, rfl, h0, r0⟩ := trodAll_cons hA
  obtain ⟨v1, vs1, d1, ds1, p1, q1, rfl, rfl, rfl, h1, r1⟩ := trodAll_cons r0
  obtain ⟨rfl, rfl, rfl⟩ := trodAll_nil r1
  obtain rfl : args = #[v0, v1] := by cases args; simp_all
  obtain ⟨rfl, rfl⟩ := trodVars_none hV
  have k0 := h0
  have lt0 : ∀ x ∈ p0, x.block < W.heap.size := by obtain ⟨m, hm⟩ := k0; exact DataW.trod_lt m _ _ _ hm
  obtain ⟨a0, cap0, l0, rfl, n0, w0⟩ := HFr.open_pts (hval 0 22 v0 rfl rfl) h0
  have k1 := h1
  have lt1 : ∀ x ∈ p1, x.block < W.heap.size := by obtain ⟨m, hm⟩ := k1; exact DataW.trod_lt m _ _ _ hm
  obtain ⟨a1, cap1, l1, rfl, n1, w1⟩ := HFr.open_polyc (hval 1 23 v1 rfl rfl) h1
  clear hA0 hval0
  refine (walk a0 cap0 l0 n0 w0 a1 cap1 l1 n1 w1 W rfl).mono fun e W' ⟨he, bel⟩ => ?_
  subst he
  exact ⟨_, rfl, _, _, _, [], _, [], hW', trodAll_mk1 (shut_bool Try.underlying4 _), (trodAll_cons_mk (Below.trod HFr.laidOut (by kernel_rfl) (of_decide_eq_true (by kernel_rfl)) k0 bel lt0) (trodAll_cons_mk (Below.trod HFr.laidOut (by kernel_rfl) (of_decide_eq_true (by kernel_rfl)) k1 bel lt1) trodAll_mk0)), rfl, bel.frame _, fun h => by cases h⟩

/-- THE STATEMENT. -/
theorem holds : Rows.HullMatchesReferenceSaid :=
  OpenClaim.holds_of_wide 3 Try.f3 rfl rfl rfl rfl rfl rfl rfl ⟨rfl, rfl, rfl, rfl, rfl⟩ rfl rfl rfl rfl rfl (by kernel_rfl) Try.func3 (by kernel_rfl)
    (of_decide_eq_true (by kernel_rfl)) (by unfold Func.isWrapper; first | (rw [if_pos (by decide +kernel)]; kernel_rfl) | (rw [if_neg (by decide +kernel)]; exact ⟨rfl, rfl⟩))
    (fun os started H enc _ => lifted os started H enc)
#print axioms holds
end Go.Proofs.Ytnpadblfpaiofaa.hullMatchesReference
