/- Proved: where a separating edge of a convex polygon is shown, the polygons do not meet and no contact is a witness (the law IntersectSeparatorSound returns true).
Conditions: none on the arguments. -/
import Derived.Test.YtojfonenpplahaaIxH
import Derived.Test.YtojfonenpplahaaIxI
import Derived.Test.YtojfonenpplahaaHlFr
namespace Go.Proofs.Ytojfonenpplahaa.intersectSeparatorSound
open Go.ChangeShapes Go.WideShapes Go.ChangeAt Go.RowKit
set_option linter.unusedVariables false
set_option linter.unusedSimpArgs false

theorem con_touch {a b : List (Int × Int)} {k i j : Int} (h : isConB a b k i j = true) : touchB a b = true := by
  rw [touch_iff]
  unfold isConB at h
  split at h
  · rw [Bool.and_eq_true, Bool.and_eq_true, decide_eq_true_eq, decide_eq_true_eq] at h
    exact .inl ⟨_, _, by omega, by omega, h.2.2⟩
  · split at h
    · rw [Bool.and_eq_true, Bool.and_eq_true, decide_eq_true_eq, decide_eq_true_eq] at h
      exact .inr (.inl ⟨_, by omega, h.2.2⟩)
    · split at h
      · rw [Bool.and_eq_true, Bool.and_eq_true, decide_eq_true_eq, decide_eq_true_eq] at h
        exact .inr (.inr ⟨_, by omega, h.2.2⟩)
      · cases h
theorem sound {a b : List (Int × Int)} (hA : validP a = true) (hB : validP b = true) {o e : Int} (h : isSepB a b o e = true) (wa : weakB a = true ∨ ¬ o = 0) (wb : weakB b = true ∨ ¬ o = 1) : touchB a b = false := by
  have gA := (ccw_valid hA).good
  have gB := (ccw_valid hB).good
  unfold isSepB at h
  split at h
  · rename_i g
    rw [Bool.and_eq_true, decide_eq_true_eq] at h
    rcases wa with wa | wa
    · exact right_sound gA gB (i := e.toNat) (by omega) (weakB_iff.1 wa _ (by omega)) h.2
    · exact absurd g wa
  · split at h
    · rename_i g
      rw [Bool.and_eq_true, decide_eq_true_eq] at h
      rcases wb with wb | wb
      · rw [touch_comm]; exact right_sound gB gA (i := e.toNat) (by omega) (weakB_iff.1 wb _ (by omega)) h.2
      · exact absurd g wb
    · cases h

set_option maxRecDepth 100000 in
set_option maxHeartbeats 8000000 in
theorem walk {w : World} (ao : Option Addr) (ca : Nat) (a : List (Int × Int)) (na : a.length ≤ 9223372036854775807) (hA : PRow w ao a) (bo : Option Addr) (cb : Nat) (b : List (Int × Int)) (nb : b.length ≤ 9223372036854775807) (hB : PRow w bo b) (o e : Int) (q i j : Int) (W' : World) (hw : w = W') :
    Calls Try.prog 7 #[.slice ao a.length ca, .slice bo b.length cb, .agg #[.int .i64 o, .int .i64 e], .agg #[.int .i64 q, .int .i64 i, .int .i64 j]] w fun e w' => e = .returned (.bool true) ∧ Below w.heap.size w w' := by
  have PA := Lib.hid hA
  have PB := Lib.hid hB
  clear hA hB hw
  go_enter Try.func7, Try.ntmps7
  go_wp2_with fail
  refine (head5_is _).mono ?_
  rintro e w1 ⟨rfl, hb1⟩
  replace PA := Lib.hid (prow_below (prow_alloc (prow_alloc PA.out (.cells #[.int .i64 o, .int .i64 e] 35)) (.cells #[.int .i64 q, .int .i64 i, .int .i64 j] 37)) hb1)
  replace PB := Lib.hid (prow_below (prow_alloc (prow_alloc PB.out (.cells #[.int .i64 o, .int .i64 e] 35)) (.cells #[.int .i64 q, .int .i64 i, .int .i64 j] 37)) hb1)
  have ZS := Lib.hid (blk_call (blk_alloc (blk_new w (.cells #[.int .i64 o, .int .i64 e] 35) (w.heap.size) rfl) (.cells #[.int .i64 q, .int .i64 i, .int .i64 j] 37)) hb1)
  have ZC := Lib.hid (blk_call (blk_new (w.alloc (.cells #[.int .i64 o, .int .i64 e] 35)) (.cells #[.int .i64 q, .int .i64 i, .int .i64 j] 37) (w.heap.size + 1) (by simp)) hb1)
  have B := Lib.hid (belT (belA (belA (Below.refl _ w) (.cells #[.int .i64 o, .int .i64 e] 35)) (.cells #[.int .i64 q, .int .i64 i, .int .i64 j] 37)) hb1)
  clear hb1
  obtain ⟨ta, ht⟩ : ∃ t, validP a = t := ⟨_, rfl⟩
  have HA := Lib.hid ht
  clear ht
  go_wp2_with fail
  refine (small_is ao _ ca a ta _ rfl HA na PA.out).mono ?_
  rintro e w2 ⟨rfl, hb2⟩
  replace PA := Lib.hid (prow_below PA.out hb2)
  replace PB := Lib.hid (prow_below PB.out hb2)
  replace ZS := Lib.hid (blk_call ZS.out hb2)
  replace ZC := Lib.hid (blk_call ZC.out hb2)
  replace B := Lib.hid (belT B.out hb2)
  clear hb2
  cases ta with
  | false =>
    go_wp2_with fail
    go_ret
    exact ⟨rfl, B.out⟩
  | true =>
  obtain ⟨tb, ht⟩ : ∃ t, validP b = t := ⟨_, rfl⟩
  have HB := Lib.hid ht
  clear ht
  go_wp2_with fail
  refine (small_is bo _ cb b tb _ rfl HB nb PB.out).mono ?_
  rintro e w3 ⟨rfl, hb3⟩
  replace PA := Lib.hid (prow_below PA.out hb3)
  replace PB := Lib.hid (prow_below PB.out hb3)
  replace ZS := Lib.hid (blk_call ZS.out hb3)
  replace ZC := Lib.hid (blk_call ZC.out hb3)
  replace B := Lib.hid (belT B.out hb3)
  clear hb3
  cases tb with
  | false =>
    go_wp2_with fail
    go_ret
    exact ⟨rfl, B.out⟩
  | true =>
  obtain ⟨a3, a12, aV⟩ := vparts HA.out
  have VA := Lib.hid aV
  have RA := Lib.hid aV.r2
  clear aV
  obtain ⟨b3, b12, bV⟩ := vparts HB.out
  have VB := Lib.hid bV
  have RB := Lib.hid bV.r2
  clear bV
  obtain ⟨sa, ht⟩ : ∃ t, weakB a = t := ⟨_, rfl⟩
  have SA := Lib.hid ht
  clear ht
  go_wp2_with fail
  refine (cvx_is ao _ ca a sa _ rfl SA a12 PA.out VA.out).mono ?_
  rintro e w4 ⟨rfl, hb4⟩
  replace PA := Lib.hid (prow_below PA.out hb4)
  replace PB := Lib.hid (prow_below PB.out hb4)
  replace ZS := Lib.hid (blk_call ZS.out hb4)
  replace ZC := Lib.hid (blk_call ZC.out hb4)
  replace B := Lib.hid (belT B.out hb4)
  clear hb4
  cases sa with
  | false =>
    by_cases ga : o = 0
    · subst ga
      have c0 := blk_cell ZS.out 0 _ rfl
      have c1 := blk_cell ZS.out 1 _ rfl
      go_wp2_with fail
      go_ret
      exact ⟨rfl, B.out⟩
    · have WA : Hid (weakB a = true ∨ ¬ o = 0) := Lib.hid (.inr ga)
      have ea : (o == 0) = false := beq_eq_false_iff_ne.2 ga
      have c0 := blk_cell ZS.out 0 _ rfl
      have c1 := blk_cell ZS.out 1 _ rfl
      obtain ⟨sb, ht⟩ : ∃ t, weakB b = t := ⟨_, rfl⟩
      have SB := Lib.hid ht
      clear ht
      go_wp2_with fail
      refine (cvx_is bo _ cb b sb _ rfl SB b12 PB.out VB.out).mono ?_
      rintro e w5 ⟨rfl, hb5⟩
      clear c0 c1
      replace PA := Lib.hid (prow_below PA.out hb5)
      replace PB := Lib.hid (prow_below PB.out hb5)
      replace ZS := Lib.hid (blk_call ZS.out hb5)
      replace ZC := Lib.hid (blk_call ZC.out hb5)
      replace B := Lib.hid (belT B.out hb5)
      clear hb5
      cases sb with
      | false =>
        by_cases gb : o = 1
        · subst gb
          have c0 := blk_cell ZS.out 0 _ rfl
          have c1 := blk_cell ZS.out 1 _ rfl
          go_wp2_with fail
          go_ret
          exact ⟨rfl, B.out⟩
        · have WB : Hid (weakB b = true ∨ ¬ o = 1) := Lib.hid (.inr gb)
          have eb : (o == 1) = false := beq_eq_false_iff_ne.2 gb
          obtain ⟨v, ht⟩ : ∃ t, isSepB a b o e = t := ⟨_, rfl⟩
          have HV := Lib.hid ht
          clear ht
          have c0 := blk_cell ZS.out 0 _ rfl
          have c1 := blk_cell ZS.out 1 _ rfl
          go_wp2_with fail
          refine (issep_is ao bo _ _ ca cb a b o e v _ rfl rfl HV a12 b12 PA.out PB.out RA.out RB.out).mono ?_
          rintro e w6 ⟨rfl, hb6⟩
          clear c0 c1
          replace PA := Lib.hid (prow_below PA.out hb6)
          replace PB := Lib.hid (prow_below PB.out hb6)
          replace ZS := Lib.hid (blk_call ZS.out hb6)
          replace ZC := Lib.hid (blk_call ZC.out hb6)
          replace B := Lib.hid (belT B.out hb6)
          clear hb6
          cases v with
          | false =>
            go_wp2_with fail
            go_ret
            exact ⟨rfl, B.out⟩
          | true =>
          have HP := Lib.hid (sound HA.out HB.out HV.out WA.out WB.out)
          have HC : Hid (isConB a b q i j = false) := Lib.hid (b_no fun g => by have := con_touch g; rw [HP.out] at this; cases this)
          go_wp2_with fail
          refine (polygons_is ao bo _ _ ca cb a b false _ rfl rfl HP (by omega) (by omega) a12 b12 PA.out PB.out RA.out RB.out).mono ?_
          rintro e w7 ⟨rfl, hb7⟩
          replace PA := Lib.hid (prow_below PA.out hb7)
          replace PB := Lib.hid (prow_below PB.out hb7)
          replace ZS := Lib.hid (blk_call ZS.out hb7)
          replace ZC := Lib.hid (blk_call ZC.out hb7)
          replace B := Lib.hid (belT B.out hb7)
          clear hb7
          have d0 := blk_cell ZC.out 0 _ rfl
          have d1 := blk_cell ZC.out 1 _ rfl
          have d2 := blk_cell ZC.out 2 _ rfl
          go_wp2_with fail
          refine (iscon_is ao bo _ _ ca cb a b q i j false _ rfl rfl HC (by omega) (by omega) a12 b12 PA.out PB.out RA.out RB.out).mono ?_
          rintro e w8 ⟨rfl, hb8⟩
          clear d0 d1 d2
          replace PA := Lib.hid (prow_below PA.out hb8)
          replace PB := Lib.hid (prow_below PB.out hb8)
          replace ZS := Lib.hid (blk_call ZS.out hb8)
          replace ZC := Lib.hid (blk_call ZC.out hb8)
          replace B := Lib.hid (belT B.out hb8)
          clear hb8
          go_wp2_with fail
          go_ret
          exact ⟨rfl, B.out⟩
      | true =>
      have WB : Hid (weakB b = true ∨ ¬ o = 1) := Lib.hid (.inl SB.out)
      obtain ⟨v, ht⟩ : ∃ t, isSepB a b o e = t := ⟨_, rfl⟩
      have HV := Lib.hid ht
      clear ht
      have c0 := blk_cell ZS.out 0 _ rfl
      have c1 := blk_cell ZS.out 1 _ rfl
      go_wp2_with fail
      refine (issep_is ao bo _ _ ca cb a b o e v _ rfl rfl HV a12 b12 PA.out PB.out RA.out RB.out).mono ?_
      rintro e w6 ⟨rfl, hb6⟩
      clear c0 c1
      replace PA := Lib.hid (prow_below PA.out hb6)
      replace PB := Lib.hid (prow_below PB.out hb6)
      replace ZS := Lib.hid (blk_call ZS.out hb6)
      replace ZC := Lib.hid (blk_call ZC.out hb6)
      replace B := Lib.hid (belT B.out hb6)
      clear hb6
      cases v with
      | false =>
        go_wp2_with fail
        go_ret
        exact ⟨rfl, B.out⟩
      | true =>
      have HP := Lib.hid (sound HA.out HB.out HV.out WA.out WB.out)
      have HC : Hid (isConB a b q i j = false) := Lib.hid (b_no fun g => by have := con_touch g; rw [HP.out] at this; cases this)
      go_wp2_with fail
      refine (polygons_is ao bo _ _ ca cb a b false _ rfl rfl HP (by omega) (by omega) a12 b12 PA.out PB.out RA.out RB.out).mono ?_
      rintro e w7 ⟨rfl, hb7⟩
      replace PA := Lib.hid (prow_below PA.out hb7)
      replace PB := Lib.hid (prow_below PB.out hb7)
      replace ZS := Lib.hid (blk_call ZS.out hb7)
      replace ZC := Lib.hid (blk_call ZC.out hb7)
      replace B := Lib.hid (belT B.out hb7)
      clear hb7
      have d0 := blk_cell ZC.out 0 _ rfl
      have d1 := blk_cell ZC.out 1 _ rfl
      have d2 := blk_cell ZC.out 2 _ rfl
      go_wp2_with fail
      refine (iscon_is ao bo _ _ ca cb a b q i j false _ rfl rfl HC (by omega) (by omega) a12 b12 PA.out PB.out RA.out RB.out).mono ?_
      rintro e w8 ⟨rfl, hb8⟩
      clear d0 d1 d2
      replace PA := Lib.hid (prow_below PA.out hb8)
      replace PB := Lib.hid (prow_below PB.out hb8)
      replace ZS := Lib.hid (blk_call ZS.out hb8)
      replace ZC := Lib.hid (blk_call ZC.out hb8)
      replace B := Lib.hid (belT B.out hb8)
      clear hb8
      go_wp2_with fail
      go_ret
      exact ⟨rfl, B.out⟩
  | true =>
  have WA : Hid (weakB a = true ∨ ¬ o = 0) := Lib.hid (.inl SA.out)
  obtain ⟨sb, ht⟩ : ∃ t, weakB b = t := ⟨_, rfl⟩
  have SB := Lib.hid ht
  clear ht
  go_wp2_with fail
  refine (cvx_is bo _ cb b sb _ rfl SB b12 PB.out VB.out).mono ?_
  rintro e w5 ⟨rfl, hb5⟩
  replace PA := Lib.hid (prow_below PA.out hb5)
  replace PB := Lib.hid (prow_below PB.out hb5)
  replace ZS := Lib.hid (blk_call ZS.out hb5)
  replace ZC := Lib.hid (blk_call ZC.out hb5)
  replace B := Lib.hid (belT B.out hb5)
  clear hb5
  cases sb with
  | false =>
    by_cases gb : o = 1
    · subst gb
      have c0 := blk_cell ZS.out 0 _ rfl
      have c1 := blk_cell ZS.out 1 _ rfl
      go_wp2_with fail
      go_ret
      exact ⟨rfl, B.out⟩
    · have WB : Hid (weakB b = true ∨ ¬ o = 1) := Lib.hid (.inr gb)
      have eb : (o == 1) = false := beq_eq_false_iff_ne.2 gb
      obtain ⟨v, ht⟩ : ∃ t, isSepB a b o e = t := ⟨_, rfl⟩
      have HV := Lib.hid ht
      clear ht
      have c0 := blk_cell ZS.out 0 _ rfl
      have c1 := blk_cell ZS.out 1 _ rfl
      go_wp2_with fail
      refine (issep_is ao bo _ _ ca cb a b o e v _ rfl rfl HV a12 b12 PA.out PB.out RA.out RB.out).mono ?_
      rintro e w6 ⟨rfl, hb6⟩
      clear c0 c1
      replace PA := Lib.hid (prow_below PA.out hb6)
      replace PB := Lib.hid (prow_below PB.out hb6)
      replace ZS := Lib.hid (blk_call ZS.out hb6)
      replace ZC := Lib.hid (blk_call ZC.out hb6)
      replace B := Lib.hid (belT B.out hb6)
      clear hb6
      cases v with
      | false =>
        go_wp2_with fail
        go_ret
        exact ⟨rfl, B.out⟩
      | true =>
      have HP := Lib.hid (sound HA.out HB.out HV.out WA.out WB.out)
      have HC : Hid (isConB a b q i j = false) := Lib.hid (b_no fun g => by have := con_touch g; rw [HP.out] at this; cases this)
      go_wp2_with fail
      refine (polygons_is ao bo _ _ ca cb a b false _ rfl rfl HP (by omega) (by omega) a12 b12 PA.out PB.out RA.out RB.out).mono ?_
      rintro e w7 ⟨rfl, hb7⟩
      replace PA := Lib.hid (prow_below PA.out hb7)
      replace PB := Lib.hid (prow_below PB.out hb7)
      replace ZS := Lib.hid (blk_call ZS.out hb7)
      replace ZC := Lib.hid (blk_call ZC.out hb7)
      replace B := Lib.hid (belT B.out hb7)
      clear hb7
      have d0 := blk_cell ZC.out 0 _ rfl
      have d1 := blk_cell ZC.out 1 _ rfl
      have d2 := blk_cell ZC.out 2 _ rfl
      go_wp2_with fail
      refine (iscon_is ao bo _ _ ca cb a b q i j false _ rfl rfl HC (by omega) (by omega) a12 b12 PA.out PB.out RA.out RB.out).mono ?_
      rintro e w8 ⟨rfl, hb8⟩
      clear d0 d1 d2
      replace PA := Lib.hid (prow_below PA.out hb8)
      replace PB := Lib.hid (prow_below PB.out hb8)
      replace ZS := Lib.hid (blk_call ZS.out hb8)
      replace ZC := Lib.hid (blk_call ZC.out hb8)
      replace B := Lib.hid (belT B.out hb8)
      clear hb8
      go_wp2_with fail
      go_ret
      exact ⟨rfl, B.out⟩
  | true =>
  have WB : Hid (weakB b = true ∨ ¬ o = 1) := Lib.hid (.inl SB.out)
  obtain ⟨v, ht⟩ : ∃ t, isSepB a b o e = t := ⟨_, rfl⟩
  have HV := Lib.hid ht
  clear ht
  have c0 := blk_cell ZS.out 0 _ rfl
  have c1 := blk_cell ZS.out 1 _ rfl
  go_wp2_with fail
  refine (issep_is ao bo _ _ ca cb a b o e v _ rfl rfl HV a12 b12 PA.out PB.out RA.out RB.out).mono ?_
  rintro e w6 ⟨rfl, hb6⟩
  clear c0 c1
  replace PA := Lib.hid (prow_below PA.out hb6)
  replace PB := Lib.hid (prow_below PB.out hb6)
  replace ZS := Lib.hid (blk_call ZS.out hb6)
  replace ZC := Lib.hid (blk_call ZC.out hb6)
  replace B := Lib.hid (belT B.out hb6)
  clear hb6
  cases v with
  | false =>
    go_wp2_with fail
    go_ret
    exact ⟨rfl, B.out⟩
  | true =>
  have HP := Lib.hid (sound HA.out HB.out HV.out WA.out WB.out)
  have HC : Hid (isConB a b q i j = false) := Lib.hid (b_no fun g => by have := con_touch g; rw [HP.out] at this; cases this)
  go_wp2_with fail
  refine (polygons_is ao bo _ _ ca cb a b false _ rfl rfl HP (by omega) (by omega) a12 b12 PA.out PB.out RA.out RB.out).mono ?_
  rintro e w7 ⟨rfl, hb7⟩
  replace PA := Lib.hid (prow_below PA.out hb7)
  replace PB := Lib.hid (prow_below PB.out hb7)
  replace ZS := Lib.hid (blk_call ZS.out hb7)
  replace ZC := Lib.hid (blk_call ZC.out hb7)
  replace B := Lib.hid (belT B.out hb7)
  clear hb7
  have d0 := blk_cell ZC.out 0 _ rfl
  have d1 := blk_cell ZC.out 1 _ rfl
  have d2 := blk_cell ZC.out 2 _ rfl
  go_wp2_with fail
  refine (iscon_is ao bo _ _ ca cb a b q i j false _ rfl rfl HC (by omega) (by omega) a12 b12 PA.out PB.out RA.out RB.out).mono ?_
  rintro e w8 ⟨rfl, hb8⟩
  clear d0 d1 d2
  replace PA := Lib.hid (prow_below PA.out hb8)
  replace PB := Lib.hid (prow_below PB.out hb8)
  replace ZS := Lib.hid (blk_call ZS.out hb8)
  replace ZC := Lib.hid (blk_call ZC.out hb8)
  replace B := Lib.hid (belT B.out hb8)
  clear hb8
  go_wp2_with fail
  go_ret
  exact ⟨rfl, B.out⟩

set_option maxRecDepth 100000 in
theorem lifted (os : Os) (started : os.Started) (H : Type) (enc : TypeId × Value → H) :
    ReturnsInHanded {} Try.checked os 7 .any (Rows.intersectSeparatorSoundSpec.pre6 enc Try.prog Try.f7 Rows.intersectSeparatorSoundRow.domain false) (Rows.intersectSeparatorSoundSpec.post enc Try.prog Try.f7 false true false false) := by
  refine returnsInHanded_of_change (C := Try.checked) HFr.own started (by kernel_rfl) Try.func7
    (ChangeSpec.witness6 (enc := enc) (C := Try.checked) false ⟨#[], #[.slice none 0 0, .slice none 0 0, .agg #[.int .i64 0, .int .i64 0], .agg #[.int .i64 0, .int .i64 0, .int .i64 0]], []⟩ 8 (by kernel_rfl) (by kernel_rfl) (by kernel_rfl) (by kernel_rfl)) ?_
  intro W base args ds gs before hval0 hW hcnd _
  have hval : ∀ (j : Nat) t v, Try.f7.params[j]? = some t → args[j]? = some v → Value.okWide Try.prog W .any base t v := hval0
  have hW' := hW
  obtain ⟨p, q, hA0, hV, rfl, hfz, hnd⟩ := hW
  have hA : DataW.TrodAll enc Try.prog W 0 (fun _ => true) true Try.f7.params.toList args.toList ds p := hA0
  rw [Try.params7] at hA hval
  obtain ⟨v0, vs0, d0, ds0, p0, q0, hargs, rfl, rfl, h0, r0⟩ := trodAll_cons hA
  obtain ⟨v1, vs1, d1, ds1, p1, q1, rfl, rfl, rfl, h1, r1⟩ := trodAll_cons r0
  obtain ⟨v2, vs2, d2, ds2, p2, q2, rfl, rfl, rfl, h2, r2⟩ := trodAll_cons r1
  obtain ⟨v3, vs3, d3, ds3, p3, q3, rfl, rfl, rfl, h3, r3⟩ := trodAll_cons r2
  obtain ⟨rfl, rfl, rfl⟩ := trodAll_nil r3
  obtain rfl : args = #[v0, v1, v2, v3] := by cases args; simp_all
  obtain ⟨rfl, rfl⟩ := trodVars_none hV
  have k0 := h0
  have lt0 : ∀ x ∈ p0, x.block < W.heap.size := by obtain ⟨m, hm⟩ := k0; exact DataW.trod_lt m _ _ _ hm
  obtain ⟨a0, cap0, l0, rfl, n0, w0⟩ := HFr.open_poly (hval 0 23 v0 rfl rfl) h0
  have k1 := h1
  have lt1 : ∀ x ∈ p1, x.block < W.heap.size := by obtain ⟨m, hm⟩ := k1; exact DataW.trod_lt m _ _ _ hm
  obtain ⟨a1, cap1, l1, rfl, n1, w1⟩ := HFr.open_poly (hval 1 23 v1 rfl rfl) h1
  have k2 := h2
  have lt2 : ∀ x ∈ p2, x.block < W.heap.size := by obtain ⟨m, hm⟩ := k2; exact DataW.trod_lt m _ _ _ hm
  obtain ⟨x2, y2, rfl⟩ := HFr.open_sep (hval 2 35 v2 rfl rfl) h2
  have k3 := h3
  have lt3 : ∀ x ∈ p3, x.block < W.heap.size := by obtain ⟨m, hm⟩ := k3; exact DataW.trod_lt m _ _ _ hm
  obtain ⟨x3, y3, z3, rfl⟩ := HFr.open_con (hval 3 37 v3 rfl rfl) h3
  clear hA0 hval0
  refine (walk a0 cap0 l0 n0 w0 a1 cap1 l1 n1 w1 x2 y2 x3 y3 z3 W rfl).mono fun e W' ⟨he, bel⟩ => ?_
  subst he
  exact ⟨_, rfl, _, _, _, [], _, [], hW', trodAll_mk1 (shut_bool Try.underlying4 _), (trodAll_cons_mk (Below.trod HFr.laidOut (by kernel_rfl) (of_decide_eq_true (by kernel_rfl)) k0 bel lt0) (trodAll_cons_mk (Below.trod HFr.laidOut (by kernel_rfl) (of_decide_eq_true (by kernel_rfl)) k1 bel lt1) (trodAll_cons_mk (Below.trod HFr.laidOut (by kernel_rfl) (of_decide_eq_true (by kernel_rfl)) k2 bel lt2) (trodAll_cons_mk (Below.trod HFr.laidOut (by kernel_rfl) (of_decide_eq_true (by kernel_rfl)) k3 bel lt3) trodAll_mk0)))), rfl, bel.frame _, fun h => by cases h⟩

/-- THE STATEMENT. -/
theorem holds : Rows.IntersectSeparatorSoundSaid :=
  OpenClaim.holds_of_wide 7 Try.f7 rfl rfl rfl rfl rfl rfl rfl ⟨rfl, rfl, rfl, rfl, rfl⟩ rfl rfl rfl rfl rfl (by kernel_rfl) Try.func7 (by kernel_rfl)
    (of_decide_eq_true (by kernel_rfl)) (by unfold Func.isWrapper; first | (rw [if_pos (by decide +kernel)]; kernel_rfl) | (rw [if_neg (by decide +kernel)]; exact ⟨rfl, rfl⟩))
    (fun os started H enc _ => lifted os started H enc)
#print axioms holds
end Go.Proofs.Ytojfonenpplahaa.intersectSeparatorSound
