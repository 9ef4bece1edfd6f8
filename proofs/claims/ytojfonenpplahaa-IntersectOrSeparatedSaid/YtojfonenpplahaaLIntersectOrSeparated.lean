/- Proved: of two valid convex polygons exactly one of SeparatingEdge and FindContact succeeds, and what it returns passes the corresponding check (the law IntersectOrSeparated returns true).
Conditions: none on the arguments. -/
import Derived.Test.YtojfonenpplahaaIxH
import Derived.Test.YtojfonenpplahaaIxI
import Derived.Test.YtojfonenpplahaaHlFr
namespace Go.Proofs.Ytojfonenpplahaa.intersectOrSeparated
open Go.ChangeShapes Go.WideShapes Go.ChangeAt Go.RowKit
set_option linter.unusedVariables false
set_option linter.unusedSimpArgs false

set_option maxRecDepth 100000 in
set_option maxHeartbeats 8000000 in
theorem walk {w : World} (ao : Option Addr) (ca : Nat) (a : List (Int × Int)) (na : a.length ≤ 9223372036854775807) (hA : PRow w ao a) (bo : Option Addr) (cb : Nat) (b : List (Int × Int)) (nb : b.length ≤ 9223372036854775807) (hB : PRow w bo b) (W' : World) (hw : w = W') :
    Calls Try.prog 5 #[.slice ao a.length ca, .slice bo b.length cb] w fun e w' => e = .returned (.bool true) ∧ Below w.heap.size w w' := by
  have PA := Lib.hid hA
  have PB := Lib.hid hB
  clear hA hB hw
  go_enter Try.func5, Try.ntmps5
  go_wp2_with fail
  refine (head5_is _).mono ?_
  rintro e w1 ⟨rfl, hb1⟩
  replace PA := Lib.hid (prow_below PA.out hb1)
  replace PB := Lib.hid (prow_below PB.out hb1)
  have B := Lib.hid (belT (Below.refl _ w) hb1)
  clear hb1
  obtain ⟨ta, ht⟩ : ∃ t, validP a = t := ⟨_, rfl⟩
  have HA := Lib.hid ht
  clear ht
  go_wp2_with fail
  refine (small_is ao _ ca a ta _ rfl HA na PA.out).mono ?_
  rintro e w2 ⟨rfl, hb2⟩
  replace PA := Lib.hid (prow_below PA.out hb2)
  replace PB := Lib.hid (prow_below PB.out hb2)
  replace B := Lib.hid (belT B.out hb2)
  clear hb2
  cases ta with
  | false =>
    go_wp2_with fail
    go_ret
    exact ⟨rfl, B.out⟩
  | true =>
  obtain ⟨tb, ht⟩ : ∃ t, validP b = t := ⟨_, rfl⟩
  have HB := Lib.hid ht
  clear ht
  go_wp2_with fail
  refine (small_is bo _ cb b tb _ rfl HB nb PB.out).mono ?_
  rintro e w3 ⟨rfl, hb3⟩
  replace PA := Lib.hid (prow_below PA.out hb3)
  replace PB := Lib.hid (prow_below PB.out hb3)
  replace B := Lib.hid (belT B.out hb3)
  clear hb3
  cases tb with
  | false =>
    go_wp2_with fail
    go_ret
    exact ⟨rfl, B.out⟩
  | true =>
  obtain ⟨a3, a12, aV⟩ := vparts HA.out
  have VA := Lib.hid aV
  have RA := Lib.hid aV.r2
  clear aV
  obtain ⟨b3, b12, bV⟩ := vparts HB.out
  have VB := Lib.hid bV
  have RB := Lib.hid bV.r2
  clear bV
  obtain ⟨sa, ht⟩ : ∃ t, weakB a = t := ⟨_, rfl⟩
  have SA := Lib.hid ht
  clear ht
  go_wp2_with fail
  refine (cvx_is ao _ ca a sa _ rfl SA a12 PA.out VA.out).mono ?_
  rintro e w4 ⟨rfl, hb4⟩
  replace PA := Lib.hid (prow_below PA.out hb4)
  replace PB := Lib.hid (prow_below PB.out hb4)
  replace B := Lib.hid (belT B.out hb4)
  clear hb4
  cases sa with
  | false =>
    go_wp2_with fail
    go_ret
    exact ⟨rfl, B.out⟩
  | true =>
  obtain ⟨sb, ht⟩ : ∃ t, weakB b = t := ⟨_, rfl⟩
  have SB := Lib.hid ht
  clear ht
  go_wp2_with fail
  refine (cvx_is bo _ cb b sb _ rfl SB b12 PB.out VB.out).mono ?_
  rintro e w5 ⟨rfl, hb5⟩
  replace PA := Lib.hid (prow_below PA.out hb5)
  replace PB := Lib.hid (prow_below PB.out hb5)
  replace B := Lib.hid (belT B.out hb5)
  clear hb5
  cases sb with
  | false =>
    go_wp2_with fail
    go_ret
    exact ⟨rfl, B.out⟩
  | true =>
  have hat := apart_touch (valid_weak HA.out SA.out) (valid_weak HB.out SB.out)
  obtain ⟨p, i, s, hs⟩ : ∃ p i s, sepT a b = (p, i, s) := ⟨_, _, _, rfl⟩
  obtain ⟨q, j, l, t, ht⟩ : ∃ q j l t, conT a b = (q, j, l, t) := ⟨_, _, _, _, rfl⟩
  have e1 : apartB a b = s := by rw [← sepT_apart, hs]
  have e2 : touchB a b = t := by rw [← conT_touch, ht]
  have HS := Lib.hid hs
  have HT := Lib.hid ht
  have HC1 := Lib.hid (sep_check (by omega) hs)
  have HC2 := Lib.hid (con_check ht)
  have HP := Lib.hid e2
  obtain rfl : s = !t := by rw [← e1, ← e2, hat]
  clear hat hs ht e1 e2
  go_wp2_with fail
  refine (sepedge_is ao bo _ _ ca cb a b p i (!t) _ rfl rfl HS (by omega) (by omega) a12 b12 PA.out PB.out RA.out RB.out).mono ?_
  rintro e w6 ⟨rfl, hb6⟩
  replace PA := Lib.hid (prow_below PA.out hb6)
  replace PB := Lib.hid (prow_below PB.out hb6)
  replace B := Lib.hid (belT B.out hb6)
  clear hb6
  go_wp2_with fail
  refine (contact_is ao bo _ _ ca cb a b q j l t _ rfl rfl HT (by omega) (by omega) a12 b12 (prow_alloc PA.out (.cells #[.int .i64 p, .int .i64 i] 35)) (prow_alloc PB.out (.cells #[.int .i64 p, .int .i64 i] 35)) RA.out RB.out).mono ?_
  rintro e w7 ⟨rfl, hb7⟩
  replace PA := Lib.hid (prow_below (prow_alloc PA.out (.cells #[.int .i64 p, .int .i64 i] 35)) hb7)
  replace PB := Lib.hid (prow_below (prow_alloc PB.out (.cells #[.int .i64 p, .int .i64 i] 35)) hb7)
  have Z1 := Lib.hid (blk_call (blk_new w6 (.cells #[.int .i64 p, .int .i64 i] 35) _ rfl) hb7)
  replace B := Lib.hid (belT (belA B.out (.cells #[.int .i64 p, .int .i64 i] 35)) hb7)
  clear hb7
  have c0 := blk_cell (blk_alloc Z1.out (.cells #[.int .i64 q, .int .i64 j, .int .i64 l] 37)) 0 _ rfl
  have c1 := blk_cell (blk_alloc Z1.out (.cells #[.int .i64 q, .int .i64 j, .int .i64 l] 37)) 1 _ rfl
  cases t with
  | false =>
    go_wp2_with fail
    refine (issep_is ao bo _ _ ca cb a b p i true _ rfl rfl HC1 a12 b12 (prow_alloc PA.out (.cells #[.int .i64 q, .int .i64 j, .int .i64 l] 37)) (prow_alloc PB.out (.cells #[.int .i64 q, .int .i64 j, .int .i64 l] 37)) RA.out RB.out).mono ?_
    rintro e w8 ⟨rfl, hb8⟩
    clear c0 c1
    replace PA := Lib.hid (prow_below (prow_alloc PA.out (.cells #[.int .i64 q, .int .i64 j, .int .i64 l] 37)) hb8)
    replace PB := Lib.hid (prow_below (prow_alloc PB.out (.cells #[.int .i64 q, .int .i64 j, .int .i64 l] 37)) hb8)
    replace Z1 := Lib.hid (blk_call (blk_alloc Z1.out (.cells #[.int .i64 q, .int .i64 j, .int .i64 l] 37)) hb8)
    have Z2 := Lib.hid (blk_call (blk_new w7 (.cells #[.int .i64 q, .int .i64 j, .int .i64 l] 37) _ rfl) hb8)
    replace B := Lib.hid (belT (belA B.out (.cells #[.int .i64 q, .int .i64 j, .int .i64 l] 37)) hb8)
    clear hb8
    have d0 := blk_cell Z2.out 0 _ rfl
    have d1 := blk_cell Z2.out 1 _ rfl
    have d2 := blk_cell Z2.out 2 _ rfl
    go_wp2_with fail
    refine (iscon_is ao bo _ _ ca cb a b q j l false _ rfl rfl HC2 (by omega) (by omega) a12 b12 PA.out PB.out RA.out RB.out).mono ?_
    rintro e w9 ⟨rfl, hb9⟩
    clear d0 d1 d2
    replace PA := Lib.hid (prow_below PA.out hb9)
    replace PB := Lib.hid (prow_below PB.out hb9)
    replace Z1 := Lib.hid (blk_call Z1.out hb9)
    replace Z2 := Lib.hid (blk_call Z2.out hb9)
    replace B := Lib.hid (belT B.out hb9)
    clear hb9
    go_wp2_with fail
    refine (polygons_is ao bo _ _ ca cb a b false _ rfl rfl HP (by omega) (by omega) a12 b12 PA.out PB.out RA.out RB.out).mono ?_
    rintro e w10 ⟨rfl, hb10⟩
    replace PA := Lib.hid (prow_below PA.out hb10)
    replace PB := Lib.hid (prow_below PB.out hb10)
    replace Z1 := Lib.hid (blk_call Z1.out hb10)
    replace Z2 := Lib.hid (blk_call Z2.out hb10)
    replace B := Lib.hid (belT B.out hb10)
    clear hb10
    go_wp2_with fail
    go_ret
    exact ⟨rfl, B.out⟩
  | true =>
    go_wp2_with fail
    refine (issep_is ao bo _ _ ca cb a b p i false _ rfl rfl HC1 a12 b12 (prow_alloc PA.out (.cells #[.int .i64 q, .int .i64 j, .int .i64 l] 37)) (prow_alloc PB.out (.cells #[.int .i64 q, .int .i64 j, .int .i64 l] 37)) RA.out RB.out).mono ?_
    rintro e w8 ⟨rfl, hb8⟩
    clear c0 c1
    replace PA := Lib.hid (prow_below (prow_alloc PA.out (.cells #[.int .i64 q, .int .i64 j, .int .i64 l] 37)) hb8)
    replace PB := Lib.hid (prow_below (prow_alloc PB.out (.cells #[.int .i64 q, .int .i64 j, .int .i64 l] 37)) hb8)
    replace Z1 := Lib.hid (blk_call (blk_alloc Z1.out (.cells #[.int .i64 q, .int .i64 j, .int .i64 l] 37)) hb8)
    have Z2 := Lib.hid (blk_call (blk_new w7 (.cells #[.int .i64 q, .int .i64 j, .int .i64 l] 37) _ rfl) hb8)
    replace B := Lib.hid (belT (belA B.out (.cells #[.int .i64 q, .int .i64 j, .int .i64 l] 37)) hb8)
    clear hb8
    have d0 := blk_cell Z2.out 0 _ rfl
    have d1 := blk_cell Z2.out 1 _ rfl
    have d2 := blk_cell Z2.out 2 _ rfl
    go_wp2_with fail
    refine (iscon_is ao bo _ _ ca cb a b q j l true _ rfl rfl HC2 (by omega) (by omega) a12 b12 PA.out PB.out RA.out RB.out).mono ?_
    rintro e w9 ⟨rfl, hb9⟩
    clear d0 d1 d2
    replace PA := Lib.hid (prow_below PA.out hb9)
    replace PB := Lib.hid (prow_below PB.out hb9)
    replace Z1 := Lib.hid (blk_call Z1.out hb9)
    replace Z2 := Lib.hid (blk_call Z2.out hb9)
    replace B := Lib.hid (belT B.out hb9)
    clear hb9
    go_wp2_with fail
    refine (polygons_is ao bo _ _ ca cb a b true _ rfl rfl HP (by omega) (by omega) a12 b12 PA.out PB.out RA.out RB.out).mono ?_
    rintro e w10 ⟨rfl, hb10⟩
    replace PA := Lib.hid (prow_below PA.out hb10)
    replace PB := Lib.hid (prow_below PB.out hb10)
    replace Z1 := Lib.hid (blk_call Z1.out hb10)
    replace Z2 := Lib.hid (blk_call Z2.out hb10)
    replace B := Lib.hid (belT B.out hb10)
    clear hb10
    go_wp2_with fail
    go_ret
    exact ⟨rfl, B.out⟩

set_option maxRecDepth 100000 in
theorem lifted (os : Os) (started : os.Started) (H : Type) (enc : TypeId × Value → H) :
    ReturnsInHanded {} Try.checked os 5 .any (Rows.intersectOrSeparatedSpec.pre6 enc Try.prog Try.f5 Rows.intersectOrSeparatedRow.domain false) (Rows.intersectOrSeparatedSpec.post enc Try.prog Try.f5 false true false false) := by
  refine returnsInHanded_of_change (C := Try.checked) HFr.own started (by kernel_rfl) Try.func5
    (ChangeSpec.witness6 (enc := enc) (C := Try.checked) false ⟨#[], #[.slice none 0 0, .slice none 0 0], []⟩ 8 (by kernel_rfl) (by kernel_rfl) (by kernel_rfl) (by kernel_rfl)) ?_
  intro W base args ds gs before hval0 hW hcnd _
  have hval : ∀ (j : Nat) t v, Try.f5.params[j]? = some t → args[j]? = some v → Value.okWide Try.prog W .any base t v := hval0
  have hW' := hW
  obtain ⟨p, q, hA0, hV, rfl, hfz, hnd⟩ := hW
  have hA : DataW.TrodAll enc Try.prog W 0 (fun _ => true) true Try.f5.params.toList args.toList ds p := hA0
  rw [Try.params5] at hA hval
  obtain ⟨v0, vs0, d0, ds0, p0, q0, hargs, rfl, rfl, h0, r0⟩ := trodAll_cons hA
  obtain ⟨v1, vs1, d1, ds1, p1, q1, rfl, rfl, rfl, h1, r1⟩ := trodAll_cons r0
  obtain ⟨rfl, rfl, rfl⟩ := trodAll_nil r1
  obtain rfl : args = #[v0, v1] := by cases args; simp_all
  obtain ⟨rfl, rfl⟩ := trodVars_none hV
  have k0 := h0
  have lt0 : ∀ x ∈ p0, x.block < W.heap.size := by obtain ⟨m, hm⟩ := k0; exact DataW.trod_lt m _ _ _ hm
  obtain ⟨a0, cap0, l0, rfl, n0, w0⟩ := HFr.open_poly (hval 0 23 v0 rfl rfl) h0
  have k1 := h1
  have lt1 : ∀ x ∈ p1, x.block < W.heap.size := by obtain ⟨m, hm⟩ := k1; exact DataW.trod_lt m _ _ _ hm
  obtain ⟨a1, cap1, l1, rfl, n1, w1⟩ := HFr.open_poly (hval 1 23 v1 rfl rfl) h1
  clear hA0 hval0
  refine (walk a0 cap0 l0 n0 w0 a1 cap1 l1 n1 w1 W rfl).mono fun e W' ⟨he, bel⟩ => ?_
  subst he
  exact ⟨_, rfl, _, _, _, [], _, [], hW', trodAll_mk1 (shut_bool Try.underlying4 _), (trodAll_cons_mk (Below.trod HFr.laidOut (by kernel_rfl) (of_decide_eq_true (by kernel_rfl)) k0 bel lt0) (trodAll_cons_mk (Below.trod HFr.laidOut (by kernel_rfl) (of_decide_eq_true (by kernel_rfl)) k1 bel lt1) trodAll_mk0)), rfl, bel.frame _, fun h => by cases h⟩

/-- THE STATEMENT. -/
theorem holds : Rows.IntersectOrSeparatedSaid :=
  OpenClaim.holds_of_wide 5 Try.f5 rfl rfl rfl rfl rfl rfl rfl ⟨rfl, rfl, rfl, rfl, rfl⟩ rfl rfl rfl rfl rfl (by kernel_rfl) Try.func5 (by kernel_rfl)
    (of_decide_eq_true (by kernel_rfl)) (by unfold Func.isWrapper; first | (rw [if_pos (by decide +kernel)]; kernel_rfl) | (rw [if_neg (by decide +kernel)]; exact ⟨rfl, rfl⟩))
    (fun os started H enc _ => lifted os started H enc)
#print axioms holds
end Go.Proofs.Ytojfonenpplahaa.intersectOrSeparated
