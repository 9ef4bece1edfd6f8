/- Proved: if the hulls of two valid polygons have a separating edge, the polygons do not meet; if not, the hulls meet and the boxes overlap; a hull has at least the area and exactly the box of its polygon (the law TopHulls returns true).
Conditions: none on the arguments. -/
import Derived.Test.YtojfonenpplahaaIyC
import Derived.Test.YtojfonenpplahaaHlFr
namespace Go.Proofs.Ytojfonenpplahaa.topHulls
open Go.ChangeShapes Go.WideShapes Go.ChangeAt Go.RowKit
set_option linter.unusedVariables false
set_option linter.unusedSimpArgs false

theorem boxd_at (ao bo : Option Addr) (n m ca cb : Nat) (la lb : List (Int × Int)) (d : Int) (w : World) (hn : la.length = n) (hm : lb.length = m) (hd : Hid (boxD la lb = d)) (h1 : n ≤ 12) (h2 : m ≤ 12) (ra : PRow w ao la) (rb : PRow w bo lb) (ia : AllR2 la) (ib : AllR2 lb) :
    Calls Try.prog 42 #[.slice ao n ca, .slice bo m cb] w fun e w' => e = .returned (.int .i64 d) ∧ Below w.heap.size w w' := by
  subst hn hm
  have := boxdist_any ao bo ca cb la lb w (by omega) (by omega) ra rb ia ib
  rw [hd.out] at this
  exact this

set_option maxRecDepth 100000 in
set_option maxHeartbeats 16000000 in
theorem walk {w : World} (ao : Option Addr) (ca : Nat) (a : List (Int × Int)) (na : a.length ≤ 9223372036854775807) (hA : PRow w ao a) (bo : Option Addr) (cb : Nat) (b : List (Int × Int)) (nb : b.length ≤ 9223372036854775807) (hB : PRow w bo b) (W' : World) (hw : w = W') :
    Calls Try.prog 11 #[.slice ao a.length ca, .slice bo b.length cb] w fun e w' => e = .returned (.bool true) ∧ Below w.heap.size w w' := by
  have PA := Lib.hid hA
  have PB := Lib.hid hB
  clear hA hB hw
  go_enter Try.func11, Try.ntmps11
  go_wp2_with fail
  refine (head05_is _).mono ?_
  rintro e w1 ⟨rfl, hb1⟩
  replace PA := Lib.hid (prow_below PA.out hb1)
  replace PB := Lib.hid (prow_below PB.out hb1)
  have B := Lib.hid (belT (Below.refl _ w) hb1)
  clear hb1
  obtain ⟨ta, ht⟩ : ∃ t, validP a = t := ⟨_, rfl⟩
  have HA := Lib.hid ht
  clear ht
  go_wp2_with fail
  refine (right_is ao _ ca a ta _ rfl HA na PA.out).mono ?_
  rintro e w2 ⟨rfl, hb2⟩
  replace PA := Lib.hid (prow_below PA.out hb2)
  replace PB := Lib.hid (prow_below PB.out hb2)
  replace B := Lib.hid (belT B.out hb2)
  clear hb2
  cases ta with
  | false =>
    go_wp2_with fail
    go_ret
    exact ⟨rfl, B.out⟩
  | true =>
  obtain ⟨tb, ht⟩ : ∃ t, validP b = t := ⟨_, rfl⟩
  have HB := Lib.hid ht
  clear ht
  go_wp2_with fail
  refine (right_is bo _ cb b tb _ rfl HB nb PB.out).mono ?_
  rintro e w3 ⟨rfl, hb3⟩
  replace PA := Lib.hid (prow_below PA.out hb3)
  replace PB := Lib.hid (prow_below PB.out hb3)
  replace B := Lib.hid (belT B.out hb3)
  clear hb3
  cases tb with
  | false =>
    go_wp2_with fail
    go_ret
    exact ⟨rfl, B.out⟩
  | true =>
  obtain ⟨a3, a12, aV⟩ := vparts HA.out
  have VA := Lib.hid aV
  have RA := Lib.hid aV.r2
  clear aV
  obtain ⟨b3, b12, bV⟩ := vparts HB.out
  have VB := Lib.hid bV
  have RB := Lib.hid bV.r2
  clear bV
  obtain ⟨h, eh⟩ : ∃ h, hullL a = h := ⟨_, rfl⟩
  have EH := Lib.hid eh
  obtain ⟨nh, ih⟩ := valid_hull HA.out
  rw [eh] at nh ih
  have IH := Lib.hid ih
  have NH : Hid (decide (h ≠ []) = true) := Lib.hid (decide_eq_true nh)
  have h12 : h.length ≤ 12 := Nat.le_trans (hull_le ih) a12
  have h3 := ih.1.1
  have WH := Lib.hid (hull_allV ih VA.out)
  have SH := Lib.hid (hull_allV ih VA.out).r2
  have FH := Lib.hid ((convB_iff h).2 ih.1)
  have MH := Lib.hid (hull_area (ccw_valid HA.out).good ih)
  clear eh nh ih
  obtain ⟨k, ek⟩ : ∃ h, hullL b = h := ⟨_, rfl⟩
  have EK := Lib.hid ek
  obtain ⟨nk, ik⟩ := valid_hull HB.out
  rw [ek] at nk ik
  have IK := Lib.hid ik
  have NK : Hid (decide (k ≠ []) = true) := Lib.hid (decide_eq_true nk)
  have k12 : k.length ≤ 12 := Nat.le_trans (hull_le ik) b12
  have k3 := ik.1.1
  have WK := Lib.hid (hull_allV ik VB.out)
  have SK := Lib.hid (hull_allV ik VB.out).r2
  have FK := Lib.hid ((convB_iff k).2 ik.1)
  have MK := Lib.hid (hull_area (ccw_valid HB.out).good ik)
  clear ek nk ik
  go_wp2_with fail
  refine (of_is ao _ ca a h true _ rfl EH NH (by omega) PA.out VA.out).mono ?_
  rintro e w4 ⟨⟨ho, hc, rfl, hp⟩, hb4⟩
  replace PA := Lib.hid (prow_below PA.out hb4)
  replace PB := Lib.hid (prow_below PB.out hb4)
  replace B := Lib.hid (belT B.out hb4)
  clear hb4
  have PH := Lib.hid hp
  clear hp
  go_wp2_with fail
  refine (of_is bo _ cb b k true _ rfl EK NK (by omega) PB.out VB.out).mono ?_
  rintro e w5 ⟨⟨ko, kc, rfl, hp⟩, hb5⟩
  replace PA := Lib.hid (prow_below PA.out hb5)
  replace PB := Lib.hid (prow_below PB.out hb5)
  replace PH := Lib.hid (prow_below PH.out hb5)
  replace B := Lib.hid (belT B.out hb5)
  clear hb5
  have PK := Lib.hid hp
  clear hp
  go_wp2_with fail
  refine (conv_is ho _ hc h true _ rfl FH (by omega) PH.out WH.out).mono ?_
  rintro e w6 ⟨rfl, hb6⟩
  replace PA := Lib.hid (prow_below PA.out hb6)
  replace PB := Lib.hid (prow_below PB.out hb6)
  replace PH := Lib.hid (prow_below PH.out hb6)
  replace PK := Lib.hid (prow_below PK.out hb6)
  replace B := Lib.hid (belT B.out hb6)
  clear hb6
  go_wp2_with fail
  refine (conv_is ko _ kc k true _ rfl FK (by omega) PK.out WK.out).mono ?_
  rintro e w7 ⟨rfl, hb7⟩
  replace PA := Lib.hid (prow_below PA.out hb7)
  replace PB := Lib.hid (prow_below PB.out hb7)
  replace PH := Lib.hid (prow_below PH.out hb7)
  replace PK := Lib.hid (prow_below PK.out hb7)
  replace B := Lib.hid (belT B.out hb7)
  clear hb7
  obtain ⟨vh, e1⟩ : ∃ v, area2 h = v := ⟨_, rfl⟩
  obtain ⟨va, e2⟩ : ∃ v, area2 a = v := ⟨_, rfl⟩
  have A1 := Lib.hid e1
  have A2 := Lib.hid e2
  have hle : ¬ vh < va := by have := MH.out; rw [e1, e2] at this; omega
  have hld : decide (vh < va) = false := decide_eq_false hle
  clear e1 e2
  go_wp2_with fail
  refine (area_at ho _ hc h vh _ rfl A1 (by omega) h12 PH.out WH.out).mono ?_
  rintro e w8 ⟨rfl, hb8⟩
  replace PA := Lib.hid (prow_below PA.out hb8)
  replace PB := Lib.hid (prow_below PB.out hb8)
  replace PH := Lib.hid (prow_below PH.out hb8)
  replace PK := Lib.hid (prow_below PK.out hb8)
  replace B := Lib.hid (belT B.out hb8)
  clear hb8
  go_wp2_with fail
  refine (area_at ao _ ca a va _ rfl A2 (by omega) a12 PA.out VA.out).mono ?_
  rintro e w9 ⟨rfl, hb9⟩
  replace PA := Lib.hid (prow_below PA.out hb9)
  replace PB := Lib.hid (prow_below PB.out hb9)
  replace PH := Lib.hid (prow_below PH.out hb9)
  replace PK := Lib.hid (prow_below PK.out hb9)
  replace B := Lib.hid (belT B.out hb9)
  clear hb9
  obtain ⟨d, hd⟩ : ∃ d, boxD a b = d := ⟨_, rfl⟩
  have D1 := Lib.hid hd
  have D2 : Hid (boxD h k = d) := Lib.hid (by rw [hull_boxD IH.out IK.out (fun e => by rw [e] at a3; simp at a3) (fun e => by rw [e] at b3; simp at b3)]; exact hd)
  clear hd
  go_wp2_with fail
  refine (boxd_at ho ko _ _ hc kc h k d _ rfl rfl D2 h12 k12 PH.out PK.out SH.out SK.out).mono ?_
  rintro e w10 ⟨rfl, hb10⟩
  replace PA := Lib.hid (prow_below PA.out hb10)
  replace PB := Lib.hid (prow_below PB.out hb10)
  replace PH := Lib.hid (prow_below PH.out hb10)
  replace PK := Lib.hid (prow_below PK.out hb10)
  replace B := Lib.hid (belT B.out hb10)
  clear hb10
  go_wp2_with fail
  refine (boxd_at ao bo _ _ ca cb a b d _ rfl rfl D1 a12 b12 PA.out PB.out RA.out RB.out).mono ?_
  rintro e w11 ⟨rfl, hb11⟩
  replace PA := Lib.hid (prow_below PA.out hb11)
  replace PB := Lib.hid (prow_below PB.out hb11)
  replace PH := Lib.hid (prow_below PH.out hb11)
  replace PK := Lib.hid (prow_below PK.out hb11)
  replace B := Lib.hid (belT B.out hb11)
  clear hb11
  obtain ⟨p, i, s, hs⟩ : ∃ p i s, sepT h k = (p, i, s) := ⟨_, _, _, rfl⟩
  have HS := Lib.hid hs
  have hst : s = !touchB h k := by rw [← apart_touch IH.out.1 IK.out.1, ← sepT_apart, hs]
  have HST := Lib.hid hst
  clear hs hst
  go_wp2_with fail
  refine (sepedge_is ho ko _ _ hc kc h k p i s _ rfl rfl HS (by omega) (by omega) h12 k12 PH.out PK.out SH.out SK.out).mono ?_
  rintro e w12 ⟨rfl, hb12⟩
  replace PA := Lib.hid (prow_below PA.out hb12)
  replace PB := Lib.hid (prow_below PB.out hb12)
  replace PH := Lib.hid (prow_below PH.out hb12)
  replace PK := Lib.hid (prow_below PK.out hb12)
  replace B := Lib.hid (belT B.out hb12)
  clear hb12
  cases s with
  | true =>
    have HT : Hid (touchB a b = false) := Lib.hid (b_no fun t => by
      have e := touch_of (conv_good IH.out.1) (conv_good IK.out.1) (both_hull (ccw_valid HA.out).good (ccw_valid HB.out).good IH.out IK.out (both_of t))
      have := HST.out
      rw [e] at this; cases this)
    go_wp2_with fail
    refine (polygons_is ao bo _ _ ca cb a b false _ rfl rfl HT (by omega) (by omega) a12 b12 (prow_alloc PA.out (.cells #[.int .i64 p, .int .i64 i] 35)) (prow_alloc PB.out (.cells #[.int .i64 p, .int .i64 i] 35)) RA.out RB.out).mono ?_
    rintro e w13 ⟨rfl, hb13⟩
    replace PA := Lib.hid (prow_below (prow_alloc PA.out (.cells #[.int .i64 p, .int .i64 i] 35)) hb13)
    replace PB := Lib.hid (prow_below (prow_alloc PB.out (.cells #[.int .i64 p, .int .i64 i] 35)) hb13)
    replace PH := Lib.hid (prow_below (prow_alloc PH.out (.cells #[.int .i64 p, .int .i64 i] 35)) hb13)
    replace PK := Lib.hid (prow_below (prow_alloc PK.out (.cells #[.int .i64 p, .int .i64 i] 35)) hb13)
    replace B := Lib.hid (belT (belA B.out (.cells #[.int .i64 p, .int .i64 i] 35)) hb13)
    clear hb13
    go_wp2_with fail
    go_ret
    exact ⟨rfl, B.out⟩
  | false =>
    have ht : touchB h k = true := by
      have := HST.out
      revert this
      cases touchB h k <;> simp
    have HT := Lib.hid ht
    have hd0 : ¬ 0 < d := by
      have e := both_box (conv_good IH.out.1) (conv_good IK.out.1) (both_of ht)
      rw [D2.out] at e
      omega
    clear ht
    go_wp2_with fail
    refine (boxd_at ao bo _ _ ca cb a b d _ rfl rfl D1 a12 b12 (prow_alloc PA.out (.cells #[.int .i64 p, .int .i64 i] 35)) (prow_alloc PB.out (.cells #[.int .i64 p, .int .i64 i] 35)) RA.out RB.out).mono ?_
    rintro e w13 ⟨rfl, hb13⟩
    replace PA := Lib.hid (prow_below (prow_alloc PA.out (.cells #[.int .i64 p, .int .i64 i] 35)) hb13)
    replace PB := Lib.hid (prow_below (prow_alloc PB.out (.cells #[.int .i64 p, .int .i64 i] 35)) hb13)
    replace PH := Lib.hid (prow_below (prow_alloc PH.out (.cells #[.int .i64 p, .int .i64 i] 35)) hb13)
    replace PK := Lib.hid (prow_below (prow_alloc PK.out (.cells #[.int .i64 p, .int .i64 i] 35)) hb13)
    replace B := Lib.hid (belT (belA B.out (.cells #[.int .i64 p, .int .i64 i] 35)) hb13)
    clear hb13
    go_wp2_with fail
    refine (polygons_is ho ko _ _ hc kc h k true _ rfl rfl HT (by omega) (by omega) h12 k12 PH.out PK.out SH.out SK.out).mono ?_
    rintro e w14 ⟨rfl, hb14⟩
    replace PA := Lib.hid (prow_below PA.out hb14)
    replace PB := Lib.hid (prow_below PB.out hb14)
    replace PH := Lib.hid (prow_below PH.out hb14)
    replace PK := Lib.hid (prow_below PK.out hb14)
    replace B := Lib.hid (belT B.out hb14)
    clear hb14
    go_wp2_with fail
    go_ret
    exact ⟨rfl, B.out⟩

set_option maxRecDepth 100000 in
theorem lifted (os : Os) (started : os.Started) (H : Type) (enc : TypeId × Value → H) :
    ReturnsInHanded {} Try.checked os 11 .any (Rows.topHullsSpec.pre6 enc Try.prog Try.f11 Rows.topHullsRow.domain false) (Rows.topHullsSpec.post enc Try.prog Try.f11 false true false false) := by
  refine returnsInHanded_of_change (C := Try.checked) HFr.own started (by kernel_rfl) Try.func11
    (ChangeSpec.witness6 (enc := enc) (C := Try.checked) false ⟨#[], #[.slice none 0 0, .slice none 0 0], []⟩ 8 (by kernel_rfl) (by kernel_rfl) (by kernel_rfl) (by kernel_rfl)) ?_
  intro W base args ds gs before hval0 hW hcnd _
  have hval : ∀ (j : Nat) t v, Try.f11.params[j]? = some t → args[j]? = some v → Value.okWide Try.prog W .any base t v := hval0
  have hW' := hW
  obtain ⟨p, q, hA0, hV, rfl, hfz, hnd⟩ := hW
  have hA : DataW.TrodAll enc Try.prog W 0 (fun _ => true) true Try.f11.params.toList args.toList ds p := hA0
  rw [Try.params11] at hA hval
  obtain ⟨v0, vs0, d0, ds0, p0, q0, hargs, rfl, rfl, h0, r0⟩ := trodAll_cons hA
  obtain ⟨v1, vs1, d1, ds1, p1, q1, rfl, rfl, rfl, h1, r1⟩ := trodAll_cons r0
  obtain ⟨rfl, rfl, rfl⟩ := trodAll_nil r1
  obtain rfl : args = #[v0, v1] := by cases args; simp_all
  obtain ⟨rfl, rfl⟩ := trodVars_none hV
  have k0 := h0
  have lt0 : ∀ x ∈ p0, x.block < W.heap.size := by obtain ⟨m, hm⟩ := k0; exact DataW.trod_lt m _ _ _ hm
  obtain ⟨a0, cap0, l0, rfl, n0, w0⟩ := HFr.open_poly (hval 0 23 v0 rfl rfl) h0
  have k1 := h1
  have lt1 : ∀ x ∈ p1, x.block < W.heap.size := by obtain ⟨m, hm⟩ := k1; exact DataW.trod_lt m _ _ _ hm
  obtain ⟨a1, cap1, l1, rfl, n1, w1⟩ := HFr.open_poly (hval 1 23 v1 rfl rfl) h1
  clear hA0 hval0
  refine (walk a0 cap0 l0 n0 w0 a1 cap1 l1 n1 w1 W rfl).mono fun e W' ⟨he, bel⟩ => ?_
  subst he
  exact ⟨_, rfl, _, _, _, [], _, [], hW', trodAll_mk1 (shut_bool Try.underlying4 _), (trodAll_cons_mk (Below.trod HFr.laidOut (by kernel_rfl) (of_decide_eq_true (by kernel_rfl)) k0 bel lt0) (trodAll_cons_mk (Below.trod HFr.laidOut (by kernel_rfl) (of_decide_eq_true (by kernel_rfl)) k1 bel lt1) trodAll_mk0)), rfl, bel.frame _, fun h => by cases h⟩

/-- THE STATEMENT. -/
theorem holds : Rows.TopHullsSaid :=
  OpenClaim.holds_of_wide 11 Try.f11 rfl rfl rfl rfl rfl rfl rfl ⟨rfl, rfl, rfl, rfl, rfl⟩ rfl rfl rfl rfl rfl (by kernel_rfl) Try.func11 (by kernel_rfl)
    (of_decide_eq_true (by kernel_rfl)) (by unfold Func.isWrapper; first | (rw [if_pos (by decide +kernel)]; kernel_rfl) | (rw [if_neg (by decide +kernel)]; exact ⟨rfl, rfl⟩))
    (fun os started H enc _ => lifted os started H enc)
#print axioms holds
end Go.Proofs.Ytojfonenpplahaa.topHulls
