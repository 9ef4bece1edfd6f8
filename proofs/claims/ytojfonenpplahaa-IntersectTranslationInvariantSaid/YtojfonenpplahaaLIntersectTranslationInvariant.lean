/- Proved: a polygon meets itself with the witness EdgesCross 0, 0, and a translation of two polygons does not change what FindContact returns (the law IntersectTranslationInvariant returns true).
Conditions: none on the arguments. -/
import Derived.Test.YtojfonenpplahaaIxH
import Derived.Test.YtojfonenpplahaaIxI
import Derived.Test.YtojfonenpplahaaIxM
import Derived.Test.YtojfonenpplahaaHlFr
namespace Go.Proofs.Ytojfonenpplahaa.intersectTranslationInvariant
open Go.ChangeShapes Go.WideShapes Go.ChangeAt Go.RowKit
set_option linter.unusedVariables false
set_option linter.unusedSimpArgs false

theorem firstI_congr {p q : Nat → Bool} {n : Nat} (h : ∀ j, j < n → p j = q j) : firstI p n = firstI q n := by
  rcases firstI_cases q n with ⟨e, g⟩ | ⟨k, hk, e, g1, g2⟩
  · rw [e]; exact firstI_none fun j hj => by rw [h j hj]; exact g j hj
  · rw [e]; exact firstI_some hk (fun j hj => by rw [h j (by omega)]; exact g2 j hj) (by rw [h k hk]; exact g1)
theorem any_congr' {p q : Nat → Bool} {n : Nat} (h : ∀ j, j < n → p j = q j) : (List.range n).any p = (List.range n).any q := by
  rw [Bool.eq_iff_iff, List.any_eq_true, List.any_eq_true]
  exact ⟨fun ⟨j, hj, e⟩ => ⟨j, hj, by rw [← h j (List.mem_range.1 hj)]; exact e⟩, fun ⟨j, hj, e⟩ => ⟨j, hj, by rw [h j (List.mem_range.1 hj)]; exact e⟩⟩
theorem ee_mov (a b : List (Int × Int)) (x y : Int) {i j : Nat} (hi : i < a.length) (hj : j < b.length) : eeB (movL a x y) (movL b x y) i j = eeB a b i j := by
  unfold eeB
  rw [movL_len, movL_len, (movL_at a x y hi).1, (movL_at a x y hi).2, (movL_at a x y (nx_lt' hi)).1, (movL_at a x y (nx_lt' hi)).2, (movL_at b x y hj).1, (movL_at b x y hj).2, (movL_at b x y (nx_lt' hj)).1, (movL_at b x y (nx_lt' hj)).2, segB_mov]
theorem row_mov (a b : List (Int × Int)) (x y : Int) {i : Nat} (hi : i < a.length) : rowE (movL a x y) (movL b x y) i = rowE a b i := by
  unfold rowE
  rw [movL_len]
  exact any_congr' fun j hj => ee_mov a b x y hi hj
theorem in_mov (a b : List (Int × Int)) (x y : Int) {i : Nat} (hi : i < a.length) : inC (movL a x y) (movL b x y) i = inC a b i := by
  unfold inC
  rw [(movL_at a x y hi).1, (movL_at a x y hi).2, movL_loc]
theorem con_mov (a b : List (Int × Int)) (x y : Int) : conT (movL a x y) (movL b x y) = conT a b := by
  unfold conT
  rw [movL_len, movL_len, firstI_congr fun i hi => row_mov a b x y hi, firstI_congr fun i hi => in_mov a b x y hi, firstI_congr fun i hi => in_mov b a x y hi]
  by_cases g : 0 ≤ firstI (rowE a b) a.length
  · rw [if_pos g, if_pos g]
    rcases firstI_cases (rowE a b) a.length with ⟨e, _⟩ | ⟨k, hk, e, _, _⟩
    · omega
    · rw [e, Int.toNat_natCast, firstI_congr fun j hj => ee_mov a b x y hk hj]
  · rw [if_neg g, if_neg g]
theorem con_self {a : List (Int × Int)} (h0 : 0 < a.length) : conT a a = (1, 0, 0, true) := by
  have e : eeB a a 0 0 = true := seg_common on_first on_first
  have r : rowE a a 0 = true := rowE_yes h0 e
  have f1 : firstI (rowE a a) a.length = 0 := firstI_some (k := 0) h0 (fun j hj => absurd hj (Nat.not_lt_zero _)) r
  have f2 : firstI (eeB a a 0) a.length = 0 := firstI_some (k := 0) h0 (fun j hj => absurd hj (Nat.not_lt_zero _)) e
  unfold conT
  rw [f1, if_pos (by omega), show (0 : Int).toNat = 0 from rfl, f2]

set_option maxRecDepth 100000 in
set_option maxHeartbeats 16000000 in
theorem walk {w : World} (ao : Option Addr) (ca : Nat) (a : List (Int × Int)) (na : a.length ≤ 9223372036854775807) (hA : PRow w ao a) (bo : Option Addr) (cb : Nat) (b : List (Int × Int)) (nb : b.length ≤ 9223372036854775807) (hB : PRow w bo b) (x : Int) (hx : (Lit.int .i16 x).wf = true) (y : Int) (hy : (Lit.int .i16 y).wf = true) (W' : World) (hw : w = W') :
    Calls Try.prog 9 #[.slice ao a.length ca, .slice bo b.length cb, .int .i16 x, .int .i16 y] w fun e w' => e = .returned (.bool true) ∧ Below w.heap.size w w' := by
  have PA := Lib.hid hA
  have PB := Lib.hid hB
  have bx : IntKind.i16.min ≤ x ∧ x ≤ IntKind.i16.max := by simpa [Lit.wf] using hx
  have by' : IntKind.i16.min ≤ y ∧ y ≤ IntKind.i16.max := by simpa [Lit.wf] using hy
  have x1 : -32768 ≤ x ∧ x ≤ 32767 := bx
  have y1 : -32768 ≤ y ∧ y ≤ 32767 := by'
  have wx : IntKind.i64.wrap x = x := wrap_k _ (by omega)
  have wy : IntKind.i64.wrap y = y := wrap_k _ (by omega)
  have KX : InV x := by unfold InV; omega
  have KY : InV y := by unfold InV; omega
  clear hA hB hw hx hy bx by'
  go_enter Try.func9, Try.ntmps9
  go_wp2_with fail
  refine (head5_is _).mono ?_
  rintro e w1 ⟨rfl, hb1⟩
  replace PA := Lib.hid (prow_below PA.out hb1)
  replace PB := Lib.hid (prow_below PB.out hb1)
  have B := Lib.hid (belT (Below.refl _ w) hb1)
  clear hb1
  obtain ⟨ta, ht⟩ : ∃ t, validP a = t := ⟨_, rfl⟩
  have HA := Lib.hid ht
  clear ht
  go_wp2_with fail
  refine (small_is ao _ ca a ta _ rfl HA na PA.out).mono ?_
  rintro e w2 ⟨rfl, hb2⟩
  replace PA := Lib.hid (prow_below PA.out hb2)
  replace PB := Lib.hid (prow_below PB.out hb2)
  replace B := Lib.hid (belT B.out hb2)
  clear hb2
  cases ta with
  | false =>
    go_wp2_with fail
    go_ret
    exact ⟨rfl, B.out⟩
  | true =>
  obtain ⟨tb, ht⟩ : ∃ t, validP b = t := ⟨_, rfl⟩
  have HB := Lib.hid ht
  clear ht
  go_wp2_with fail
  refine (small_is bo _ cb b tb _ rfl HB nb PB.out).mono ?_
  rintro e w3 ⟨rfl, hb3⟩
  replace PA := Lib.hid (prow_below PA.out hb3)
  replace PB := Lib.hid (prow_below PB.out hb3)
  replace B := Lib.hid (belT B.out hb3)
  clear hb3
  cases tb with
  | false =>
    go_wp2_with fail
    go_ret
    exact ⟨rfl, B.out⟩
  | true =>
  obtain ⟨a3, a12, aV⟩ := vparts HA.out
  have VA := Lib.hid aV
  have RA := Lib.hid aV.r2
  clear aV
  obtain ⟨b3, b12, bV⟩ := vparts HB.out
  have VB := Lib.hid bV
  have RB := Lib.hid bV.r2
  clear bV
  obtain ⟨c, hc⟩ : ∃ c, movL a x y = c := ⟨_, rfl⟩
  obtain ⟨d, hd⟩ : ∃ c, movL b x y = c := ⟨_, rfl⟩
  have HC := Lib.hid hc
  have HD := Lib.hid hd
  have lc : c.length = a.length := by rw [← hc, movL_len]
  have ld : d.length = b.length := by rw [← hd, movL_len]
  have LC := Lib.hid lc
  have LD := Lib.hid ld
  clear hc hd lc ld
  go_wp2_with fail
  refine (move_is ao _ ca a c x y _ rfl HC (by omega) (prow_alloc PA.out (.cells #[.int .i64 x, .int .i64 y] 47)) VA.out KX KY).mono ?_
  rintro e w4 ⟨⟨co, cc, rfl, pc⟩, hb4⟩
  replace PA := Lib.hid (prow_below (prow_alloc PA.out (.cells #[.int .i64 x, .int .i64 y] 47)) hb4)
  replace PB := Lib.hid (prow_below (prow_alloc PB.out (.cells #[.int .i64 x, .int .i64 y] 47)) hb4)
  have ZP := Lib.hid (blk_call (blk_new w3 (.cells #[.int .i64 x, .int .i64 y] 47) (w3.heap.size) rfl) hb4)
  replace B := Lib.hid (belT (belA B.out (.cells #[.int .i64 x, .int .i64 y] 47)) hb4)
  clear hb4
  have PC := Lib.hid pc
  clear pc
  have z0 := blk_cell ZP.out 0 _ rfl
  have z1 := blk_cell ZP.out 1 _ rfl
  go_wp2_with fail
  refine (move_is bo _ cb b d x y _ rfl HD (by omega) PB.out VB.out KX KY).mono ?_
  rintro e w5 ⟨⟨do', dc, rfl, pd⟩, hb5⟩
  clear z0 z1
  replace PA := Lib.hid (prow_below PA.out hb5)
  replace PB := Lib.hid (prow_below PB.out hb5)
  replace ZP := Lib.hid (blk_call ZP.out hb5)
  replace PC := Lib.hid (prow_below PC.out hb5)
  replace B := Lib.hid (belT B.out hb5)
  clear hb5
  have PD := Lib.hid pd
  clear pd
  clear ZP
  go_wp2_with fail
  refine (contact_is ao ao _ _ ca ca a a 1 0 0 true _ rfl rfl (Lib.hid (con_self (by omega))) (by omega) (by omega) a12 a12 PA.out PA.out RA.out RA.out).mono ?_
  rintro e w6 ⟨rfl, hb6⟩
  replace PA := Lib.hid (prow_below PA.out hb6)
  replace PB := Lib.hid (prow_below PB.out hb6)
  replace PC := Lib.hid (prow_below PC.out hb6)
  replace PD := Lib.hid (prow_below PD.out hb6)
  replace B := Lib.hid (belT B.out hb6)
  clear hb6
  obtain ⟨tc, ht⟩ : ∃ t, validP c = t := ⟨_, rfl⟩
  have GC := Lib.hid ht
  clear ht
  go_wp2_with fail
  refine (right_is co _ cc c tc _ LC.out GC (by rw [LC.out]; omega) (prow_alloc PC.out (.cells #[.int .i64 1, .int .i64 0, .int .i64 0] 37))).mono ?_
  rintro e w7 ⟨rfl, hb7⟩
  replace PA := Lib.hid (prow_below (prow_alloc PA.out (.cells #[.int .i64 1, .int .i64 0, .int .i64 0] 37)) hb7)
  replace PB := Lib.hid (prow_below (prow_alloc PB.out (.cells #[.int .i64 1, .int .i64 0, .int .i64 0] 37)) hb7)
  replace PC := Lib.hid (prow_below (prow_alloc PC.out (.cells #[.int .i64 1, .int .i64 0, .int .i64 0] 37)) hb7)
  replace PD := Lib.hid (prow_below (prow_alloc PD.out (.cells #[.int .i64 1, .int .i64 0, .int .i64 0] 37)) hb7)
  replace B := Lib.hid (belT (belA B.out (.cells #[.int .i64 1, .int .i64 0, .int .i64 0] 37)) hb7)
  clear hb7
  cases tc with
  | false =>
    go_wp2_with fail
    go_ret
    exact ⟨rfl, B.out⟩
  | true =>
  obtain ⟨td, ht⟩ : ∃ t, validP d = t := ⟨_, rfl⟩
  have GD := Lib.hid ht
  clear ht
  go_wp2_with fail
  refine (right_is do' _ dc d td _ LD.out GD (by rw [LD.out]; omega) PD.out).mono ?_
  rintro e w8 ⟨rfl, hb8⟩
  replace PA := Lib.hid (prow_below PA.out hb8)
  replace PB := Lib.hid (prow_below PB.out hb8)
  replace PC := Lib.hid (prow_below PC.out hb8)
  replace PD := Lib.hid (prow_below PD.out hb8)
  replace B := Lib.hid (belT B.out hb8)
  clear hb8
  cases td with
  | false =>
    go_wp2_with fail
    go_ret
    exact ⟨rfl, B.out⟩
  | true =>
  have RC := Lib.hid (vparts GC.out).2.2.r2
  have RD := Lib.hid (vparts GD.out).2.2.r2
  obtain ⟨p, i, j, t, ht⟩ : ∃ p i j t, conT a b = (p, i, j, t) := ⟨_, _, _, _, rfl⟩
  have HT := Lib.hid ht
  have HT2 : Hid (conT c d = (p, i, j, t)) := Lib.hid (by rw [← HC.out, ← HD.out, con_mov]; exact ht)
  clear ht
  go_wp2_with fail
  refine (contact_is ao bo _ _ ca cb a b p i j t _ rfl rfl HT (by omega) (by omega) a12 b12 PA.out PB.out RA.out RB.out).mono ?_
  rintro e w9 ⟨rfl, hb9⟩
  replace PA := Lib.hid (prow_below PA.out hb9)
  replace PB := Lib.hid (prow_below PB.out hb9)
  replace PC := Lib.hid (prow_below PC.out hb9)
  replace PD := Lib.hid (prow_below PD.out hb9)
  replace B := Lib.hid (belT B.out hb9)
  clear hb9
  go_wp2_with fail
  refine (contact_is co do' _ _ cc dc c d p i j t _ LC.out LD.out HT2 (by omega) (by omega) a12 b12 (prow_alloc PC.out (.cells #[.int .i64 p, .int .i64 i, .int .i64 j] 37)) (prow_alloc PD.out (.cells #[.int .i64 p, .int .i64 i, .int .i64 j] 37)) RC.out RD.out).mono ?_
  rintro e w10 ⟨rfl, hb10⟩
  replace PA := Lib.hid (prow_below (prow_alloc PA.out (.cells #[.int .i64 p, .int .i64 i, .int .i64 j] 37)) hb10)
  replace PB := Lib.hid (prow_below (prow_alloc PB.out (.cells #[.int .i64 p, .int .i64 i, .int .i64 j] 37)) hb10)
  replace PC := Lib.hid (prow_below (prow_alloc PC.out (.cells #[.int .i64 p, .int .i64 i, .int .i64 j] 37)) hb10)
  replace PD := Lib.hid (prow_below (prow_alloc PD.out (.cells #[.int .i64 p, .int .i64 i, .int .i64 j] 37)) hb10)
  have Z1 := Lib.hid (blk_call (blk_new w9 (.cells #[.int .i64 p, .int .i64 i, .int .i64 j] 37) (w9.heap.size) rfl) hb10)
  replace B := Lib.hid (belT (belA B.out (.cells #[.int .i64 p, .int .i64 i, .int .i64 j] 37)) hb10)
  clear hb10
  have z0 := blk_cell (blk_alloc Z1.out (.cells #[.int .i64 p, .int .i64 i, .int .i64 j] 37)) 0 _ rfl
  have z1 := blk_cell (blk_alloc Z1.out (.cells #[.int .i64 p, .int .i64 i, .int .i64 j] 37)) 1 _ rfl
  have z2 := blk_cell (blk_alloc Z1.out (.cells #[.int .i64 p, .int .i64 i, .int .i64 j] 37)) 2 _ rfl
  have zl := blk_lt Z1.out
  go_wp2_with fail
  go_ret
  exact ⟨by simp, (belA B.out (.cells #[.int .i64 p, .int .i64 i, .int .i64 j] 37))⟩

set_option maxRecDepth 100000 in
theorem lifted (os : Os) (started : os.Started) (H : Type) (enc : TypeId × Value → H) :
    ReturnsInHanded {} Try.checked os 9 .any (Rows.intersectTranslationInvariantSpec.pre6 enc Try.prog Try.f9 Rows.intersectTranslationInvariantRow.domain false) (Rows.intersectTranslationInvariantSpec.post enc Try.prog Try.f9 false true false false) := by
  refine returnsInHanded_of_change (C := Try.checked) HFr.own started (by kernel_rfl) Try.func9
    (ChangeSpec.witness6 (enc := enc) (C := Try.checked) false ⟨#[], #[.slice none 0 0, .slice none 0 0, .int .i16 0, .int .i16 0], []⟩ 8 (by kernel_rfl) (by kernel_rfl) (by kernel_rfl) (by kernel_rfl)) ?_
  intro W base args ds gs before hval0 hW hcnd _
  have hval : ∀ (j : Nat) t v, Try.f9.params[j]? = some t → args[j]? = some v → Value.okWide Try.prog W .any base t v := hval0
  have hW' := hW
  obtain ⟨p, q, hA0, hV, rfl, hfz, hnd⟩ := hW
  have hA : DataW.TrodAll enc Try.prog W 0 (fun _ => true) true Try.f9.params.toList args.toList ds p := hA0
  rw [Try.params9] at hA hval
  obtain ⟨v0, vs0, d0, ds0, p0, q0, hargs, rfl, rfl, h0, r0⟩ := trodAll_cons hA
  obtain ⟨v1, vs1, d1, ds1, p1, q1, rfl, rfl, rfl, h1, r1⟩ := trodAll_cons r0
  obtain ⟨v2, vs2, d2, ds2, p2, q2, rfl, rfl, rfl, h2, r2⟩ := trodAll_cons r1
  obtain ⟨v3, vs3, d3, ds3, p3, q3, rfl, rfl, rfl, h3, r3⟩ := trodAll_cons r2
  obtain ⟨rfl, rfl, rfl⟩ := trodAll_nil r3
  obtain rfl : args = #[v0, v1, v2, v3] := by cases args; simp_all
  obtain ⟨rfl, rfl⟩ := trodVars_none hV
  have k0 := h0
  have lt0 : ∀ x ∈ p0, x.block < W.heap.size := by obtain ⟨m, hm⟩ := k0; exact DataW.trod_lt m _ _ _ hm
  obtain ⟨a0, cap0, l0, rfl, n0, w0⟩ := HFr.open_poly (hval 0 23 v0 rfl rfl) h0
  have k1 := h1
  have lt1 : ∀ x ∈ p1, x.block < W.heap.size := by obtain ⟨m, hm⟩ := k1; exact DataW.trod_lt m _ _ _ hm
  obtain ⟨a1, cap1, l1, rfl, n1, w1⟩ := HFr.open_poly (hval 1 23 v1 rfl rfl) h1
  obtain ⟨a2, rfl, rfl, rfl, w2⟩ := open_int Try.underlying49 (hval 2 49 v2 rfl rfl) h2
  obtain ⟨a3, rfl, rfl, rfl, w3⟩ := open_int Try.underlying49 (hval 3 49 v3 rfl rfl) h3
  clear hA0 hval0
  refine (walk a0 cap0 l0 n0 w0 a1 cap1 l1 n1 w1 a2 w2 a3 w3 W rfl).mono fun e W' ⟨he, bel⟩ => ?_
  subst he
  exact ⟨_, rfl, _, _, _, [], _, [], hW', trodAll_mk1 (shut_bool Try.underlying4 _), (trodAll_cons_mk (Below.trod HFr.laidOut (by kernel_rfl) (of_decide_eq_true (by kernel_rfl)) k0 bel lt0) (trodAll_cons_mk (Below.trod HFr.laidOut (by kernel_rfl) (of_decide_eq_true (by kernel_rfl)) k1 bel lt1) (trodAll_cons_mk (shut_int Try.underlying49 w2) (trodAll_cons_mk (shut_int Try.underlying49 w3) trodAll_mk0)))), rfl, bel.frame _, fun h => by cases h⟩

/-- THE STATEMENT. -/
theorem holds : Rows.IntersectTranslationInvariantSaid :=
  OpenClaim.holds_of_wide 9 Try.f9 rfl rfl rfl rfl rfl rfl rfl ⟨rfl, rfl, rfl, rfl, rfl⟩ rfl rfl rfl rfl rfl (by kernel_rfl) Try.func9 (by kernel_rfl)
    (of_decide_eq_true (by kernel_rfl)) (by unfold Func.isWrapper; first | (rw [if_pos (by decide +kernel)]; kernel_rfl) | (rw [if_neg (by decide +kernel)]; exact ⟨rfl, rfl⟩))
    (fun os started H enc _ => lifted os started H enc)
#print axioms holds
end Go.Proofs.Ytojfonenpplahaa.intersectTranslationInvariant
