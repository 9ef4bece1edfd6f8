/- Proved: two valid polygons meet exactly if two of their edges meet or corner 0 of one belongs to the other (the law IntersectCriterion returns true).
Conditions: none on the arguments. -/
import Derived.Test.YtojfonenpplahaaIxH
import Derived.Test.YtojfonenpplahaaIxI
import Derived.Test.YtojfonenpplahaaHlFr
namespace Go.Proofs.Ytojfonenpplahaa.intersectCriterion
open Go.ChangeShapes Go.WideShapes Go.ChangeAt Go.RowKit
set_option linter.unusedVariables false
set_option linter.unusedSimpArgs false

theorem goes_round {n : Nat} {P : Nat → Prop} (h : ∀ k, k < n → P k → P (nx n k)) {i : Nat} (hi : i < n) (hP : P i) : P 0 := by
  have key : ∀ d i, i + d + 1 = n → P i → P 0 := fun d => by
    induction d with
    | zero => intro i e hp; have := h i (by omega) hp; rwa [nx_last (by omega)] at this
    | succ d ih => intro i e hp; have := h i (by omega) hp; rw [nx_small (by omega)] at this; exact ih (i + 1) (by omega) this
  exact key (n - 1 - i) i (by omega) hP
theorem corner_zero {a b : List (Int × Int)} (h0 : 0 < b.length) (hE : anyE a b = false) {i : Nat} (hi : i < a.length) (h : inC a b i = true) : inC a b 0 = true := by
  have e0 : ∀ k j, k < a.length → j < b.length → eeB a b k j = false := fun k j hk hj => b_no fun g => by
    have := (anyE_iff a b).2 ⟨k, j, hk, hj, g⟩
    rw [hE] at this; cases this
  refine goes_round (P := fun k => inC a b k = true) (fun k hk hp => ?_) hi h
  have hp' : 0 ≤ locE b (cx a k) (cy a k) := of_decide_eq_true hp
  rcases loc_three b (cx a k) (cy a k) with g | g | g
  · obtain ⟨j, hj, o⟩ := loc_zero.1 g
    have := seg_common (on_first (a := cx a k) (b := cy a k) (c := cx a (nx a.length k)) (d := cy a (nx a.length k))) o
    have e := e0 k j hk hj
    unfold eeB at e
    rw [this] at e; cases e
  · have hF : Free2 b (cx a k) (cy a k) (cx a (nx a.length k)) (cy a (nx a.length k)) := fun j hj => by
      rw [segB_comm]; exact e0 k j hk hj
    have := loc_stays b h0 hF g
    exact decide_eq_true (by omega)
  · omega
theorem crit {a b : List (Int × Int)} (ha : 0 < a.length) (hb : 0 < b.length) : touchB a b = (anyE a b || (decide (0 ≤ locE b (cx a 0) (cy a 0)) || decide (0 ≤ locE a (cx b 0) (cy b 0)))) := by
  have e1 : decide (0 ≤ locE b (cx a 0) (cy a 0)) = inC a b 0 := rfl
  have e2 : decide (0 ≤ locE a (cx b 0) (cy b 0)) = inC b a 0 := rfl
  rw [e1, e2]
  unfold touchB
  cases hE : anyE a b
  · have hE2 : anyE b a = false := b_no fun g => by
      obtain ⟨i, j, hi, hj, e⟩ := (anyE_iff b a).1 g
      have := (anyE_iff a b).2 ⟨j, i, hj, hi, by rw [eeB_comm]; exact e⟩
      rw [hE] at this; cases this
    have c : ∀ a b : List (Int × Int), 0 < a.length → 0 < b.length → anyE a b = false → anyC a b = inC a b 0 := fun a b ha hb h => by
      cases g : inC a b 0
      · refine b_no fun k => ?_
        obtain ⟨i, hi, e⟩ := (anyC_iff a b).1 k
        rw [corner_zero hb h hi e] at g; cases g
      · exact (anyC_iff a b).2 ⟨0, ha, g⟩
    rw [c a b ha hb hE, c b a hb ha hE2]
  · rfl
def someR (a b : List (Int × Int)) (k : Nat) : Bool := (List.range k).any (rowE a b)
def someJ (a b : List (Int × Int)) (i m : Nat) : Bool := someR a b i || (List.range m).any (eeB a b i)
theorem someJ_zero (a b : List (Int × Int)) (i : Nat) : someJ a b i 0 = someR a b i := by unfold someJ; simp
theorem someJ_succ (a b : List (Int × Int)) (i m : Nat) : someJ a b i (m + 1) = (someJ a b i m || eeB a b i m) := by unfold someJ; rw [List.range_succ, List.any_append]; simp [Bool.or_assoc]
theorem someJ_all (a b : List (Int × Int)) (i : Nat) : someJ a b i b.length = someR a b (i + 1) := by unfold someJ someR rowE; rw [List.range_succ, List.any_append]; simp
theorem someR_all (a b : List (Int × Int)) : someR a b a.length = anyE a b := rfl

set_option maxRecDepth 100000 in
set_option maxHeartbeats 16000000 in
theorem walk {w : World} (ao : Option Addr) (ca : Nat) (a : List (Int × Int)) (na : a.length ≤ 9223372036854775807) (hA : PRow w ao a) (bo : Option Addr) (cb : Nat) (b : List (Int × Int)) (nb : b.length ≤ 9223372036854775807) (hB : PRow w bo b) (W' : World) (hw : w = W') :
    Calls Try.prog 8 #[.slice ao a.length ca, .slice bo b.length cb] w fun e w' => e = .returned (.bool true) ∧ Below w.heap.size w w' := by
  have PA := Lib.hid hA
  have PB := Lib.hid hB
  clear hA hB hw
  go_enter Try.func8, Try.ntmps8
  go_wp2_with fail
  refine (head5_is _).mono ?_
  rintro e w1 ⟨rfl, hb1⟩
  replace PA := Lib.hid (prow_below PA.out hb1)
  replace PB := Lib.hid (prow_below PB.out hb1)
  have B := Lib.hid (belT (Below.refl _ w) hb1)
  clear hb1
  obtain ⟨ta, ht⟩ : ∃ t, validP a = t := ⟨_, rfl⟩
  have HA := Lib.hid ht
  clear ht
  go_wp2_with fail
  refine (small_is ao _ ca a ta _ rfl HA na PA.out).mono ?_
  rintro e w2 ⟨rfl, hb2⟩
  replace PA := Lib.hid (prow_below PA.out hb2)
  replace PB := Lib.hid (prow_below PB.out hb2)
  replace B := Lib.hid (belT B.out hb2)
  clear hb2
  cases ta with
  | false =>
    go_wp2_with fail
    go_ret
    exact ⟨rfl, B.out⟩
  | true =>
  obtain ⟨tb, ht⟩ : ∃ t, validP b = t := ⟨_, rfl⟩
  have HB := Lib.hid ht
  clear ht
  go_wp2_with fail
  refine (small_is bo _ cb b tb _ rfl HB nb PB.out).mono ?_
  rintro e w3 ⟨rfl, hb3⟩
  replace PA := Lib.hid (prow_below PA.out hb3)
  replace PB := Lib.hid (prow_below PB.out hb3)
  replace B := Lib.hid (belT B.out hb3)
  clear hb3
  cases tb with
  | false =>
    go_wp2_with fail
    go_ret
    exact ⟨rfl, B.out⟩
  | true =>
  obtain ⟨a3, a12, aV⟩ := vparts HA.out
  have RA := Lib.hid aV.r2
  clear aV
  obtain ⟨b3, b12, bV⟩ := vparts HB.out
  have RB := Lib.hid bV.r2
  clear bV
  obtain ⟨t, ht⟩ : ∃ t, touchB a b = t := ⟨_, rfl⟩
  have HP := Lib.hid ht
  have HCR := Lib.hid (ht.symm.trans (crit (by omega) (by omega)))
  clear ht
  go_wp2_with fail
  go_loopw [6, 7] (fun s i wr => ∃ k : Nat, k ≤ a.length ∧ i = .int .i64 k ∧ s = .bool (someR a b k) ∧ Below w3.heap.size w3 wr) (fun _ i _ => a.length - (intOf i).toNat)
  case atStart => exact ⟨0, Nat.zero_le _, rfl, rfl, Below.refl _ _⟩
  case round =>
    obtain ⟨i, hi, rfl, rfl, hB⟩ := hrel
    by_cases hlt : i < a.length
    · have hii : (i : Int) < a.length := by omega
      obtain ⟨i', hi'⟩ : ∃ j, nx a.length i = j := ⟨_, rfl⟩
      have hil : i' < a.length := by rw [← hi']; exact nx_lt' hlt
      have hiil : (i' : Int) < a.length := by omega
      have ha0 : (a.length : Int) ≠ 0 := by omega
      have hpe : ¬ a = [] := fun e => by rw [e] at hlt; simp at hlt
      have ti : ((i : Int) + 1).tmod (a.length : Int) = (i' : Int) := by
        rw [← hi', Int.tmod_eq_emod_of_nonneg (by omega)]; unfold nx; simp
      have wi : IntKind.i64.wrap ((i : Int) + 1) = (i : Int) + 1 := wrap_k _ (by omega)
      have HI := Lib.hid hi'
      obtain ⟨g, hg⟩ : ∃ g, someR a b i = g := ⟨_, rfl⟩
      have HG := Lib.hid hg
      rw [hg]
      clear hg
      go_wp2_with fail
      go_loopw [6, 8] (fun s i' wr => ∃ k : Nat, k ≤ b.length ∧ i' = .int .i64 k ∧ s = .bool (someJ a b i k) ∧ Below w3.heap.size w3 wr) (fun _ i _ => b.length - (intOf i).toNat)
      case atStart => exact ⟨0, Nat.zero_le _, rfl, by rw [someJ_zero, HG.out], hB⟩
      case round =>
        obtain ⟨k, hk, rfl, rfl, hBx⟩ := hrel
        by_cases hkl : k < b.length
        · have hki : (k : Int) < b.length := by omega
          obtain ⟨k', hk'⟩ : ∃ j, nx b.length k = j := ⟨_, rfl⟩
          have hkkl : k' < b.length := by rw [← hk']; exact nx_lt' hkl
          have hkki : (k' : Int) < b.length := by omega
          have hb0 : (b.length : Int) ≠ 0 := by omega
          have hqe : ¬ b = [] := fun e => by rw [e] at hkl; simp at hkl
          have tk : ((k : Int) + 1).tmod (b.length : Int) = (k' : Int) := by
            rw [← hk', Int.tmod_eq_emod_of_nonneg (by omega)]; unfold nx; simp
          have wk : IntKind.i64.wrap ((k : Int) + 1) = (k : Int) + 1 := wrap_k _ (by omega)
          obtain ⟨g1, o1, rfl, c1, c2⟩ := prow_at PA.out hlt
          obtain ⟨g', o', ho', c3, c4⟩ := prow_at PA.out hil
          obtain ⟨rfl, rfl⟩ : g1 = g' ∧ o1 = o' := by simpa using ho'
          clear ho'
          obtain ⟨g2, o2, rfl, c5, c6⟩ := prow_at PB.out hkl
          obtain ⟨g', o', ho', c7, c8⟩ := prow_at PB.out hkkl
          obtain ⟨rfl, rfl⟩ : g2 = g' ∧ o2 = o' := by simpa using ho'
          clear ho'
          obtain ⟨i1, i2⟩ := RA.out i hlt
          obtain ⟨i3, i4⟩ := RA.out i' hil
          obtain ⟨i5, i6⟩ := RB.out k hkl
          obtain ⟨i7, i8⟩ := RB.out k' hkkl
          obtain ⟨v, hv⟩ : ∃ v, eeB a b i k = v := ⟨_, rfl⟩
          have HS : Hid (someJ a b i (k + 1) = (someJ a b i k || v)) := Lib.hid (by rw [someJ_succ, hv])
          unfold eeB at hv
          rw [hi', hk'] at hv
          obtain ⟨s, hs⟩ : ∃ s, someJ a b i k = s := ⟨_, rfl⟩
          rw [hs] at HS ⊢
          have c1' := (hBx.cell (World.block_lt_of_cell? w3 _ c1)).trans c1
          have Gc1 := fun p => cell_blw (w := wr) (a := ⟨g1, o1 + i * 2, none⟩) (World.block_lt_of_cell? wr ⟨g1, o1 + i * 2, none⟩ c1') c1' p
          have c2' := (hBx.cell (World.block_lt_of_cell? w3 _ c2)).trans c2
          have Gc2 := fun p => cell_blw (w := wr) (a := ⟨g1, o1 + i * 2 + 1, none⟩) (World.block_lt_of_cell? wr ⟨g1, o1 + i * 2 + 1, none⟩ c2') c2' p
          have c3' := (hBx.cell (World.block_lt_of_cell? w3 _ c3)).trans c3
          have Gc3 := fun p => cell_blw (w := wr) (a := ⟨g1, o1 + i' * 2, none⟩) (World.block_lt_of_cell? wr ⟨g1, o1 + i' * 2, none⟩ c3') c3' p
          have c4' := (hBx.cell (World.block_lt_of_cell? w3 _ c4)).trans c4
          have Gc4 := fun p => cell_blw (w := wr) (a := ⟨g1, o1 + i' * 2 + 1, none⟩) (World.block_lt_of_cell? wr ⟨g1, o1 + i' * 2 + 1, none⟩ c4') c4' p
          have c5' := (hBx.cell (World.block_lt_of_cell? w3 _ c5)).trans c5
          have Gc5 := fun p => cell_blw (w := wr) (a := ⟨g2, o2 + k * 2, none⟩) (World.block_lt_of_cell? wr ⟨g2, o2 + k * 2, none⟩ c5') c5' p
          have c6' := (hBx.cell (World.block_lt_of_cell? w3 _ c6)).trans c6
          have Gc6 := fun p => cell_blw (w := wr) (a := ⟨g2, o2 + k * 2 + 1, none⟩) (World.block_lt_of_cell? wr ⟨g2, o2 + k * 2 + 1, none⟩ c6') c6' p
          have c7' := (hBx.cell (World.block_lt_of_cell? w3 _ c7)).trans c7
          have Gc7 := fun p => cell_blw (w := wr) (a := ⟨g2, o2 + k' * 2, none⟩) (World.block_lt_of_cell? wr ⟨g2, o2 + k' * 2, none⟩ c7') c7' p
          have c8' := (hBx.cell (World.block_lt_of_cell? w3 _ c8)).trans c8
          have Gc8 := fun p => cell_blw (w := wr) (a := ⟨g2, o2 + k' * 2 + 1, none⟩) (World.block_lt_of_cell? wr ⟨g2, o2 + k' * 2 + 1, none⟩ c8') c8' p
          generalize cx a i = x1 at *
          generalize cy a i = x2 at *
          generalize cx a i' = y1 at *
          generalize cy a i' = y2 at *
          generalize cx b k = u1 at *
          generalize cy b k = u2 at *
          generalize cx b k' = v1 at *
          generalize cy b k' = v2 at *
          have HV := Lib.hid hv
          have C := Lib.hid (fun p : BlwBy wr => cross_is x1 x2 y1 y2 u1 u2 v1 v2 v p.x HV i1 i2 i3 i4 i5 i6 i7 i8)
          have HBX := Lib.hid hBx
          clear c1 c2 c3 c4 c5 c6 c7 c8 c1' c2' c3' c4' c5' c6' c7' c8' hv hs hi' hk' hBx hB i1 i2 i3 i4 i5 i6 i7 i8
          go_upto_region 11 with fail
          refine wb_region mixedP (by kernel_rfl) ?_
          repeat (refine wq_step (fun K hK => ?_); go_simp; first | (refine hK _ ?_; clear hK K) | (apply Exists.intro; refine ⟨fun _ => ?_, hK _ ?_⟩; (go_at_call 36; refine Calls.blw_of (C.out _)); clear hK K))
          refine wq_nil ?_
          intro _ hw'
          obtain ⟨pb, hw''⟩ := hw'
          subst hw''
          have HB3 := Lib.hid (HBX.out.trans (pb.hb.mono HBX.out.size))
          clear Gc1 Gc2 Gc3 Gc4 Gc5 Gc6 Gc7 Gc8 C HBX
          obtain ⟨w5, hb5⟩ := pb
          change Hid (Below w3.heap.size w3 w5) at HB3
          dsimp only
          clear hb5
          cases v with
          | true =>
            go_wp2_with fail
            go_roundw
            case rel => exact ⟨k + 1, by omega, by go_num, by rw [HS.out, Bool.or_true], HB3.out⟩
            case measure => simp [intOf]; omega
          | false =>
            go_wp2_with fail
            go_roundw
            case rel => exact ⟨k + 1, by omega, by go_num, by rw [HS.out, Bool.or_false], HB3.out⟩
            case measure => simp [intOf]; omega
        · have hkli : ¬ (k : Int) < b.length := by omega
          obtain rfl : k = b.length := by omega
          have HB3 := Lib.hid hBx
          rw [someJ_all]
          obtain ⟨s, hs⟩ : ∃ s, someR a b (i + 1) = s := ⟨_, rfl⟩
          rw [hs]
          have HS := Lib.hid hs
          clear hs hBx hB
          go_wp2_with fail
          go_roundw
          case rel => exact ⟨i + 1, by omega, by go_num, by rw [HS.out], HB3.out⟩
          case measure => simp [intOf]; omega
    · have hili : ¬ (i : Int) < a.length := by omega
      obtain rfl : i = a.length := by omega
      rw [someR_all]
      obtain ⟨s, hs⟩ : ∃ s, anyE a b = s := ⟨_, rfl⟩
      rw [hs]
      have HCR2 : Hid (t = (s || (decide (0 ≤ locE b (cx a 0) (cy a 0)) || decide (0 ≤ locE a (cx b 0) (cy b 0))))) := Lib.hid (by rw [HCR.out, hs])
      have B4 := Lib.hid (belT B.out hB)
      have PA4 := Lib.hid (prow_below PA.out hB)
      have PB4 := Lib.hid (prow_below PB.out hB)
      obtain ⟨g1, o1, rfl, c1, c2⟩ := prow_at PA4.out (show 0 < a.length by omega)
      obtain ⟨g2, o2, rfl, c5, c6⟩ := prow_at PB4.out (show 0 < b.length by omega)
      rw [Nat.zero_mul, Nat.add_zero] at c1 c2 c5 c6
      obtain ⟨i1, i2⟩ := RA.out 0 (by omega)
      obtain ⟨i5, i6⟩ := RB.out 0 (by omega)
      generalize cx a 0 = x1 at *
      generalize cy a 0 = x2 at *
      generalize cx b 0 = u1 at *
      generalize cy b 0 = u2 at *
      obtain ⟨p, hp⟩ : ∃ p, locE b x1 x2 = p := ⟨_, rfl⟩
      obtain ⟨q, hq⟩ : ∃ q, locE a u1 u2 = q := ⟨_, rfl⟩
      have H1 := Lib.hid hp
      have H2 := Lib.hid hq
      have HE : Hid (t = (s || (decide (0 ≤ p) || decide (0 ≤ q)))) := Lib.hid (by rw [HCR2.out, hp, hq])
      have ha0 : 0 < a.length := by omega
      have hb0 : 0 < b.length := by omega
      clear hs hp hq hB HCR HCR2 PA PB B hili
      cases s with
      | true =>
        have e : t = true := by rw [HE.out]; rfl
        subst e
        clear c1 c2 c5 c6
        go_wp2_with fail
        refine (polygons_is _ _ _ _ ca cb a b true _ rfl rfl HP (by omega) (by omega) a12 b12 PA4.out PB4.out RA.out RB.out).mono ?_
        rintro e w6 ⟨rfl, hb⟩
        go_wp2_with fail
        go_ret
        exact ⟨rfl, belT B4.out hb⟩
      | false =>
        go_wp2_with fail
        refine (locate_at _ _ cb b x1 x2 p _ rfl H1 (by omega) b12 PB4.out RB.out i1 i2).mono ?_
        rintro e w6 ⟨rfl, hb⟩
        have PA5 := Lib.hid (prow_below PA4.out hb)
        have PB5 := Lib.hid (prow_below PB4.out hb)
        have B5 := Lib.hid (belT B4.out hb)
        have d5 := cell_call c5 hb
        have d6 := cell_call c6 hb
        clear c1 c2 c5 c6 hb
        by_cases p0 : 0 ≤ p
        · have e : t = true := by rw [HE.out, decide_eq_true p0]; rfl
          subst e
          clear d5 d6
          go_wp2_with fail
          refine (polygons_is _ _ _ _ ca cb a b true _ rfl rfl HP (by omega) (by omega) a12 b12 PA5.out PB5.out RA.out RB.out).mono ?_
          rintro e w7 ⟨rfl, hb⟩
          go_wp2_with fail
          go_ret
          exact ⟨rfl, belT B5.out hb⟩
        · have p0' : decide (0 ≤ p) = false := decide_eq_false p0
          go_wp2_with fail
          refine (locate_at _ _ ca a u1 u2 q _ rfl H2 (by omega) a12 PA5.out RA.out i5 i6).mono ?_
          rintro e w7 ⟨rfl, hb⟩
          have PA6 := Lib.hid (prow_below PA5.out hb)
          have PB6 := Lib.hid (prow_below PB5.out hb)
          have B6 := Lib.hid (belT B5.out hb)
          clear d5 d6 hb
          by_cases q0 : 0 ≤ q
          · have e : t = true := by rw [HE.out, decide_eq_true q0, Bool.or_true]; rfl
            subst e
            go_wp2_with fail
            refine (polygons_is _ _ _ _ ca cb a b true _ rfl rfl HP (by omega) (by omega) a12 b12 PA6.out PB6.out RA.out RB.out).mono ?_
            rintro e w8 ⟨rfl, hb⟩
            go_wp2_with fail
            go_ret
            exact ⟨rfl, belT B6.out hb⟩
          · have e : t = false := by rw [HE.out, p0', decide_eq_false q0]; rfl
            subst e
            have q0' : decide (0 ≤ q) = false := decide_eq_false q0
            go_wp2_with fail
            refine (polygons_is _ _ _ _ ca cb a b false _ rfl rfl HP (by omega) (by omega) a12 b12 PA6.out PB6.out RA.out RB.out).mono ?_
            rintro e w8 ⟨rfl, hb⟩
            go_wp2_with fail
            go_ret
            exact ⟨rfl, belT B6.out hb⟩

set_option maxRecDepth 100000 in
theorem lifted (os : Os) (started : os.Started) (H : Type) (enc : TypeId × Value → H) :
    ReturnsInHanded {} Try.checked os 8 .any (Rows.intersectCriterionSpec.pre6 enc Try.prog Try.f8 Rows.intersectCriterionRow.domain false) (Rows.intersectCriterionSpec.post enc Try.prog Try.f8 false true false false) := by
  refine returnsInHanded_of_change (C := Try.checked) HFr.own started (by kernel_rfl) Try.func8
    (ChangeSpec.witness6 (enc := enc) (C := Try.checked) false ⟨#[], #[.slice none 0 0, .slice none 0 0], []⟩ 8 (by kernel_rfl) (by kernel_rfl) (by kernel_rfl) (by kernel_rfl)) ?_
  intro W base args ds gs before hval0 hW hcnd _
  have hval : ∀ (j : Nat) t v, Try.f8.params[j]? = some t → args[j]? = some v → Value.okWide Try.prog W .any base t v := hval0
  have hW' := hW
  obtain ⟨p, q, hA0, hV, rfl, hfz, hnd⟩ := hW
  have hA : DataW.TrodAll enc Try.prog W 0 (fun _ => true) true Try.f8.params.toList args.toList ds p := hA0
  rw [Try.params8] at hA hval
  obtain ⟨v0, vs0, d0, ds0, p0, q0, hargs, rfl, rfl, h0, r0⟩ := trodAll_cons hA
  obtain ⟨v1, vs1, d1, ds1, p1, q1, rfl, rfl, rfl, h1, r1⟩ := trodAll_cons r0
  obtain ⟨rfl, rfl, rfl⟩ := trodAll_nil r1
  obtain rfl : args = #[v0, v1] := by cases args; simp_all
  obtain ⟨rfl, rfl⟩ := trodVars_none hV
  have k0 := h0
  have lt0 : ∀ x ∈ p0, x.block < W.heap.size := by obtain ⟨m, hm⟩ := k0; exact DataW.trod_lt m _ _ _ hm
  obtain ⟨a0, cap0, l0, rfl, n0, w0⟩ := HFr.open_poly (hval 0 23 v0 rfl rfl) h0
  have k1 := h1
  have lt1 : ∀ x ∈ p1, x.block < W.heap.size := by obtain ⟨m, hm⟩ := k1; exact DataW.trod_lt m _ _ _ hm
  obtain ⟨a1, cap1, l1, rfl, n1, w1⟩ := HFr.open_poly (hval 1 23 v1 rfl rfl) h1
  clear hA0 hval0
  refine (walk a0 cap0 l0 n0 w0 a1 cap1 l1 n1 w1 W rfl).mono fun e W' ⟨he, bel⟩ => ?_
  subst he
  exact ⟨_, rfl, _, _, _, [], _, [], hW', trodAll_mk1 (shut_bool Try.underlying4 _), (trodAll_cons_mk (Below.trod HFr.laidOut (by kernel_rfl) (of_decide_eq_true (by kernel_rfl)) k0 bel lt0) (trodAll_cons_mk (Below.trod HFr.laidOut (by kernel_rfl) (of_decide_eq_true (by kernel_rfl)) k1 bel lt1) trodAll_mk0)), rfl, bel.frame _, fun h => by cases h⟩

/-- THE STATEMENT. -/
theorem holds : Rows.IntersectCriterionSaid :=
  OpenClaim.holds_of_wide 8 Try.f8 rfl rfl rfl rfl rfl rfl rfl ⟨rfl, rfl, rfl, rfl, rfl⟩ rfl rfl rfl rfl rfl (by kernel_rfl) Try.func8 (by kernel_rfl)
    (of_decide_eq_true (by kernel_rfl)) (by unfold Func.isWrapper; first | (rw [if_pos (by decide +kernel)]; kernel_rfl) | (rw [if_neg (by decide +kernel)]; exact ⟨rfl, rfl⟩))
    (fun os started H enc _ => lifted os started H enc)
#print axioms holds
end Go.Proofs.Ytojfonenpplahaa.intersectCriterion
