/- Proved: the hull does not depend on the order or the multiplicity of the points, and the hull of the hull's corners is the hull (the law HullCanonical returns true).
Conditions: none on the arguments. -/
import Derived.Test.YtjgkipgllpelhaaHlP
import Derived.Test.YtjgkipgllpelhaaHlFr
namespace Go.Proofs.Ytjgkipgllpelhaa.hullCanonical
open Go.ChangeShapes Go.WideShapes Go.ChangeAt Go.RowKit
set_option linter.unusedVariables false
set_option linter.unusedSimpArgs false

/-- The points picked. -/
def picked (l : List (Int × Int)) (us : List Int) : List (Int × Int) := us.map fun u => gp l (u.toNat % l.length)
theorem picked_len (l : List (Int × Int)) (us : List Int) : (picked l us).length = us.length := by simp [picked]
theorem picked_at (l : List (Int × Int)) (us : List Int) {k : Nat} (hk : k < us.length) : gp (picked l us) k = gp l ((us.getD k 0).toNat % l.length) := by
  rw [gp_lt (by rw [picked_len]; exact hk)]
  unfold picked
  rw [List.getElem_map, List.getD_eq_getElem?_getD, List.getElem?_eq_getElem hk]
  rfl
theorem turned_mem (l : List (Int × Int)) (us : List Int) (h0 : 0 < l.length) (q : Int × Int) : q ∈ picked l us ++ l.reverse ↔ q ∈ l := by
  rw [List.mem_append, List.mem_reverse]
  constructor
  · rintro (h | h)
    · unfold picked at h
      obtain ⟨u, _, e⟩ := List.mem_map.1 h
      rw [← e]
      exact gp_mem (Nat.mod_lt _ h0)
    · exact h
  · exact .inr
theorem turned_hull (l : List (Int × Int)) (us : List Int) (h0 : 0 < l.length) : hullL (picked l us ++ l.reverse) = hullL l := by
  have m := turned_mem l us h0
  rcases hull_cases l with ⟨e, h⟩ | ⟨_, h⟩
  · rw [e]
    exact hullL_nil fun a ha b hb c hc => h a ((m a).1 ha) b ((m b).1 hb) c ((m c).1 hc)
  · exact hullL_eq (isHull_mem (fun q => (m q).symm) h)
theorem hull_twice {l : List (Int × Int)} (h : hullL l ≠ []) : hullL (hullL l) = hullL l := by
  rcases hull_cases l with ⟨e, _⟩ | ⟨_, hH⟩
  · exact absurd e h
  · refine hullL_eq ⟨hH.1, fun i hi => gp_mem hi, fun i hi q hq => ?_, hH.2.2.2⟩
    obtain ⟨j, hj, e⟩ := mem_gp hq
    exact hH.2.2.1 i hi q (e ▸ hH.2.1 j hj)
theorem hull_allV {l : List (Int × Int)} (h : AllV l) : AllV (hullL l) := by
  rcases hull_cases l with ⟨e, _⟩ | ⟨_, hH⟩
  · rw [e]; intro i hi; simp at hi
  · exact (allV_iff _).2 fun q hq => by
      obtain ⟨j, hj, e⟩ := mem_gp hq
      rw [← e]
      exact (allV_iff l).1 h _ (hH.2.1 j hj)
theorem hullL_len (l : List (Int × Int)) : (hullL l).length ≤ 2 * l.length := by
  unfold hullL
  split
  · simp
  · exact hull_len l

set_option maxRecDepth 100000 in
set_option maxHeartbeats 4000000 in
theorem walk_w {w : World} (ao : Option Addr) (cap : Nat) (l : List (Int × Int)) (nl : l.length ≤ 9223372036854775807) (hP : PRow w ao l) (bo : Option Addr) (cb : Nat) (us : List Int) (nu : us.length ≤ 9223372036854775807) (hU : URow w bo us) :
    Calls Try.prog 5 #[.slice ao l.length cap, .slice bo us.length cb] w fun e w' => e = .returned (.bool true) ∧ Below w.heap.size w w' := by
  obtain ⟨t, ht⟩ : ∃ t, fitsL l = t := ⟨_, rfl⟩
  have HP := Lib.hid hP
  have HU := Lib.hid hU
  have HT := Lib.hid ht
  clear hP hU ht
  go_enter Try.func5, Try.ntmps5
  go_wp2_with fail
  refine (head_is _).mono ?_
  rintro e w1 ⟨rfl, b1⟩
  have B1 := Lib.hid b1
  have P1 := Lib.hid (prow_below HP.out b1)
  clear b1
  go_wp2_with fail
  refine (fits_is ao l.length cap l t w1 rfl HT nl P1.out).mono ?_
  rintro e wx ⟨rfl, rfl⟩
  cases t with
  | false =>
    go_wp2
    go_ret
    exact ⟨rfl, B1.out⟩
  | true =>
  obtain ⟨h40, hV⟩ := (fitsL_iff l).1 HT.out
  by_cases h20 : 20 < l.length
  · have h20' : (20 : Int) < l.length := by omega
    go_wp2
    go_ret
    exact ⟨rfl, B1.out⟩
  by_cases h0 : l.length = 0
  · have h0' : (l.length : Int) = 0 := by omega
    have HL0 := Lib.hid h0
    clear h0
    have e1 : ((l.length : Int) == 0) = true := by rw [beq_iff_eq]; exact h0'
    clear h0'
    go_wp2
    go_ret
    exact ⟨rfl, B1.out⟩
  by_cases hm : 20 < us.length
  · have hm' : (20 : Int) < us.length := by omega
    have e1 : ((l.length : Int) == 0) = false := by rw [beq_eq_false_iff_ne]; omega
    have h20' : ¬ (20 : Int) < l.length := by omega
    go_wp2
    all_goals first | (go_ret; exact ⟨rfl, B1.out⟩) | skip
  have e1 : ((l.length : Int) == 0) = false := by rw [beq_eq_false_iff_ne]; omega
  have h20' : ¬ (20 : Int) < l.length := by omega
  have hm' : ¬ (20 : Int) < us.length := by omega
  have HV := Lib.hid hV
  have hpos : 0 < l.length := by omega
  have HU1 := Lib.hid (urow_below HU.out B1.out)
  clear hV h0
  obtain ⟨H, hH⟩ : ∃ H, hullL l = H := ⟨_, rfl⟩
  obtain ⟨t, ht⟩ : ∃ t, decide (H ≠ []) = t := ⟨_, rfl⟩
  obtain ⟨T, hT⟩ : ∃ T, picked l us ++ l.reverse = T := ⟨_, rfl⟩
  have HTL : Hid (T.length = us.length + l.length) := Lib.hid (by rw [← hT, List.length_append, picked_len, List.length_reverse])
  have HHL : Hid (hullL l = H) := Lib.hid hH
  have HHT : Hid (hullL T = H) := Lib.hid (by rw [← hT, turned_hull l us hpos, hH])
  have HTT := Lib.hid ht
  have HVT : Hid (AllV T) := Lib.hid ((allV_iff T).2 fun q hq => (allV_iff l).1 HV.out q ((turned_mem l us hpos q).1 (by rw [hT]; exact hq)))
  have HVH : Hid (AllV H) := Lib.hid (by rw [← hH]; exact hull_allV HV.out)
  have HNH : Hid (H.length ≤ 40) := Lib.hid (by rw [← hH]; exact Nat.le_trans (hullL_len l) (by omega))
  have HTW : Hid (t = true → hullL H = H) := Lib.hid (fun h => by rw [← hH]; exact hull_twice (fun e => by rw [← ht, hH.symm.trans e] at h; simp at h))
  have HA1 : Hid (∀ k, k < us.length → gp T k = gp l ((us.getD k 0).toNat % l.length)) := Lib.hid (fun k hk => by
    rw [← hT, ← picked_at l us hk]
    show (picked l us ++ l.reverse).getD k (0, 0) = (picked l us).getD k (0, 0)
    rw [List.getD_eq_getElem?_getD, List.getElem?_append_left (by rw [picked_len]; exact hk), ← List.getD_eq_getElem?_getD])
  have HA2 : Hid (∀ k, k < l.length → gp T (us.length + k) = gp l (l.length - 1 - k)) := Lib.hid (fun k hk => by
    rw [← hT]
    show (picked l us ++ l.reverse).getD (us.length + k) (0, 0) = l.getD (l.length - 1 - k) (0, 0)
    rw [List.getD_eq_getElem?_getD, List.getElem?_append_right (by rw [picked_len]; omega), picked_len, show us.length + k - us.length = k by omega, List.getElem?_reverse hk, ← List.getD_eq_getElem?_getD])
  obtain ⟨i0, hi, hz0, hz1', hz2⟩ := info_parts infoP
  have hml : us.length ≤ 20 := by omega
  have hnl : l.length ≤ 20 := by omega
  clear hH ht hT
  go_wp2
  go_loopw [7, 8] (fun v i wr => ∃ k : Nat, k ≤ us.length ∧ i = .int .i64 k ∧ wr.ownsRow w1.heap.size 35 2 v k (flat (T.take k)) ∧ Below w1.heap.size w1 wr) (fun _ i _ => us.length - (intOf i).toNat)
  case atStart => exact ⟨0, Nat.zero_le _, rfl, ⟨by rfl, .inl ⟨rfl, rfl⟩⟩, Below.refl _ _⟩
  case round =>
    obtain ⟨k, hk, rfl, hown, hB⟩ := hrel
    by_cases hlt : k < us.length
    · obtain ⟨bz, oz, rfl, cz, hz1, hz3⟩ := HU1.out k hlt
      have HAK := Lib.hid (HA1.out k hlt)
      obtain ⟨z, hz⟩ : ∃ z, us.getD k 0 = z := ⟨_, rfl⟩
      rw [hz] at cz hz1 hz3
      obtain ⟨y, rfl⟩ : ∃ y : Nat, z = (y : Int) := ⟨z.toNat, by omega⟩
      have HZ := Lib.hid hz
      clear hz
      obtain ⟨j, hj⟩ : ∃ j, y % l.length = j := ⟨_, rfl⟩
      have hjl : j < l.length := by rw [← hj]; exact Nat.mod_lt _ hpos
      obtain ⟨b, o, rfl, c1, c2⟩ := prow_at P1.out hjl
      have d0 := (hB.cell (World.block_lt_of_cell? _ _ cz)).trans cz
      have d1 := (hB.cell (World.block_lt_of_cell? _ _ c1)).trans c1
      have d2 := (hB.cell (World.block_lt_of_cell? _ _ c2)).trans c2
      have hki : (k : Int) < us.length := by omega
      have hji : (j : Int) < l.length := by omega
      have hn0 : (l.length : Int) ≠ 0 := by omega
      have hwz : IntKind.i64.wrap (y : Int) = (y : Int) := wrap_k _ (by omega)
      have htm : (y : Int).tmod (l.length : Int) = (j : Int) := by
        rw [← hj, Int.tmod_eq_emod_of_nonneg (by omega)]; simp
      have htw : IntKind.i64.wrap (j : Int) = (j : Int) := wrap_k _ (by omega)
      have E : Hid (flat (T.take (k + 1)) = flat (T.take k) ++ [.int .i64 (cx l j), .int .i64 (cy l j)]) := Lib.hid (by
        have hg := HAK.out
        rw [HZ.out, Int.toNat_natCast, hj] at hg
        rw [flat_take T k (by rw [HTL.out]; omega), show cx T k = cx l j from congrArg Prod.fst hg, show cy T k = cy l j from congrArg Prod.snd hg])
      have hBs := hB.size
      clear c1 c2 cz hj
      generalize cx l j = A at *
      generalize cy l j = B at *
      go_wp2_with (at_builtin; refine wpList_append_own _ rfl _ _ 22 rfl w1.heap.size 35 i0 (.agg #[.int .i64 0, .int .i64 0]) 2 16 Try.underlying22 hi hz0 hz1' hz2 rfl (by decide) _ _ _ rfl (hown.alloc _) ⟨wr.heap.size, 0, none⟩ 1 1 [.int .i64 A, .int .i64 B] rfl rfl ?c1 ?c2 ?c3 ?c4 ?c5 ?_)
      case c1 =>
        intro j u hj
        match j, hj with
        | 0, hj => simp at hj; subst hj; exact cbx' _ _ _ _ 0 _ rfl rfl
        | 1, hj => simp at hj; subst hj; exact cbx' _ _ _ _ 1 _ rfl rfl
      case c2 => intro u hu; simp at hu; rcases hu with rfl | rfl <;> rfl
      case c3 => unfold maxLen; omega
      case c4 => omega
      case c5 => simp; omega
      · intro v' w3 hown' hgrow _
        have hB2 : Below w1.heap.size w1 w3 := (belA hB _).grown hgrow (by simp; omega) (fun g hg => (hown.lt g hg).1)
        rw [← E.out] at hown'
        clear hgrow hown hB
        go_wp2
        go_roundw
        case rel => exact ⟨k + 1, by omega, by go_num, hown', hB2⟩
        case measure => simp [intOf]; omega
    · obtain rfl : k = us.length := by omega
      have HO := Lib.hid hown
      have HB2 := Lib.hid hB
      clear hown hB
      generalize wr = w2 at *
      go_wp2
      go_loopw [7, 9] (fun v i wr => ∃ (q k : Nat) (z : Int), q + k = l.length ∧ z = (q : Int) - 1 ∧ i = .int .i64 z ∧ wr.ownsRow w1.heap.size 35 2 v (us.length + k) (flat (T.take (us.length + k))) ∧ Below w1.heap.size w1 wr) (fun _ i _ => (intOf i + 1).toNat)
      case atStart => exact ⟨l.length, 0, _, by omega, rfl, by first | rfl | go_num, HO.out, HB2.out⟩
      case round =>
        obtain ⟨q, k, z, hqk, hz, rfl, hown, hB⟩ := hrel
        cases q with
        | succ j =>
          obtain rfl : z = (j : Int) := by omega
          have hlt : k < l.length := by omega
          have hjl : j < l.length := by omega
          obtain ⟨b, o, rfl, c1, c2⟩ := prow_at P1.out hjl
          have d1 := (hB.cell (World.block_lt_of_cell? _ _ c1)).trans c1
          have d2 := (hB.cell (World.block_lt_of_cell? _ _ c2)).trans c2
          have E : Hid (flat (T.take (us.length + (k + 1))) = flat (T.take (us.length + k)) ++ [.int .i64 (cx l j), .int .i64 (cy l j)]) := Lib.hid (by
            have hg := HA2.out k hlt
            rw [show l.length - 1 - k = j by omega] at hg
            rw [show us.length + (k + 1) = us.length + k + 1 by omega, flat_take T (us.length + k) (by rw [HTL.out]; omega), show cx T (us.length + k) = cx l j from congrArg Prod.fst hg, show cy T (us.length + k) = cy l j from congrArg Prod.snd hg])
          have hji : (j : Int) < l.length := by omega
          have hjn : 0 ≤ (j : Int) := by omega
          have hBs := hB.size
          clear c1 c2 hz
          generalize cx l j = A at *
          generalize cy l j = B at *
          go_wp2_with (at_builtin; refine wpList_append_own _ rfl _ _ 22 rfl w1.heap.size 35 i0 (.agg #[.int .i64 0, .int .i64 0]) 2 16 Try.underlying22 hi hz0 hz1' hz2 rfl (by decide) _ _ _ rfl (hown.alloc _) ⟨wr.heap.size, 0, none⟩ 1 1 [.int .i64 A, .int .i64 B] rfl rfl ?c1 ?c2 ?c3 ?c4 ?c5 ?_)
          case c1 =>
            intro j u hj
            match j, hj with
            | 0, hj => simp at hj; subst hj; exact cbx' _ _ _ _ 0 _ rfl rfl
            | 1, hj => simp at hj; subst hj; exact cbx' _ _ _ _ 1 _ rfl rfl
          case c2 => intro u hu; simp at hu; rcases hu with rfl | rfl <;> rfl
          case c3 => unfold maxLen; omega
          case c4 => omega
          case c5 => simp; omega
          · intro v' w3 hown' hgrow _
            have hB2 : Below w1.heap.size w1 w3 := (belA hB _).grown hgrow (by simp; omega) (fun g hg => (hown.lt g hg).1)
            rw [← E.out] at hown'
            clear hgrow hown hB
            go_wp2
            go_roundw
            case rel => exact ⟨j, k + 1, (j : Int) - 1, by omega, rfl, by first | rfl | go_num, hown', hB2⟩
            case measure => first | (simp [intOf]; done) | (simp [intOf]; omega)
        | zero =>
          obtain rfl : z = -1 := by omega
          obtain rfl : k = l.length := by omega
          have R := prow_own1 (l := T) (by rw [HTL.out]; omega) (by have := hown; rw [List.take_of_length_le (by rw [HTL.out]; omega), ← HTL.out] at this; exact this)
          obtain ⟨g', c', rfl, hR⟩ := R
          have R2 := Lib.hid hR
          have B2 := Lib.hid (B1.out.trans (hB.mono B1.out.size))
          have P2 := Lib.hid (prow_below P1.out hB)
          clear hown hz hR hB
          generalize wr = w3 at *
          have NT : T.length ≤ 40 := by rw [HTL.out]; omega
          have NH := HNH.out
          go_wp2_with fail
          refine (of_is ao l.length cap l H t w3 rfl HHL HTT (by omega) P2.out HV.out).mono ?_
          rintro e w4 ⟨⟨x1, y1, rfl, hp1⟩, hb⟩
          have B4 := Lib.hid (B2.out.trans (hb.mono B2.out.size))
          have Q1 := Lib.hid hp1
          have R4 := Lib.hid (prow_below R2.out hb)
          clear hb hp1
          go_wp2_with fail
          refine (of_is (some ⟨g', 0, none⟩) T.length c' T H t w4 rfl HHT HTT (by omega) R4.out HVT.out).mono ?_
          rintro e w5 ⟨⟨x2, y2, rfl, hp2⟩, hb⟩
          have B5 := Lib.hid (B4.out.trans (hb.mono B4.out.size))
          have Q2 := Lib.hid hp2
          have Q3 := Lib.hid (prow_below Q1.out hb)
          clear hb hp2
          go_wp2_with fail
          refine (same_is x1 x2 H.length H.length y1 y2 H H true w5 rfl rfl (Lib.hid (by simp)) (by omega) (by omega) Q3.out Q2.out).mono ?_
          rintro e w6 ⟨rfl, hb⟩
          have B6 := Lib.hid (B5.out.trans (hb.mono B5.out.size))
          have Q4 := Lib.hid (prow_below Q3.out hb)
          clear hb
          cases t with
          | false =>
            go_wp2
            go_ret
            exact ⟨rfl, B6.out⟩
          | true =>
            go_wp2_with fail
            refine (of_is x1 H.length y1 H H true w6 rfl (Lib.hid (HTW.out (by trivial))) HTT (by omega) Q4.out HVH.out).mono ?_
            rintro e w7 ⟨⟨x3, y3, rfl, hp3⟩, hb⟩
            have B7 := Lib.hid (B6.out.trans (hb.mono B6.out.size))
            have Q5 := Lib.hid (prow_below Q4.out hb)
            have Q6 := Lib.hid hp3
            clear hb hp3
            go_wp2_with fail
            refine (same_is x1 x3 H.length H.length y1 y3 H H true w7 rfl rfl (Lib.hid (by simp)) (by omega) (by omega) Q5.out Q6.out).mono ?_
            rintro e w8 ⟨rfl, hb⟩
            have B8 := Lib.hid (B7.out.trans (hb.mono B7.out.size))
            clear hb
            go_wp2
            go_ret
            exact ⟨rfl, B8.out⟩

theorem walk {W : World} (ao : Option Addr) (cap : Nat) (l : List (Int × Int)) (nl : l.length ≤ 9223372036854775807) (hP : PRow W ao l) (bo : Option Addr) (cb : Nat) (us : List Int) (nu : us.length ≤ 9223372036854775807) (hU : URow W bo us) (W' : World) (hw : W = W') :
    Calls Try.prog 5 #[.slice ao l.length cap, .slice bo us.length cb] W fun e w' => e = .returned (.bool true) ∧ Below W.heap.size W w' := walk_w ao cap l nl hP bo cb us nu hU

set_option maxRecDepth 100000 in
theorem lifted (os : Os) (started : os.Started) (H : Type) (enc : TypeId × Value → H) :
    ReturnsInHanded {} Try.checked os 5 .any (Rows.hullCanonicalSpec.pre6 enc Try.prog Try.f5 Rows.hullCanonicalRow.domain false) (Rows.hullCanonicalSpec.post enc Try.prog Try.f5 false true false false) := by
  refine returnsInHanded_of_change (C := Try.checked) HFr.own started (by kernel_rfl) Try.func5
    (ChangeSpec.witness6 (enc := enc) (C := Try.checked) false ⟨#[], #[.slice none 0 0, .slice none 0 0], []⟩ 8 (by kernel_rfl) (by kernel_rfl) (by kernel_rfl) (by kernel_rfl)) ?_
  intro W base args ds gs before hval0 hW hcnd _
  have hval : ∀ (j : Nat) t v, Try.f5.params[j]? = some t → args[j]? = some v → Value.okWide Try.prog W .any base t v := hval0
  have hW' := hW
  obtain ⟨p, q, hA0, hV, rfl, hfz, hnd⟩ := hW
  have hA : DataW.TrodAll enc Try.prog W 0 (fun _ => true) true Try.f5.params.toList args.toList ds p := hA0
  rw [Try.params5] at hA hval
  obtain ⟨v0, vs0, d0, ds0, p0, q0, hargs, rfl, rfl, h0, r0⟩ := trodAll_cons hA
  obtain ⟨v1, vs1, d1, ds1, p1, q1, rfl, rfl, rfl, h1, r1⟩ := trodAll_cons r0
  obtain ⟨rfl, rfl, rfl⟩ := trodAll_nil r1
  obtain rfl : args = #[v0, v1] := by cases args; simp_all
  obtain ⟨rfl, rfl⟩ := trodVars_none hV
  have k0 := h0
  have lt0 : ∀ x ∈ p0, x.block < W.heap.size := by obtain ⟨m, hm⟩ := k0; exact DataW.trod_lt m _ _ _ hm
  obtain ⟨a0, cap0, l0, rfl, n0, w0⟩ := HFr.open_pts (hval 0 22 v0 rfl rfl) h0
  have k1 := h1
  have lt1 : ∀ x ∈ p1, x.block < W.heap.size := by obtain ⟨m, hm⟩ := k1; exact DataW.trod_lt m _ _ _ hm
  obtain ⟨a1, cap1, l1, rfl, n1, w1⟩ := HFr.open_u8s (hval 1 40 v1 rfl rfl) h1
  clear hA0 hval0
  refine (walk a0 cap0 l0 n0 w0 a1 cap1 l1 n1 w1 W rfl).mono fun e W' ⟨he, bel⟩ => ?_
  subst he
  exact ⟨_, rfl, _, _, _, [], _, [], hW', trodAll_mk1 (shut_bool Try.underlying4 _), (trodAll_cons_mk (Below.trod HFr.laidOut (by kernel_rfl) (of_decide_eq_true (by kernel_rfl)) k0 bel lt0) (trodAll_cons_mk (Below.trod HFr.laidOut (by kernel_rfl) (of_decide_eq_true (by kernel_rfl)) k1 bel lt1) trodAll_mk0)), rfl, bel.frame _, fun h => by cases h⟩

/-- THE STATEMENT. -/
theorem holds : Rows.HullCanonicalSaid :=
  OpenClaim.holds_of_wide 5 Try.f5 rfl rfl rfl rfl rfl rfl rfl ⟨rfl, rfl, rfl, rfl, rfl⟩ rfl rfl rfl rfl rfl (by kernel_rfl) Try.func5 (by kernel_rfl)
    (of_decide_eq_true (by kernel_rfl)) (by unfold Func.isWrapper; first | (rw [if_pos (by decide +kernel)]; kernel_rfl) | (rw [if_neg (by decide +kernel)]; exact ⟨rfl, rfl⟩))
    (fun os started H enc _ => lifted os started H enc)
#print axioms holds
end Go.Proofs.Ytjgkipgllpelhaa.hullCanonical
