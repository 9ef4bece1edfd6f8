/- Proved: a point belongs to a valid polygon exactly if it belongs to one of its parts, it is in the interior of at most one part, and then in the interior of the polygon (the law HullPartsCoverPolygon returns true).
Conditions: none on the arguments. -/
import Derived.Test.YtjgkipgllpelhaaHlU
import Derived.Test.YtjgkipgllpelhaaHlQ
import Derived.Test.YtjgkipgllpelhaaHlN
import Derived.Test.YtjgkipgllpelhaaHuG
import Derived.Test.YtjgkipgllpelhaaHlFr
namespace Go.Proofs.Ytjgkipgllpelhaa.hullPartsCoverPolygon
open Go.ChangeShapes Go.WideShapes Go.ChangeAt Go.RowKit
set_option linter.unusedVariables false
set_option linter.unusedSimpArgs false

def someB (us : List (List (Int × Int))) (p q : Int) (k : Nat) : Bool := (us.take k).any fun t => decide (0 ≤ locE t p q)
def cntN (us : List (List (Int × Int))) (p q : Int) (k : Nat) : Nat := (us.take k).countP fun t => decide (0 < locE t p q)
theorem someB_succ {us : List (List (Int × Int))} {p q : Int} {k : Nat} (h : k < us.length) : someB us p q (k + 1) = (someB us p q k || decide (0 ≤ locE (us.getD k []) p q)) := by
  unfold someB
  rw [List.take_succ_eq_append_getElem h, List.any_append, List.getD_eq_getElem?_getD, List.getElem?_eq_getElem h]
  simp
theorem cntN_succ {us : List (List (Int × Int))} {p q : Int} {k : Nat} (h : k < us.length) : cntN us p q (k + 1) = cntN us p q k + if 0 < locE (us.getD k []) p q then 1 else 0 := by
  unfold cntN
  rw [List.take_succ_eq_append_getElem h, List.countP_append, List.getD_eq_getElem?_getD, List.getElem?_eq_getElem h]
  simp [List.countP_cons]
theorem loc_one {ps : List (Int × Int)} {p q : Int} (h : 0 < locE ps p q) : locE ps p q = 1 := by
  have := loc_three ps p q
  omega
theorem cnt_le {us : List (List (Int × Int))} {p q : Int} (h : us.Pairwise fun s t => ¬ (locE s p q = 1 ∧ locE t p q = 1)) : us.countP (fun t => decide (0 < locE t p q)) ≤ 1 := by
  induction us with
  | nil => simp
  | cons t us ih =>
    obtain ⟨h1, h2⟩ := List.pairwise_cons.1 h
    rw [List.countP_cons]
    by_cases ht : 0 < locE t p q
    · have : us.countP (fun t => decide (0 < locE t p q)) = 0 := List.countP_eq_zero.2 fun s hs e => h1 s hs ⟨loc_one ht, loc_one (by simpa using e)⟩
      rw [this]; simp [ht]
    · have := ih h2
      simp [ht]; exact this
theorem cover {ps : List (Int × Int)} {us : List (List (Int × Int))} (h : validP ps = true) (hu : decL ps = us) (p q : Int) :
    (0 ≤ locE ps p q ↔ ∃ t, t ∈ us ∧ 0 ≤ locE t p q) ∧ (∀ t, t ∈ us → 0 < locE t p q → 0 < locE ps p q) ∧ us.countP (fun t => decide (0 < locE t p q)) ≤ 1 ∧ us.length ≤ 12 ∧ ∀ t, t ∈ us → 3 ≤ t.length ∧ t.length ≤ 12 ∧ AllV t := by
  obtain ⟨h3, h12, hV⟩ := valid_parts h
  cases hc : convB ps with
  | true =>
    rw [← hu, dec_conv hc]
    refine ⟨⟨fun k => ⟨_, List.mem_singleton.2 rfl, k⟩, fun ⟨t, ht, k⟩ => by rw [List.mem_singleton.1 ht] at k; exact k⟩, fun t ht k => by rw [List.mem_singleton.1 ht] at k; exact k, cnt_le (List.pairwise_singleton _ _), by simp, fun t ht => by rw [List.mem_singleton.1 ht]; exact ⟨h3, h12, hV⟩⟩
  | false =>
    have hcl : Clips ps us := by rw [← hu]; exact dec_clips h hc
    have hG : Good ps := (ccw_valid h).good
    refine ⟨hcl.loc hG p q, fun t ht k => by rw [hcl.inner hG ht (loc_one k)]; decide, cnt_le (hcl.apart hG p q), by have := clips_len hcl; omega, fun t ht => ?_⟩
    obtain ⟨q1, _, q3⟩ := hcl.part hG ht
    exact ⟨by omega, by omega, allV_sub hV q3⟩

set_option maxRecDepth 100000 in
set_option maxHeartbeats 8000000 in
theorem walk_w {w : World} (ao : Option Addr) (cap : Nat) (ps : List (Int × Int)) (nl : ps.length ≤ 9223372036854775807) (hP : PRow w ao ps) (x y : Int) :
    Calls Try.prog 8 #[.slice ao ps.length cap, .agg #[.int .i64 x, .int .i64 y]] w fun e w' => e = .returned (.bool true) ∧ Below w.heap.size w w' := by
  have HP := Lib.hid hP
  clear hP
  go_enter Try.func8, Try.ntmps8
  go_wp2_with fail
  refine (head_is _).mono ?_
  rintro e w1 ⟨rfl, b1⟩
  have B0 := belA (Below.refl _ w) (.cells #[.int .i64 x, .int .i64 y] 35)
  have X1 := blk_call (blk_new w (.cells #[.int .i64 x, .int .i64 y] 35) _ rfl) b1
  have B1 := Lib.hid (belT B0 b1)
  have P1 := Lib.hid (prow_below HP.out B1.out)
  clear b1 B0
  generalize hzx : w.heap.size = zx at *
  have HZX := Lib.hid hzx
  by_cases h12 : 12 < ps.length
  · have h12' : (12 : Int) < ps.length := by omega
    go_wp2
    go_ret
    exact ⟨rfl, by rw [HZX.out]; exact B1.out⟩
  have h12' : ¬ (12 : Int) < ps.length := by omega
  obtain ⟨t, ht⟩ : ∃ t, validP ps = t := ⟨_, rfl⟩
  have HT := Lib.hid ht
  have HX1 := Lib.hid X1
  clear ht X1 hzx
  go_wp2_with fail
  refine (right4_is ao _ cap ps t w1 rfl HT nl P1.out).mono ?_
  rintro e w2 ⟨rfl, hb⟩
  have B2 := Lib.hid (B1.out.trans (hb.mono (by have := B1.out.size; have := HZX.out; omega)))
  have P2 := Lib.hid (prow_below P1.out hb)
  have X2 := blk_call HX1.out hb
  have HX2 := Lib.hid X2
  have f0 := blk_cell X2 0 _ rfl
  have f1 := blk_cell X2 1 _ rfl
  have zX := blk_lt X2
  obtain ⟨u, hu⟩ : ∃ u, fitsL [(x, y)] = u := ⟨_, rfl⟩
  have HU := Lib.hid hu
  clear hb X2 hu
  go_wp2_with fail
  refine (fits_is (some ⟨w2.heap.size, 0, none⟩) 1 1 [(x, y)] u _ rfl HU (by decide) (prow_one (cbx _ _ _ _ 0 _ rfl rfl) (cbx _ _ _ _ 1 _ rfl rfl))).mono ?_
  rintro e wx ⟨rfl, rfl⟩
  have B3 := Lib.hid (B2.out.trans ((belA (Below.refl _ w2) (.cells #[.int .i64 x, .int .i64 y] 35)).mono (by have := B2.out.size; have := HZX.out; omega)))
  have P3 := Lib.hid (prow_below P2.out (belA (Below.refl _ w2) (.cells #[.int .i64 x, .int .i64 y] 35)))
  have HX3 := Lib.hid (blk_alloc HX2.out (.cells #[.int .i64 x, .int .i64 y] 35))
  clear f0 f1 zX
  generalize w2.alloc (.cells #[.int .i64 x, .int .i64 y] 35) = w3 at *
  cases t with
  | false =>
    go_wp2
    go_ret
    exact ⟨rfl, by rw [HZX.out]; exact B3.out⟩
  | true =>
  cases u with
  | false =>
    go_wp2
    go_ret
    exact ⟨rfl, by rw [HZX.out]; exact B3.out⟩
  | true =>
  obtain ⟨h3, _, hV⟩ := valid_parts HT.out
  have HV := Lib.hid hV
  have HXY : Hid (InV x ∧ InV y) := Lib.hid ((((fitsL_iff _).1 HU.out).2) 0 (by simp))
  obtain ⟨us, hus⟩ : ∃ us, decL ps = us := ⟨_, rfl⟩
  have HUS := Lib.hid hus
  obtain ⟨k1, k2, k3, k4, k5⟩ := cover HT.out hus x y
  have K1 := Lib.hid k1
  have K2 := Lib.hid k2
  have K3 := Lib.hid k3
  have K5 := Lib.hid k5
  clear hV hus k1 k2 k3 k5
  go_wp2_with fail
  refine (decompose_is ao _ cap ps us w3 rfl HUS (by omega) (by omega) P3.out HV.out).mono ?_
  rintro e w4 ⟨⟨bo, cb, rfl, hp⟩, hb⟩
  have B4 := Lib.hid (B3.out.trans (hb.mono (by have := B3.out.size; have := HZX.out; omega)))
  have P4 := Lib.hid (prow_below P3.out hb)
  have HX4 := Lib.hid (blk_call HX3.out hb)
  have Q4 := Lib.hid hp
  clear hb hp
  go_wp2
  go_loopw [9, 10, 11] (fun s c i wr => ∃ k : Nat, k ≤ us.length ∧ i = .int .i64 k ∧ s = .bool (someB us x y k) ∧ c = .int .i64 (cntN us x y k : Nat) ∧ Below w4.heap.size w4 wr) (fun _ _ i _ => us.length - (intOf i).toNat)
  case atStart => exact ⟨0, Nat.zero_le _, rfl, rfl, rfl, Below.refl _ _⟩
  case round =>
    obtain ⟨k, hk, rfl, rfl, rfl, hB⟩ := hrel
    have X5 := blk_call HX4.out hB
    have f0 := blk_cell X5 0 _ rfl
    have f1 := blk_cell X5 1 _ rfl
    have zX := blk_lt X5
    by_cases hlt : k < us.length
    · obtain ⟨q1, q2, q3⟩ := K5.out _ (getD_mem' hlt)
      obtain ⟨b, o, ro, rc, rfl, c1, hpr⟩ := Q4.out k hlt
      have HS1 := Lib.hid (someB_succ (p := x) (q := y) hlt)
      have HS2 := Lib.hid (cntN_succ (p := x) (q := y) hlt)
      have hki : (k : Int) < us.length := by omega
      have zb : b < w4.heap.size := World.block_lt_of_cell? w4 _ c1
      have zb2 : b < wr.heap.size := by have := hB.size; omega
      have R1 := Lib.hid (prow_below hpr hB)
      have d1 := (hB.cell zb).trans c1
      have HB := Lib.hid hB
      generalize us.getD k [] = T at *
      have QV := Lib.hid q3
      obtain ⟨v, hv⟩ : ∃ v, locE T x y = v := ⟨_, rfl⟩
      have hvv := loc_three T x y
      rw [hv] at HS1 HS2 hvv
      have HVV := Lib.hid hv
      generalize hS : someB us x y k = S at *
      generalize hc : cntN us x y k = c at *
      have hcb : c ≤ 12 := by rw [← hc]; exact Nat.le_trans (List.countP_le_length ..) (by rw [List.length_take]; omega)
      have t3 : ¬ (T.length : Int) < 3 := by omega
      clear hB c1 hpr q3 hv hS hc
      go_upto_region 16 with fail
      have C := Lib.hid (fun p : BlwBy wr => hasP_is ro T.length rc x y T v p.x rfl HVV (by omega) (prow_below R1.out p.hb) QV.out HXY.out.1 HXY.out.2)
      have G1 := fun p => cell_blw zb2 d1 p
      have G2 := fun p => cell_blw zX f0 p
      have G3 := fun p => cell_blw zX f1 p
      clear d1 f0 f1
      refine wb_region mixedP (by kernel_rfl) ?_
      repeat (refine wq_step (fun K hK => ?_); go_simp; first | (refine hK _ ?_; clear hK K) | (apply Exists.intro; refine ⟨fun _ => ?_, hK _ ?_⟩; (first | (go_at_call 23; refine Calls.blw_of (C.out _))); clear hK K))
      refine wq_nil ?_
      intro _ hw'
      obtain ⟨pb, hw''⟩ := hw'
      subst hw''
      have HB5 := Lib.hid (HB.out.trans (pb.hb.mono HB.out.size))
      clear G1 G2 G3 C HB R1 X5 zX zb2
      obtain ⟨w5, hb5⟩ := pb
      change Hid (Below w4.heap.size w4 w5) at HB5
      dsimp only
      by_cases v0 : 0 < v
      · have v1 : 0 ≤ v := by omega
        cases S with
        | true =>
          go_wp2
          go_roundw
          case rel => exact ⟨k + 1, by omega, by go_num, by rw [HS1.out]; rfl, by rw [HS2.out, if_pos v0]; go_num, HB5.out⟩
          case measure => simp [intOf]; omega
        | false =>
          go_wp2
          go_roundw
          case rel => exact ⟨k + 1, by omega, by go_num, by rw [HS1.out, decide_eq_true v1]; rfl, by rw [HS2.out, if_pos v0]; go_num, HB5.out⟩
          case measure => simp [intOf]; omega
      · by_cases v1 : 0 ≤ v
        · cases S with
          | true =>
            go_wp2
            go_roundw
            case rel => exact ⟨k + 1, by omega, by go_num, by rw [HS1.out]; rfl, by rw [HS2.out, if_neg v0]; go_num, HB5.out⟩
            case measure => simp [intOf]; omega
          | false =>
            go_wp2
            go_roundw
            case rel => exact ⟨k + 1, by omega, by go_num, by rw [HS1.out, decide_eq_true v1]; rfl, by rw [HS2.out, if_neg v0]; go_num, HB5.out⟩
            case measure => simp [intOf]; omega
        · cases S with
          | true =>
            go_wp2
            go_roundw
            case rel => exact ⟨k + 1, by omega, by go_num, by rw [HS1.out]; rfl, by rw [HS2.out, if_neg v0]; go_num, HB5.out⟩
            case measure => simp [intOf]; omega
          | false =>
            go_wp2
            go_roundw
            case rel => exact ⟨k + 1, by omega, by go_num, by rw [HS1.out, decide_eq_false v1]; rfl, by rw [HS2.out, if_neg v0]; go_num, HB5.out⟩
            case measure => simp [intOf]; omega
    · obtain rfl : k = us.length := by omega
      have P5 := Lib.hid (prow_below P4.out hB)
      have HB := Lib.hid (B4.out.trans (hB.mono (by have := B4.out.size; have := HZX.out; omega)))
      obtain ⟨v, hv⟩ : ∃ v, locE ps x y = v := ⟨_, rfl⟩
      have HVV := Lib.hid hv
      obtain ⟨S, hS⟩ : ∃ S, someB us x y us.length = S := ⟨_, rfl⟩
      obtain ⟨c, hc⟩ : ∃ c, cntN us x y us.length = c := ⟨_, rfl⟩
      have e1 : S = decide (0 ≤ v) := by
        rw [← hS, Bool.eq_iff_iff, decide_eq_true_eq, ← hv, K1.out]
        unfold someB
        rw [List.take_length, List.any_eq_true]
        simp only [decide_eq_true_eq]
      have e2 : c ≤ 1 := by rw [← hc]; unfold cntN; rw [List.take_length]; exact K3.out
      have e3 : c ≠ 0 → 0 < v := fun h => by
        have : 0 < (us.take us.length).countP fun t => decide (0 < locE t x y) := by have h' := h; rw [← hc] at h'; unfold cntN at h'; omega
        obtain ⟨t, ht, h0⟩ := List.countP_pos_iff.1 this
        rw [List.take_length] at ht
        rw [← hv]; exact K2.out t ht (by simpa using h0)
      rw [hS, hc]
      clear hB hv hS hc
      have E1 := Lib.hid e1
      have E3 := Lib.hid e3
      clear e1 e3
      go_wp2_with fail
      refine (hasP_is ao _ cap x y ps v _ rfl HVV (by omega) P5.out HV.out HXY.out.1 HXY.out.2).mono ?_
      rintro e w6 ⟨rfl, hb⟩
      have HB6 := Lib.hid (HB.out.trans (hb.mono (by have := HB.out.size; have := HZX.out; omega)))
      clear hb HB f0 f1 zX X5
      have hcc : c = 0 ∨ c = 1 := by omega
      by_cases v1 : 0 ≤ v
      · obtain rfl : S = true := by rw [E1.out, decide_eq_true v1]
        rcases hcc with rfl | rfl
        · go_wp2
          go_ret
          exact ⟨rfl, by rw [HZX.out]; exact HB6.out⟩
        · have v0 : 0 < v := E3.out (by decide)
          go_wp2
          go_ret
          exact ⟨rfl, by rw [HZX.out]; exact HB6.out⟩
      · obtain rfl : S = false := by rw [E1.out, decide_eq_false v1]
        have v1f : decide (0 ≤ v) = false := decide_eq_false v1
        rcases hcc with rfl | rfl
        · go_wp2
          go_ret
          exact ⟨rfl, by rw [HZX.out]; exact HB6.out⟩
        · exact absurd (E3.out (by decide)) (by omega)

theorem walk {W : World} (ao : Option Addr) (cap : Nat) (ps : List (Int × Int)) (nl : ps.length ≤ 9223372036854775807) (hP : PRow W ao ps) (x y : Int) (W' : World) (hw : W = W') :
    Calls Try.prog 8 #[.slice ao ps.length cap, .agg #[.int .i64 x, .int .i64 y]] W fun e w' => e = .returned (.bool true) ∧ Below W.heap.size W w' := walk_w ao cap ps nl hP x y

set_option maxRecDepth 100000 in
theorem lifted (os : Os) (started : os.Started) (H : Type) (enc : TypeId × Value → H) :
    ReturnsInHanded {} Try.checked os 8 .any (Rows.hullPartsCoverPolygonSpec.pre6 enc Try.prog Try.f8 Rows.hullPartsCoverPolygonRow.domain false) (Rows.hullPartsCoverPolygonSpec.post enc Try.prog Try.f8 false true false false) := by
  refine returnsInHanded_of_change (C := Try.checked) HFr.own started (by kernel_rfl) Try.func8
    (ChangeSpec.witness6 (enc := enc) (C := Try.checked) false ⟨#[], #[.slice none 0 0, .agg #[.int .i64 0, .int .i64 0]], []⟩ 8 (by kernel_rfl) (by kernel_rfl) (by kernel_rfl) (by kernel_rfl)) ?_
  intro W base args ds gs before hval0 hW hcnd _
  have hval : ∀ (j : Nat) t v, Try.f8.params[j]? = some t → args[j]? = some v → Value.okWide Try.prog W .any base t v := hval0
  have hW' := hW
  obtain ⟨p, q, hA0, hV, rfl, hfz, hnd⟩ := hW
  have hA : DataW.TrodAll enc Try.prog W 0 (fun _ => true) true Try.f8.params.toList args.toList ds p := hA0
  rw [Try.params8] at hA hval
  obtain ⟨v0, vs0, d0, ds0, p0, q0, hargs, rfl, rfl, h0, r0⟩ := trodAll_cons hA
  obtain ⟨v1, vs1, d1, ds1, p1, q1, rfl, rfl, rfl, h1, r1⟩ := trodAll_cons r0
  obtain ⟨rfl, rfl, rfl⟩ := trodAll_nil r1
  obtain rfl : args = #[v0, v1] := by cases args; simp_all
  obtain ⟨rfl, rfl⟩ := trodVars_none hV
  have k0 := h0
  have lt0 : ∀ x ∈ p0, x.block < W.heap.size := by obtain ⟨m, hm⟩ := k0; exact DataW.trod_lt m _ _ _ hm
  obtain ⟨a0, cap0, l0, rfl, n0, w0⟩ := HFr.open_poly (hval 0 23 v0 rfl rfl) h0
  have k1 := h1
  have lt1 : ∀ x ∈ p1, x.block < W.heap.size := by obtain ⟨m, hm⟩ := k1; exact DataW.trod_lt m _ _ _ hm
  obtain ⟨x1, y1, rfl⟩ := HFr.open_pt (hval 1 35 v1 rfl rfl) h1
  clear hA0 hval0
  refine (walk a0 cap0 l0 n0 w0 x1 y1 W rfl).mono fun e W' ⟨he, bel⟩ => ?_
  subst he
  exact ⟨_, rfl, _, _, _, [], _, [], hW', trodAll_mk1 (shut_bool Try.underlying4 _), (trodAll_cons_mk (Below.trod HFr.laidOut (by kernel_rfl) (of_decide_eq_true (by kernel_rfl)) k0 bel lt0) (trodAll_cons_mk (Below.trod HFr.laidOut (by kernel_rfl) (of_decide_eq_true (by kernel_rfl)) k1 bel lt1) trodAll_mk0)), rfl, bel.frame _, fun h => by cases h⟩

/-- THE STATEMENT. -/
theorem holds : Rows.HullPartsCoverPolygonSaid :=
  OpenClaim.holds_of_wide 8 Try.f8 rfl rfl rfl rfl rfl rfl rfl ⟨rfl, rfl, rfl, rfl, rfl⟩ rfl rfl rfl rfl rfl (by kernel_rfl) Try.func8 (by kernel_rfl)
    (of_decide_eq_true (by kernel_rfl)) (by unfold Func.isWrapper; first | (rw [if_pos (by decide +kernel)]; kernel_rfl) | (rw [if_neg (by decide +kernel)]; exact ⟨rfl, rfl⟩))
    (fun os started H enc _ => lifted os started H enc)
#print axioms holds
end Go.Proofs.Ytjgkipgllpelhaa.hullPartsCoverPolygon
