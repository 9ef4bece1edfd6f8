/- Contract of the reference of layer 4: Of (gift wrapping). Conditions: the slice reads as the list says; the coordinates are bounded. -/
import Derived.Test.YtnpadblfpaiofaaHmD
namespace Go.Proofs.Ytnpadblfpaiofaa
open Go.ChangeShapes Go.WideShapes Go.ChangeAt Go.RowKit
set_option linter.unusedVariables false
set_option linter.unusedSimpArgs false

/-- What gift wrapping runs through: from corner 0 of R, corner by corner, and back. -/
def Ring (l R : List (Int × Int)) : Prop := 0 < R.length ∧ R.length ≤ l.length ∧ (∀ q ∈ R, q ∈ l) ∧ (∀ q ∈ l, lle (gp R 0) q) ∧ ∀ i, i < R.length → nextF l (gp R i).1 (gp R i).2 = gp R (nx R.length i) ∧ (0 < i → gp R i ≠ gp R 0)

theorem own_set {w : World} {base Bs j n size : Nat} {e : TypeId} {v : Value} {xs : List Value} (h : w.ownsRow base e size v n xs) (hb : Bs < base) (u : Value) : (w.setCell ⟨Bs, j, none⟩ u).ownsRow base e size v n xs := by
  rcases h with ⟨h1, h2 | ⟨g, cap, cur, e1, e2, e3, r⟩⟩
  · exact ⟨h1, .inl h2⟩
  · exact ⟨h1, .inr ⟨g, cap, cur, e1, e2, blk_other e3 (by omega) u, r⟩⟩
theorem ring_last {l R : List (Int × Int)} (h : Ring l R) {k : Nat} (hk : k < R.length) (e : ¬ k + 1 < R.length) : nextF l (gp R k).1 (gp R k).2 = gp R 0 := by rw [(h.2.2.2.2 k hk).1, nx_last (by omega)]
theorem ring_step {l R : List (Int × Int)} (h : Ring l R) {k : Nat} (hk : k + 1 < R.length) : nextF l (gp R k).1 (gp R k).2 = gp R (k + 1) ∧ gp R (k + 1) ≠ gp R 0 := ⟨by rw [(h.2.2.2.2 k (by omega)).1, nx_small hk], (h.2.2.2.2 (k + 1) hk).2 (by omega)⟩

set_option maxRecDepth 100000 in
set_option maxHeartbeats 8000000 in
theorem of4_ring (ao : Option Addr) (n cap : Nat) (l R us : List (Int × Int)) (t : Bool) (w : World) (hn : l.length = n) (hR : Ring l R) (ht : Hid (convB R = t)) (hu : Hid (us = if t then R else [])) (h3 : 3 ≤ n) (hle : n ≤ 1000) (hP : PRow w ao l) (hV : AllV l) :
    Calls Try.prog 13 #[.slice ao n cap] w fun e w' => (∃ a c, e = .returned (.tuple #[.slice a us.length c, .bool t]) ∧ PRow w' a us) ∧ Below w.heap.size w w' := by
  subst hn
  have HP := Lib.hid hP
  have HV := Lib.hid hV
  have HR := Lib.hid hR
  have r0 := hR.1
  have rle := hR.2.1
  have HVR : Hid (AllV R) := Lib.hid ((allV_iff R).2 fun q hq => (allV_iff l).1 hV q (hR.2.2.1 q hq))
  obtain ⟨i0, hi, hz0, hz1', hz2⟩ := info_parts infoP
  have h3i : ¬ (l.length : Int) < 3 := by omega
  obtain ⟨x0, hx⟩ : ∃ x, cx R 0 = x := ⟨_, rfl⟩
  obtain ⟨y0, hy⟩ : ∃ x, cy R 0 = x := ⟨_, rfl⟩
  have HM : Hid ((x0, y0) ∈ l) := Lib.hid (by rw [← hx, ← hy]; exact hR.2.2.1 _ (gp_mem r0))
  have HL : Hid (∀ q ∈ l, lle (x0, y0) q) := Lib.hid (by rw [← hx, ← hy]; exact hR.2.2.2.1)
  have HX := Lib.hid (And.intro hx hy)
  clear hP hV hR hx hy
  go_enter Try.func13, Try.ntmps13
  go_wp2_with fail
  refine (first4_is ao _ cap l x0 y0 w rfl (by omega) HM.out HL (by omega) HP.out).mono ?_
  rintro e w1 ⟨rfl, hb⟩
  have HB1 := Lib.hid hb
  clear hb
  go_wp2_with fail
  have hs1 : (w1.alloc (.cells #[.int .i64 x0, .int .i64 y0] 35)).heap.size = w1.heap.size + 1 := by simp
  have hsw := HB1.out.size
  go_loopw [5, 6] (fun v i wr => ∃ (k : Nat) (s t : Int), k ≤ l.length ∧ k < R.length ∧ i = .int .i64 k ∧ Hid (cx R k = s ∧ cy R k = t) ∧ wr.ownsRow (w1.heap.size + 1) 35 2 v (k + 1) (flat (R.take (k + 1))) ∧ Below w.heap.size w wr ∧ Hid (wr.heap[w1.heap.size]? = some (.cells #[.int .i64 s, .int .i64 t] 35 (0, 0)))) (fun _ i _ => l.length - (intOf i).toNat)
  case atStart =>
    refine ⟨0, x0, y0, Nat.zero_le _, r0, rfl, HX, ?_, belA (belA HB1.out _) _, Lib.hid (blk_alloc (blk_new _ _ _ rfl) _)⟩
    have := World.ownsRow_lit (w1.alloc (.cells #[.int .i64 x0, .int .i64 y0] 35)) (base := w1.heap.size + 1) (e := 35) (size := 2) #[.int .i64 x0, .int .i64 y0] 1 (by rw [hs1]; exact Nat.le_refl _) (by decide) rfl
    rw [hs1] at this
    rw [show flat (R.take (0 + 1)) = [.int .i64 x0, .int .i64 y0] by rw [flat_take R 0 r0, HX.out.1, HX.out.2]; rfl]
    exact this
  case round =>
    obtain ⟨k, s, t', hk, hkR, rfl, ST, hown, hB, HX9⟩ := hrel
    have XY0 := HX
    clear HX
    have HX := HX9
    clear HX9
    by_cases hlt : k < l.length
    · have hki : (k : Int) < l.length := by omega
      obtain ⟨v1, v2⟩ := HVR.out k hkR
      rw [ST.out.1] at v1
      rw [ST.out.2] at v2
      obtain ⟨⟨x, y⟩, hxy⟩ : ∃ q, nextF l s t' = q := ⟨_, rfl⟩
      have NX := Lib.hid hxy
      have eG : gp R k = (s, t') := Prod.ext ST.out.1 ST.out.2
      have OW := Lib.hid hown
      have HB := Lib.hid hB
      have k1 := blk_cell HX.out 0 _ rfl
      have k2 := blk_cell HX.out 1 _ rfl
      have z1 := blk_lt HX.out
      clear hown hB hxy
      go_wp2_with fail
      refine (next4_is ao _ cap l s t' x y _ rfl NX (by omega) (prow_below HP.out HB.out) HV.out v1 v2).mono ?_
      rintro e w2 ⟨rfl, hb⟩
      replace OW := Lib.hid (own_bel OW.out hb)
      replace HX := Lib.hid (blk_call HX.out hb)
      replace HB := Lib.hid (HB.out.trans (hb.mono HB.out.size))
      clear hb k1 k2 z1 v1 v2
      have k1 := blk_cell HX.out 0 _ rfl
      have k2 := blk_cell HX.out 1 _ rfl
      have f1 := blk_fz HX.out 0
      have f2 := blk_fz HX.out 1
      have z1 := blk_lt HX.out
      go_upto_region 9 with fail
      clear k1 k2 f1 f2 z1
      replace HX := Lib.hid (blk_set (blk_set HX.out (j := 0) (.int .i64 x)) (j := 1) (.int .i64 y))
      replace OW := Lib.hid (own_set (own_set OW.out (Bs := w1.heap.size) (j := 0) (by omega) (.int .i64 x)) (Bs := w1.heap.size) (j := 1) (by omega) (.int .i64 y))
      replace HB := Lib.hid (belS (belS HB.out (p := ⟨w1.heap.size, 0, none⟩) hsw (.int .i64 x)) (p := ⟨w1.heap.size, 1, none⟩) hsw (.int .i64 y))
      generalize (w2.setCell ⟨w1.heap.size, 0, none⟩ (.int .i64 x)).setCell ⟨w1.heap.size, 1, none⟩ (.int .i64 y) = wq at *
      change Hid (wq.heap[w1.heap.size]? = some (.cells #[.int .i64 x, .int .i64 y] 35 (0, 0))) at HX
      have hlk : (R.take (k + 1)).length = k + 1 := by rw [List.length_take]; omega
      obtain ⟨g, gc, hv, hg⟩ := prow_own1 (l := R.take (k + 1)) (by rw [hlk]; omega) (by rw [hlk]; exact OW.out)
      rw [hlk] at hv
      subst hv
      obtain ⟨g', o', ho', d1, d2⟩ := prow_at hg (show 0 < (R.take (k + 1)).length by rw [hlk]; omega)
      obtain ⟨rfl, rfl⟩ : g = g' ∧ 0 = o' := by simpa using ho'
      clear ho' hg
      rw [Nat.zero_mul, Nat.add_zero, show cx (R.take (k + 1)) 0 = x0 by rw [← XY0.out.1]; unfold cx; simp [List.getD_eq_getElem?_getD]] at d1
      rw [Nat.zero_mul, show cy (R.take (k + 1)) 0 = y0 by rw [← XY0.out.2]; unfold cy; simp [List.getD_eq_getElem?_getD]] at d2
      have k1 := blk_cell HX.out 0 _ rfl
      have k2 := blk_cell HX.out 1 _ rfl
      have z1 := blk_lt HX.out
      have zb : g < wq.heap.size := World.block_lt_of_cell? wq ⟨g, 0, none⟩ d1
      have hk1 : 0 < k + 1 := by omega
      have hk1i : (0 : Int) < (k : Int) + 1 := by omega
      have G1 := fun p => cell_blw (w := wq) (a := ⟨g, 0, none⟩) zb d1 p
      have G2 := fun p => cell_blw (w := wq) (a := ⟨g, 0 + 1, none⟩) zb d2 p
      have G3 := fun p => cell_blw (w := wq) (a := ⟨w1.heap.size, 0, none⟩) z1 k1 p
      have G4 := fun p => cell_blw (w := wq) (a := ⟨w1.heap.size, 1, none⟩) z1 k2 p
      by_cases hlast : k + 1 < R.length
      · obtain ⟨e1, e2⟩ := ring_step HR.out hlast
        rw [eG, NX.out] at e1
        have XY2 : Hid (cx R (k + 1) = x ∧ cy R (k + 1) = y) := Lib.hid ⟨by have := congrArg Prod.fst e1; exact this.symm, by have := congrArg Prod.snd e1; exact this.symm⟩
        have ne : ¬ (x = x0 ∧ y = y0) := fun h => e2 (by rw [← e1, show gp R 0 = (x0, y0) from Prod.ext XY0.out.1 XY0.out.2, h.1, h.2])
        have E : Hid (flat (R.take (k + 1 + 1)) = flat (R.take (k + 1)) ++ [.int .i64 x, .int .i64 y]) := Lib.hid (by rw [flat_take R (k + 1) hlast, XY2.out.1, XY2.out.2])
        clear e1 e2 NX
        by_cases p1 : x = x0
        · have p2 : ¬ y = y0 := fun h => ne ⟨p1, h⟩
          subst x
          refine wb_region mixedP (by kernel_rfl) ?_
          repeat (refine wq_step (fun K hK => ?_); go_simp; first | (refine hK _ ?_; clear hK K) | (apply Exists.intro; refine ⟨fun _ => ?_, hK _ ?_⟩; (fail); clear hK K))
          refine wq_nil ?_
          intro _ hw'
          obtain ⟨pb, hw''⟩ := hw'
          subst hw''
          clear G1 G2 G3 G4 d1 d2 k1 k2 z1 zb
          replace OW := Lib.hid (own_bel OW.out pb.hb)
          replace HX := Lib.hid (blk_call HX.out pb.hb)
          replace HB := Lib.hid (HB.out.trans (pb.hb.mono HB.out.size))
          obtain ⟨w5, hb5⟩ := pb
          change Hid (Below w.heap.size w w5) at HB
          change Hid (w5.heap[w1.heap.size]? = _) at HX
          change Hid (w5.ownsRow _ _ _ _ _ _) at OW
          dsimp only
          clear hb5
          have k1 := blk_cell HX.out 0 _ rfl
          have k2 := blk_cell HX.out 1 _ rfl
          have z1 := blk_lt HX.out
          have hbs := HB.out.size
          go_wp2_with (at_builtin; refine wpList_append_own _ rfl (.tmp 29) (.tmp 31) 23 rfl (w1.heap.size + 1) 35 i0 (.agg #[.int .i64 0, .int .i64 0]) 2 16 Try.underlying23 hi hz0 hz1' hz2 rfl (by decide) _ _ _ rfl (OW.out.alloc _) ⟨w5.heap.size, 0, none⟩ 1 1 [.int .i64 x0, .int .i64 y] rfl rfl ?c1 ?c2 ?c3 ?c4 ?c5 ?_)
          try case c1 =>
            intro j u hj
            match j, hj with
            | 0, hj => simp at hj; subst hj; exact cbx' _ _ _ _ 0 _ rfl rfl
            | 1, hj => simp at hj; subst hj; exact cbx' _ _ _ _ 1 _ rfl rfl
          case c2 => first | exact ⟨rfl, rfl⟩ | (intro u hu; simp at hu; rcases hu with rfl | rfl <;> rfl)
          case c3 => unfold maxLen; omega
          case c4 => omega
          case c5 => first | omega | (simp; omega)
          · intro v' w3 hown' hgrow _
            have hB2 : Below w.heap.size w w3 := (belA HB.out _).grown hgrow (by simp; omega) (fun g hg => by have := (OW.out.lt g hg).1; omega)
            have hX2 := (hgrow.block w1.heap.size (blk_lt (blk_alloc HX.out _)) (fun e => by have := (OW.out.lt _ e.symm).1; omega)).trans (blk_alloc HX.out _)
            have hown2 : w3.ownsRow (w1.heap.size + 1) 35 2 v' (k + 1 + 1) (flat (R.take (k + 1 + 1))) := by rw [E.out]; exact hown'
            clear hgrow hown' k1 k2 z1
            go_wp2
            go_roundw
            case rel => exact ⟨k + 1, x0, y, by omega, by omega, by go_num, XY2, hown2, hB2, Lib.hid hX2⟩
            case measure => simp [intOf]; omega
        · have p1b : (x == x0) = false := by rw [beq_eq_false_iff_ne]; exact p1
          have p1d : decide (x = x0) = false := decide_eq_false p1
          refine wb_region mixedP (by kernel_rfl) ?_
          repeat (refine wq_step (fun K hK => ?_); go_simp; first | (refine hK _ ?_; clear hK K) | (apply Exists.intro; refine ⟨fun _ => ?_, hK _ ?_⟩; (fail); clear hK K))
          refine wq_nil ?_
          intro _ hw'
          obtain ⟨pb, hw''⟩ := hw'
          subst hw''
          clear G1 G2 G3 G4 d1 d2 k1 k2 z1 zb
          replace OW := Lib.hid (own_bel OW.out pb.hb)
          replace HX := Lib.hid (blk_call HX.out pb.hb)
          replace HB := Lib.hid (HB.out.trans (pb.hb.mono HB.out.size))
          obtain ⟨w5, hb5⟩ := pb
          change Hid (Below w.heap.size w w5) at HB
          change Hid (w5.heap[w1.heap.size]? = _) at HX
          change Hid (w5.ownsRow _ _ _ _ _ _) at OW
          dsimp only
          clear hb5
          have k1 := blk_cell HX.out 0 _ rfl
          have k2 := blk_cell HX.out 1 _ rfl
          have z1 := blk_lt HX.out
          have hbs := HB.out.size
          go_wp2_with (at_builtin; (refine wpList_append_own _ rfl (.tmp 29) (.tmp 31) 23 rfl (w1.heap.size + 1) 35 i0 (.agg #[.int .i64 0, .int .i64 0]) 2 16 Try.underlying23 hi hz0 hz1' hz2 rfl (by decide) _ _ _ rfl (OW.out.alloc _) ⟨w5.heap.size, 0, none⟩ 1 1 [.int .i64 x, .int .i64 y] rfl rfl ?e1 ?e2 ?e3 ?e4 ?e5 ?_))
          try case e1 =>
            intro j u hj
            match j, hj with
            | 0, hj => simp at hj; subst hj; exact cbx' _ _ _ _ 0 _ rfl rfl
            | 1, hj => simp at hj; subst hj; exact cbx' _ _ _ _ 1 _ rfl rfl
          case e2 => first | exact ⟨rfl, rfl⟩ | (intro u hu; simp at hu; rcases hu with rfl | rfl <;> rfl)
          case e3 => unfold maxLen; omega
          case e4 => omega
          case e5 => first | omega | (simp; omega)
          · intro v' w3 hown' hgrow _
            have hB2 : Below w.heap.size w w3 := (belA HB.out _).grown hgrow (by simp; omega) (fun g hg => by have := (OW.out.lt g hg).1; omega)
            have hX2 := (hgrow.block w1.heap.size (blk_lt (blk_alloc HX.out _)) (fun e => by have := (OW.out.lt _ e.symm).1; omega)).trans (blk_alloc HX.out _)
            have hown2 : w3.ownsRow (w1.heap.size + 1) 35 2 v' (k + 1 + 1) (flat (R.take (k + 1 + 1))) := by rw [E.out]; exact hown'
            clear hgrow hown' k1 k2 z1
            go_wp2
            go_roundw
            case rel => exact ⟨k + 1, x, y, by omega, by omega, by go_num, XY2, hown2, hB2, Lib.hid hX2⟩
            case measure => simp [intOf]; omega
      · have e1 := ring_last HR.out hkR hlast
        rw [eG, NX.out, show gp R 0 = (x0, y0) from Prod.ext XY0.out.1 XY0.out.2] at e1
        obtain ⟨rfl, rfl⟩ : x = x0 ∧ y = y0 := by simpa using e1
        clear e1 NX
        refine wb_region mixedP (by kernel_rfl) ?_
        repeat (refine wq_step (fun K hK => ?_); go_simp; first | (refine hK _ ?_; clear hK K) | (apply Exists.intro; refine ⟨fun _ => ?_, hK _ ?_⟩; (fail); clear hK K))
        refine wq_nil ?_
        intro _ hw'
        obtain ⟨pb, hw''⟩ := hw'
        subst hw''
        clear G1 G2 G3 G4 d1 d2 k1 k2 z1 zb
        replace OW := Lib.hid (own_bel OW.out pb.hb)
        replace HX := Lib.hid (blk_call HX.out pb.hb)
        replace HB := Lib.hid (HB.out.trans (pb.hb.mono HB.out.size))
        obtain ⟨w5, hb5⟩ := pb
        change Hid (Below w.heap.size w w5) at HB
        change Hid (w5.heap[w1.heap.size]? = _) at HX
        change Hid (w5.ownsRow _ _ _ _ _ _) at OW
        dsimp only
        clear hb5
        have hkk : k + 1 = R.length := by omega
        have HKK := Lib.hid hkk
        rw [hkk, List.take_length] at OW
        obtain ⟨g', gc', he, hg⟩ := prow_own1 (l := R) r0 OW.out
        obtain ⟨rfl, rfl⟩ : g = g' ∧ gc = gc' := by simpa using he
        clear he
        have HGR := Lib.hid hg
        have hki1 : (k : Int) + 1 = R.length := by omega
        clear hg
        go_wp2_with fail
        refine (conv4_is (some ⟨g, 0, none⟩) _ gc R t _ rfl ht (by omega) HGR.out HVR.out).mono ?_
        rintro e w6 ⟨rfl, hb⟩
        have HB6 := Lib.hid (HB.out.trans (hb.mono HB.out.size))
        have HG6 := Lib.hid (prow_below HGR.out hb)
        clear hb
        cases t with
        | false =>
          obtain rfl : us = [] := by have := hu.out; simpa using this
          go_wp2_with fail
          refine bodyPost_ret (v := .tuple #[.slice none 0 0, .bool false]) (by simp [results, Try.results13, go_sem]) rfl ?_
          exact ⟨⟨none, 0, rfl, fun i hi => absurd hi (by simp)⟩, HB6.out⟩
        | true =>
          obtain rfl : us = R := by have := hu.out; simpa using this
          go_wp2_with fail
          refine bodyPost_ret (v := .tuple #[.slice (some ⟨g, 0, none⟩) us.length gc, .bool true]) (by simp [results, Try.results13, go_sem]) rfl ?_
          exact ⟨⟨some ⟨g, 0, none⟩, gc, rfl, HG6.out⟩, HB6.out⟩
    · exfalso; omega
end Go.Proofs.Ytnpadblfpaiofaa
