/- Contracts of hull.Decompose, of the reference's Same and SameAll. Condition: the slices read as the lists say; the coordinates are bounded. -/
import Derived.Test.YtnpadblfpaiofaaHlM
namespace Go.Proofs.Ytnpadblfpaiofaa
open Go.ChangeShapes Go.WideShapes Go.ChangeAt Go.RowKit
set_option linter.unusedVariables false
set_option linter.unusedSimpArgs false

set_option maxRecDepth 100000 in
set_option maxHeartbeats 1000000 in
theorem decompose_is (ao : Option Addr) (n cap : Nat) (ps : List (Int × Int)) (us : List (List (Int × Int))) (w : World) (hn : ps.length = n) (hu : Hid (decL ps = us)) (h0 : 0 < n) (hle : n ≤ 1000) (hP : PRow w ao ps) (hV : AllV ps) :
    Calls Try.prog 19 #[.slice ao n cap] w fun e w' => (∃ bo c, e = .returned (.slice bo us.length c) ∧ PRows w' bo us) ∧ Below w.heap.size w w' := by
  subst hn
  obtain ⟨t, ht⟩ : ∃ t, convB ps = t := ⟨_, rfl⟩
  have HP := Lib.hid hP
  have HV := Lib.hid hV
  have CV := Lib.hid (conv_is ao ps.length cap ps t w rfl (Lib.hid ht) (by omega) hP hV)
  have HT := Lib.hid ht
  clear hP hV ht
  go_enter Try.func19, Try.ntmps19
  go_wp2_with fail
  refine CV.out.mono ?_
  rintro e w1 ⟨rfl, hb⟩
  have HB := Lib.hid hb
  have HP1 := Lib.hid (prow_below HP.out hb)
  clear hb
  cases t with
  | true =>
    have E : Hid (us = [ps]) := Lib.hid (by rw [← hu.out]; unfold decL; rw [HT.out]; rfl)
    go_wp2_with fail
    refine (clone_is ao ps.length cap ps w1 rfl h0 (by omega) HP1.out).mono ?_
    rintro e w2 ⟨⟨g, c2, rfl, k1, k2, k3, k4, hH⟩, hb2⟩
    have HH := Lib.hid hH
    have HB2 := Lib.hid (HB.out.trans (hb2.mono HB.out.size))
    clear hH hb2
    go_wp2
    go_ret
    refine ⟨⟨some ⟨w2.heap.size, 0, none⟩, 1, by rw [E.out]; rfl, ?_⟩, belA HB2.out _⟩
    rw [E.out]
    intro i hi
    obtain rfl : i = 0 := by simp at hi; exact hi
    exact ⟨w2.heap.size, 0, some ⟨g, 0, none⟩, c2, rfl, cbx' _ _ _ _ 0 _ rfl rfl, prow_alloc (holds_row HH.out) _⟩
  | false =>
    have E : Hid (us = clipL ps) := Lib.hid (by rw [← hu.out]; unfold decL; rw [HT.out]; rfl)
    go_wp2_with fail
    refine (clone_is ao ps.length cap ps w1 rfl h0 (by omega) HP1.out).mono ?_
    rintro e w2 ⟨⟨g, c2, rfl, k1, k2, k3, k4, hH⟩, hb2⟩
    have HB2 := Lib.hid (HB.out.trans (hb2.mono HB.out.size))
    have CE := Lib.hid (clipEars_is g c2 ps.length ps w2 rfl hle k1 k2 k4 hH HV.out)
    have hz := HB.out.size
    clear hH hb2
    go_wp2_with fail
    refine CE.out.mono ?_
    rintro e w3 ⟨⟨v, rfl, hp⟩, hg⟩
    obtain ⟨bo, c, rfl, hr⟩ := hp.rows
    have HR := Lib.hid hr
    have HB3 := Lib.hid (HB2.out.grown hg HB2.out.size (fun k h => by cases h; omega))
    clear hp hr hg CE
    go_wp2
    go_ret
    exact ⟨⟨bo, c, by rw [E.out]; rfl, by rw [E.out]; exact HR.out⟩, HB3.out⟩

theorem drewN_cell (w : World) (q : Nat) (a : Addr) : (w.drewN q).cell? a = w.cell? a := rfl
theorem drewN_at {w wr : World} {q : Nat} (h : wr = w.drewN q) (a : Addr) : wr.cell? a = w.cell? a := by rw [h]; rfl
theorem drewN_drew (w : World) (q : Nat) : (w.drewN q).drew = w.drewN (q + 1) := rfl
set_option maxHeartbeats 1000000 in
theorem same_gr (ao bo : Option Addr) (n n' ca cb : Nat) (l m : List (Int × Int)) (t : Bool) (w : World) (hn : l.length = n) (hn' : m.length = n') (ht : Hid (decide (l = m) = t)) (hl : l.length ≤ 1000000) (hm : m.length ≤ 1000000) (hP : PRow w ao l) (hQ : PRow w bo m) :
    Calls Try.prog 14 #[.slice ao n ca, .slice bo n' cb] w fun e w' => e = .returned (.bool t) ∧ ∃ q, w' = w.drewN q := by
  subst hn hn'
  by_cases hlm : l.length = m.length
  · have hne : (((l.length : Int) != (m.length : Int))) = false := by rw [hlm]; simp
    go_enter Try.func14, Try.ntmps14
    go_wp2
    go_loopw [5] (fun i wr => ∃ k : Nat, k ≤ l.length ∧ i = .int .i64 k ∧ Hid (eqTo l m k) ∧ ∃ q, wr = w.drewN q) (fun i _ => l.length - (intOf i).toNat)
    case atStart => exact ⟨0, Nat.zero_le _, rfl, Lib.hid (fun i hi => by omega), 0, rfl⟩
    case round =>
      obtain ⟨k, hk, rfl, hE, q, hq⟩ := hrel
      by_cases hlt : k < l.length
      · obtain ⟨b, o, rfl, c1, c2⟩ := prow_at hP hlt
        obtain ⟨b', o', rfl, c3, c4⟩ := prow_at hQ (hlm ▸ hlt)
        have d1 := (drewN_at hq _).trans c1
        have d2 := (drewN_at hq _).trans c2
        have d3 := (drewN_at hq _).trans c3
        have d4 := (drewN_at hq _).trans c4
        have HQQ := Lib.hid hq
        have hki : (k : Int) < l.length := by omega
        have hki2 : (k : Int) < m.length := by omega
        clear c1 c2 c3 c4 hq
        have HEK := Lib.hid (fun (h1 : cx l k = cx m k) (h2 : cy l k = cy m k) => (fun i hi => by
          by_cases e : i = k
          · subst e; exact ⟨h1, h2⟩
          · exact hE.out i (by omega) : eqTo l m (k + 1)))
        have HNE := Lib.hid (fun (h : ¬ (cx l k = cx m k ∧ cy l k = cy m k)) => (fun e => h (by rw [e]; exact ⟨rfl, rfl⟩) : ¬ l = m))
        generalize cx l k = x at *
        generalize cy l k = y at *
        generalize cx m k = x' at *
        generalize cy m k = y' at *
        go_upto_region 6 with fail
        by_cases hx : x = x'
        · subst hx
          by_cases hy : y = y'
          · subst hy
            go_region
            all_goals
              go_wp2
              exact ⟨⟨k + 1, by omega, by go_num, Lib.hid (HEK.out rfl rfl), q + 1, by rw [HQQ.out]; rfl⟩, by simp [intOf]; omega⟩
          · have HN := Lib.hid (HNE.out (fun h => hy h.2))
            go_region
            all_goals
              go_wp2
              go_ret
              exact ⟨ret_bool (by rw [← ht.out]; exact (decide_eq_false HN.out).symm), q + 1, by rw [HQQ.out]; rfl⟩
        · have HN := Lib.hid (HNE.out (fun h => hx h.1))
          go_region
          all_goals
            go_wp2
            go_ret
            exact ⟨ret_bool (by rw [← ht.out]; exact (decide_eq_false HN.out).symm), q + 1, by rw [HQQ.out]; rfl⟩
      · have HE : Hid (decide (l = m) = true) := Lib.hid (decide_eq_true (eq_of_to hlm (fun i hi => hE.out i (by omega))))
        have HQQ := Lib.hid hq
        clear hE hq
        go_wp2
        go_ret
        exact ⟨ret_bool (by rw [← ht.out]; exact HE.out.symm), q, HQQ.out⟩
  · have hne : (((l.length : Int) != (m.length : Int))) = true := by rw [bne_iff_ne]; omega
    have HE : Hid (decide (l = m) = false) := Lib.hid (decide_eq_false (fun e => hlm (by rw [e])))
    go_enter Try.func14, Try.ntmps14
    go_wp2
    go_ret
    exact ⟨ret_bool (by rw [← ht.out]; exact HE.out.symm), 0, rfl⟩
theorem same_gr2 (ao bo : Option Addr) (n n' ca cb : Nat) (l m : List (Int × Int)) (t : Bool) (w : World) (hn : l.length = n) (hn' : m.length = n') (ht : Hid (decide (l = m) = t)) (hl : l.length ≤ 1000000) (hm : m.length ≤ 1000000) (hP : PRow w ao l) (hQ : PRow w bo m) :
    Calls Try.prog 14 #[.slice ao n ca, .slice bo n' cb] w fun e w' => e = .returned (.bool t) ∧ ∃ q os, w' = Sort.grow (w.drewN q) os :=
  (same_gr ao bo n n' ca cb l m t w hn hn' ht hl hm hP hQ).mono fun e w' ⟨h, q, hq⟩ => ⟨h, q, #[], hq.trans (Sort.grow_empty _).symm⟩
theorem below_drewN (w : World) (q : Nat) : Below w.heap.size w (w.drewN q) := ⟨rfl, rfl, rfl, Nat.le_refl _, fun _ _ => rfl⟩
theorem same_is (ao bo : Option Addr) (n n' ca cb : Nat) (l m : List (Int × Int)) (t : Bool) (w : World) (hn : l.length = n) (hn' : m.length = n') (ht : Hid (decide (l = m) = t)) (hl : l.length ≤ 1000000) (hm : m.length ≤ 1000000) (hP : PRow w ao l) (hQ : PRow w bo m) :
    Calls Try.prog 14 #[.slice ao n ca, .slice bo n' cb] w fun e w' => e = .returned (.bool t) ∧ Below w.heap.size w w' :=
  (same_gr ao bo n n' ca cb l m t w hn hn' ht hl hm hP hQ).mono fun e w' ⟨h, q, hq⟩ => ⟨h, by rw [hq]; exact below_drewN w q⟩

theorem prow_drewN {w : World} {ao : Option Addr} {l : List (Int × Int)} (h : PRow w ao l) (q : Nat) : PRow (w.drewN q) ao l := h
/-- Each of the lists is no longer than that. -/
def AllLen (pss : List (List (Int × Int))) (N : Nat) : Prop := ∀ i, i < pss.length → (pss.getD i []).length ≤ N
set_option maxRecDepth 100000 in
set_option maxHeartbeats 1000000 in
theorem sameAll_is (ao bo : Option Addr) (n n' ca cb : Nat) (l m : List (List (Int × Int))) (t : Bool) (w : World) (hn : l.length = n) (hn' : m.length = n') (ht : Hid (decide (l = m) = t)) (hl : l.length ≤ 1000000) (hL : AllLen l 1000) (hM : AllLen m 1000) (hP : PRows w ao l) (hQ : PRows w bo m) :
    Calls Try.prog 18 #[.slice ao n ca, .slice bo n' cb] w fun e w' => e = .returned (.bool t) ∧ Below w.heap.size w w' := by
  subst hn hn'
  by_cases hlm : l.length = m.length
  · have hne : (((l.length : Int) != (m.length : Int))) = false := by rw [hlm]; simp
    have HLM := Lib.hid hlm
    have HP := Lib.hid hP
    have HQ := Lib.hid hQ
    clear hP hQ hlm
    go_enter Try.func18, Try.ntmps18
    go_wp2
    go_loopw [5] (fun i wr => ∃ k : Nat, k ≤ l.length ∧ i = .int .i64 k ∧ (∀ j, j < k → l.getD j [] = m.getD j []) ∧ Below w.heap.size w wr) (fun i _ => l.length - (intOf i).toNat)
    case atStart => exact ⟨0, Nat.zero_le _, rfl, fun j hj => by omega, Below.refl _ _⟩
    case round =>
      obtain ⟨k, hk, rfl, hE, hB⟩ := hrel
      have HE := Lib.hid hE
      have HB := Lib.hid hB
      clear hE hB
      by_cases hlt : k < l.length
      · have hmk : k < m.length := by have := HLM.out; omega
        obtain ⟨b, o, a1, c1, rfl, d1, p1⟩ := prows_below HP.out HB.out k hlt
        obtain ⟨b', o', a2, c2, rfl, d2, p2⟩ := prows_below HQ.out HB.out k hmk
        obtain ⟨s, hs⟩ : ∃ s, decide (l.getD k [] = m.getD k []) = s := ⟨_, rfl⟩
        have HS := Lib.hid hs
        have C := Lib.hid (fun (nn : Nat) (os : Array Obj) => same_gr2 a1 a2 (l.getD k []).length (m.getD k []).length c1 c2 (l.getD k []) (m.getD k []) s (Sort.grow (wr.drewN nn) os) rfl rfl HS (Nat.le_trans (hL k hlt) (by omega)) (Nat.le_trans (hM k hmk) (by omega)) (prow_below p1 (below_gr wr nn os)) (prow_below p2 (below_gr wr nn os)))
        have z1 := World.block_lt_of_cell? wr _ d1
        have z2 := World.block_lt_of_cell? wr _ d2
        generalize (l.getD k []).length = e1 at *
        generalize (m.getD k []).length = e2 at *
        have G1 := fun n os => cell_grown (n := n) (os := os) z1 d1
        have G2 := fun n os => cell_grown (n := n) (os := os) z2 d2
        have hkl : (k : Int) < l.length := by omega
        have hkl2 : (k : Int) < m.length := by omega
        clear hs p1 p2 d1 d2 z1 z2
        cases s with
        | true =>
          go_wp2_with fail
          refine wq_region mixedP (by kernel_rfl) ?_
          repeat (refine wq_step (fun K hK => ?_); go_simp; first | (refine hK _ ?_; clear hK K) | (apply Exists.intro; refine ⟨fun _ => ?_, hK _ ?_⟩; (first | (go_at_call 14; with_reducible refine Calls.grown_of (C.out _ _))); clear hK K))
          refine wq_nil ?_
          intro _ hw'
          obtain ⟨⟨nq, osq⟩, hw''⟩ := hw'
          subst hw''
          go_wp2
          go_roundw
          case rel => exact ⟨k + 1, by omega, by go_num, fun j hj => by
            rcases Nat.lt_or_ge j k with g | g
            · exact HE.out j g
            · rw [show j = k by omega]; exact of_decide_eq_true HS.out, HB.out.trans ((below_gr _ _ _).mono HB.out.size)⟩
          case measure => simp [intOf]; omega
        | false =>
          have HN : Hid (t = false) := Lib.hid (by rw [← ht.out]; exact decide_eq_false (fun e => of_decide_eq_false HS.out (by rw [e])))
          go_wp2_with fail
          refine wq_region mixedP (by kernel_rfl) ?_
          repeat (refine wq_step (fun K hK => ?_); go_simp; first | (refine hK _ ?_; clear hK K) | (apply Exists.intro; refine ⟨fun _ => ?_, hK _ ?_⟩; (first | (go_at_call 14; with_reducible refine Calls.grown_of (C.out _ _))); clear hK K))
          refine wq_nil ?_
          intro _ hw'
          obtain ⟨⟨nq, osq⟩, hw''⟩ := hw'
          subst hw''
          go_wp2
          go_ret
          exact ⟨ret_bool HN.out.symm, HB.out.trans ((below_gr _ _ _).mono HB.out.size)⟩
      · have hkl : ¬ (k : Int) < l.length := by omega
        have HY : Hid (t = true) := Lib.hid (by
          rw [← ht.out]
          refine decide_eq_true (List.ext_getElem HLM.out fun j h1 h2 => ?_)
          have := HE.out j (by omega)
          rw [List.getD_eq_getElem?_getD, List.getD_eq_getElem?_getD, List.getElem?_eq_getElem h1, List.getElem?_eq_getElem h2] at this
          exact this)
        go_wp2
        go_ret
        exact ⟨ret_bool HY.out.symm, HB.out⟩
  · have hne : (((l.length : Int) != (m.length : Int))) = true := by rw [bne_iff_ne]; omega
    have HE : Hid (t = false) := Lib.hid (by rw [← ht.out]; exact decide_eq_false (fun e => hlm (by rw [e])))
    clear hlm
    go_enter Try.func18, Try.ntmps18
    go_wp2
    go_ret
    exact ⟨ret_bool HE.out.symm, Below.refl _ _⟩
end Go.Proofs.Ytnpadblfpaiofaa
