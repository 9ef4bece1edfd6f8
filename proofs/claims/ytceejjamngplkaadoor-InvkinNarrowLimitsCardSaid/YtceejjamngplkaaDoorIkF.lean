/- Contracts of the reference of layer 8: Same, Has. Conditions: the slices read as the lists say; at most a million elements. -/
import Derived.Test.YtceejjamngplkaaDoorIkE0
namespace Go.Proofs.YtceejjamngplkaaDoor
open Go.ChangeShapes Go.WideShapes Go.ChangeAt Go.RowKit
set_option linter.unusedVariables false
set_option linter.unusedSimpArgs false
set_option maxRecDepth 100000
theorem drewN3 {w wr : World} {q : Nat} (h : wr = w.drewN q) (a : Addr) : wr.cell? a = w.cell? a := by rw [h]; rfl
def eqTo3 (l m : List J3) (k : Nat) : Prop := ∀ i, i < k → l.getD i j0 = m.getD i j0
theorem eq_of_to3 {l m : List J3} (h : l.length = m.length) (he : eqTo3 l m l.length) : l = m := by
  refine List.ext_getElem h (fun i h1 h2 => ?_)
  have := he i h1
  rwa [List.getD_eq_getElem?_getD, List.getD_eq_getElem?_getD, List.getElem?_eq_getElem h1, List.getElem?_eq_getElem h2] at this
set_option maxHeartbeats 2000000 in
theorem same3_is (ao bo : Option Addr) (n n' ca cb : Nat) (l m : List J3) (t : Bool) (w : World) (hn : l.length = n) (hn' : m.length = n') (ht : Hid (decide (l = m) = t)) (hl : l.length ≤ 1000000) (hm : m.length ≤ 1000000) (hP : PRow3 w ao l) (hQ : PRow3 w bo m) :
    Calls Tryd.prog 13 #[.slice ao n ca, .slice bo n' cb] w fun e w' => e = .returned (.bool t) ∧ Below w.heap.size w w' := by
  subst hn hn'
  by_cases hlm : l.length = m.length
  · have hne : (((l.length : Int) != (m.length : Int))) = false := by rw [hlm]; simp
    go_enter Tryd.func13, Tryd.ntmps13
    go_wp2
    go_loopw [5] (fun i wr => ∃ k : Nat, k ≤ l.length ∧ i = .int .i64 k ∧ Hid (eqTo3 l m k) ∧ ∃ q, wr = w.drewN q) (fun i _ => l.length - (intOf i).toNat)
    case atStart => exact ⟨0, Nat.zero_le _, rfl, Lib.hid (fun i hi => by omega), 0, rfl⟩
    case round =>
      obtain ⟨k, hk, rfl, hE, q, hq⟩ := hrel
      by_cases hlt : k < l.length
      · obtain ⟨b, o, rfl, c1, c2, c3⟩ := hP k hlt
        obtain ⟨b', o', rfl, c4, c5, c6⟩ := hQ k (hlm ▸ hlt)
        have d1 := (drewN3 hq _).trans c1
        have d2 := (drewN3 hq _).trans c2
        have d3 := (drewN3 hq _).trans c3
        have d4 := (drewN3 hq _).trans c4
        have d5 := (drewN3 hq _).trans c5
        have d6 := (drewN3 hq _).trans c6
        have HQQ := Lib.hid hq
        have hki : (k : Int) < l.length := by omega
        have hki2 : (k : Int) < m.length := by omega
        clear c1 c2 c3 c4 c5 c6 hq hP hQ
        have HEK := Lib.hid (fun (h1 : l.getD k j0 = m.getD k j0) => (fun i hi => by
          by_cases e : i = k
          · subst e; exact h1
          · exact hE.out i (by omega) : eqTo3 l m (k + 1)))
        have HNE := Lib.hid (fun (h : ¬ (l.getD k j0 = m.getD k j0)) => (fun e => h (by rw [e]) : ¬ l = m))
        generalize l.getD k j0 = ek at *
        generalize m.getD k j0 = fk at *
        obtain ⟨x, y, z⟩ := ek
        obtain ⟨x', y', z'⟩ := fk
        obtain ⟨s, hs⟩ : ∃ s, decide ((x, y, z) = (x', y', z')) = s := ⟨_, rfl⟩
        have E := neqJ x y z x' y' z' s (Lib.hid hs)
        have HS := Lib.hid hs
        clear hs
        cases s
        · have HN := Lib.hid (HNE.out (of_decide_eq_false HS.out))
          go_upto_region 6 with fail
          go_region
          all_goals
            go_wp2
            go_ret
            exact ⟨ret_bool (by rw [← ht.out]; exact (decide_eq_false HN.out).symm), by rw [HQQ.out]; exact below_drewN (Below.refl _ _) (q + 1)⟩
        · have HN := Lib.hid (HEK.out (of_decide_eq_true HS.out))
          go_upto_region 6 with fail
          go_region
          all_goals
            go_wp2
            exact ⟨⟨k + 1, by omega, by go_num, HN, q + 1, by rw [HQQ.out]; rfl⟩, by simp [intOf]; omega⟩
      · have HE : Hid (decide (l = m) = true) := Lib.hid (decide_eq_true (eq_of_to3 hlm (fun i hi => hE.out i (by omega))))
        have HQQ := Lib.hid hq
        clear hE hq
        go_wp2
        go_ret
        exact ⟨ret_bool (by rw [← ht.out]; exact HE.out.symm), by rw [HQQ.out]; exact below_drewN (Below.refl _ _) q⟩
  · have hne : (((l.length : Int) != (m.length : Int))) = true := by rw [bne_iff_ne]; omega
    have HE : Hid (decide (l = m) = false) := Lib.hid (decide_eq_false (fun e => hlm (by rw [e])))
    go_enter Tryd.func13, Tryd.ntmps13
    go_wp2
    go_ret
    exact ⟨ret_bool (by rw [← ht.out]; exact HE.out.symm), Below.refl _ _⟩
set_option maxHeartbeats 2000000 in
theorem has3_is (ao : Option Addr) (n ca : Nat) (l : List J3) (a b c : Int) (t : Bool) (w : World) (hn : l.length = n) (ht : Hid (decide ((a, b, c) ∈ l) = t)) (hl : l.length ≤ 1000000) (hP : PRow3 w ao l) :
    Calls Tryd.prog 23 #[.slice ao n ca, .agg #[.int .i64 a, .int .i64 b, .int .i64 c]] w fun e w' => e = .returned (.bool t) ∧ Below w.heap.size w w' := by
  subst hn
  go_enter Tryd.func23, Tryd.ntmps23
  go_wp2
  obtain ⟨W0, hW0⟩ : ∃ z, w.alloc (.cells #[.int .i64 a, .int .i64 b, .int .i64 c] 25) = z := ⟨_, rfl⟩
  have HB := Lib.hid (show W0.heap[w.heap.size]? = some (.cells #[.int .i64 a, .int .i64 b, .int .i64 c] 25 (0, 0)) by rw [← hW0]; exact blk_new _ _ _ rfl)
  have B0 : Hid (Below w.heap.size w W0) := Lib.hid (by rw [← hW0]; go_grown)
  have hP0 : PRow3 W0 ao l := by rw [← hW0]; exact prow3_alloc hP _
  rw [hW0]
  clear hW0 hP
  go_loopw [5] (fun i wr => ∃ k : Nat, k ≤ l.length ∧ i = .int .i64 k ∧ Hid (∀ j, j < k → l.getD j j0 ≠ (a, b, c)) ∧ ∃ q, wr = W0.drewN q) (fun i _ => l.length - (intOf i).toNat)
  case atStart => exact ⟨0, Nat.zero_le _, rfl, Lib.hid (fun i hi => by omega), 0, rfl⟩
  case round =>
    obtain ⟨k, hk, rfl, hE, q, hq⟩ := hrel
    by_cases hlt : k < l.length
    · obtain ⟨b', o', rfl, c1, c2, c3⟩ := hP0 k hlt
      have d1 := (drewN3 hq _).trans c1
      have d2 := (drewN3 hq _).trans c2
      have d3 := (drewN3 hq _).trans c3
      have d4 := (drewN3 hq _).trans (blk_cell HB.out 0 _ rfl)
      have d5 := (drewN3 hq _).trans (blk_cell HB.out 1 _ rfl)
      have d6 := (drewN3 hq _).trans (blk_cell HB.out 2 _ rfl)
      have HQQ := Lib.hid hq
      have hki : (k : Int) < l.length := by omega
      clear c1 c2 c3 hq hP0
      have HEK := Lib.hid (fun (h1 : l.getD k j0 ≠ (a, b, c)) => (fun i hi => by
        by_cases e : i = k
        · subst e; exact h1
        · exact hE.out i (by omega) : ∀ j, j < k + 1 → l.getD j j0 ≠ (a, b, c)))
      have HNE := Lib.hid (fun (h : l.getD k j0 = (a, b, c)) => (by rw [← h, List.getD_eq_getElem?_getD, List.getElem?_eq_getElem hlt]; exact List.getElem_mem hlt : (a, b, c) ∈ l))
      generalize l.getD k j0 = ek at *
      obtain ⟨x, y, z⟩ := ek
      obtain ⟨s, hs⟩ : ∃ s, decide ((x, y, z) = (a, b, c)) = s := ⟨_, rfl⟩
      have E := eqlJ x y z a b c s (Lib.hid hs)
      have HS := Lib.hid hs
      clear hs
      cases s
      · have HN := Lib.hid (HEK.out (of_decide_eq_false HS.out))
        go_upto_region 4 with fail
        go_region
        all_goals
          go_wp2
          exact ⟨⟨k + 1, by omega, by go_num, HN, q + 1, by rw [HQQ.out]; rfl⟩, by simp [intOf]; omega⟩
      · have HN := Lib.hid (HNE.out (of_decide_eq_true HS.out))
        go_upto_region 4 with fail
        go_region
        all_goals
          go_wp2
          go_ret
          exact ⟨ret_bool (by rw [← ht.out]; exact (decide_eq_true HN.out).symm), by rw [HQQ.out]; exact below_drewN B0.out (q + 1)⟩
    · have HE : Hid (decide ((a, b, c) ∈ l) = false) := Lib.hid (decide_eq_false (fun hm => by
        obtain ⟨i, hi, e⟩ := List.getElem_of_mem hm
        refine hE.out i (by omega) ?_
        rw [List.getD_eq_getElem?_getD, List.getElem?_eq_getElem hi]
        exact e))
      have HQQ := Lib.hid hq
      clear hE hq
      go_wp2
      go_ret
      exact ⟨ret_bool (by rw [← ht.out]; exact HE.out.symm), by rw [HQQ.out]; exact below_drewN B0.out q⟩
end Go.Proofs.YtceejjamngplkaaDoor
