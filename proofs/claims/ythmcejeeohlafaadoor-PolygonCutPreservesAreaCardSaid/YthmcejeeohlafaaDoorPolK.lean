/- Contracts of what the statements of layer 3 share: May, Fits, half. Condition: the slice reads as the list says. -/
import Derived.Test.YthmcejeeohlafaaDoorPolJ
namespace Go.Proofs.YthmcejeeohlafaaDoor
open Go.ChangeShapes Go.WideShapes Go.ChangeAt Go.RowKit
set_option linter.unusedVariables false
set_option linter.unusedSimpArgs false

def mayB (x y : Int) : Bool := !outB x y
theorem mayB_iff (x y : Int) : mayB x y = true ↔ InV x ∧ InV y := by unfold mayB; rw [Bool.not_eq_true', outB_iff]
theorem may_any (x y : Int) (t : Bool) (w : World) (ht : Hid (mayB x y = t)) :
    Calls Tryd.prog 11 #[.agg #[.int .i64 x, .int .i64 y]] w fun e w' => e = .returned (.bool t) ∧ Below w.heap.size w w' := by
  have E : Hid (t = (decide (-439400000 ≤ x) && (decide (x ≤ 439400000) && (decide (-439400000 ≤ y) && decide (y ≤ 439400000))))) := Lib.hid (by
    rw [← ht.out, Bool.eq_iff_iff, mayB_iff]; unfold InV; simp; omega)
  clear ht
  by_cases h1 : -439400000 ≤ x
  · by_cases h2 : x ≤ 439400000
    · by_cases h3 : -439400000 ≤ y
      · by_cases h4 : y ≤ 439400000
        all_goals
          go_enter Tryd.func11, Tryd.ntmps11
          go_wp2
          go_ret
          exact ⟨ret_bool (by rw [E.out]; simp [h1, h2, h3, h4]; try (intros; omega)), by go_grown⟩
      · go_enter Tryd.func11, Tryd.ntmps11
        go_wp2
        go_ret
        exact ⟨ret_bool (by rw [E.out]; simp [h1, h2, h3]; try (intros; omega)), by go_grown⟩
    · go_enter Tryd.func11, Tryd.ntmps11
      go_wp2
      go_ret
      exact ⟨ret_bool (by rw [E.out]; simp [h1, h2]; try (intros; omega)), by go_grown⟩
  · go_enter Tryd.func11, Tryd.ntmps11
    go_wp2
    go_ret
    exact ⟨ret_bool (by rw [E.out]; simp [h1]; try (intros; omega)), by go_grown⟩

def fitsB (ps : List (Int × Int)) : Bool := decide (ps.length ≤ 12) && !outs ps
theorem fitsB_iff (ps : List (Int × Int)) : fitsB ps = true ↔ ps.length ≤ 12 ∧ AllV ps := by
  unfold fitsB outs AllV
  rw [Bool.and_eq_true, decide_eq_true_eq, Bool.not_eq_true', List.any_eq_false]
  constructor
  · rintro ⟨h2, h3⟩
    exact ⟨h2, fun i hi => (outB_iff _ _).1 (by simpa [outE] using h3 i (List.mem_range.2 hi))⟩
  · rintro ⟨h2, h3⟩
    exact ⟨h2, fun i hi => by simpa [outE] using (outB_iff _ _).2 (h3 i (List.mem_range.1 hi))⟩

set_option maxHeartbeats 2000000 in
theorem fits_is (ao : Option Addr) (n cap : Nat) (ps : List (Int × Int)) (t : Bool) (w : World) (hn : ps.length = n) (ht : Hid (fitsB ps = t)) (hle : ps.length ≤ 9223372036854775807) (hP : PRow w ao ps) :
    Calls Tryd.prog 10 #[.slice ao n cap] w fun e w' => e = .returned (.bool t) ∧ Below w.heap.size w w' := by
  subst hn
  go_enter Tryd.func10, Tryd.ntmps10
  go_wp2
  go_loopw [3] (fun i wr => ∃ k : Nat, k ≤ ps.length ∧ k ≤ 20 ∧ i = .int .i64 k ∧ Hid (∀ j, j < k → outE ps j = false) ∧ Below w.heap.size w wr) (fun i _ => ps.length - (intOf i).toNat)
  case atStart => exact ⟨0, Nat.zero_le _, Nat.zero_le _, rfl, Lib.hid (fun j hj => by omega), Below.refl _ _⟩
  case round =>
    obtain ⟨k, hk, hk20, rfl, hno, hB⟩ := hrel
    by_cases hlt : k < ps.length
    · by_cases h20 : k < 20
      · have h20i : (k : Int) < 20 := by omega
        obtain ⟨b, o, rfl, c1, c2⟩ := prow_at hP hlt
        obtain ⟨u, hu⟩ : ∃ u, outE ps k = u := ⟨_, rfl⟩
        have HT : Hid (mayB (cx ps k) (cy ps k) = !u) := Lib.hid (by rw [← hu]; rfl)
        have HX := Lib.hid hu
        have d1 := (hB.cell (World.block_lt_of_cell? w _ c1)).trans c1
        have d2 := (hB.cell (World.block_lt_of_cell? w _ c2)).trans c2
        have hki : (k : Int) < ps.length := by omega
        clear c1 c2 hu
        cases u
        · go_wp2_with (go_at_call 11; refine (may_any _ _ true _ HT).mono ?_; rintro e w1 ⟨rfl, hb⟩)
          go_roundw
          case rel => exact ⟨k + 1, by omega, by omega, by go_num, Lib.hid (fun j hj => by
            by_cases e : j = k
            · subst e; exact HX.out
            · exact hno.out j (by omega)), belT hB hb⟩
          case measure => simp [intOf]; omega
        · have HE : Hid (t = false) := Lib.hid (by
            rw [← ht.out]
            unfold fitsB
            rw [show outs ps = true from List.any_eq_true.2 ⟨k, List.mem_range.2 hlt, HX.out⟩]
            simp)
          go_wp2_with (go_at_call 11; refine (may_any _ _ false _ HT).mono ?_; rintro e w1 ⟨rfl, hb⟩)
          go_ret
          exact ⟨ret_bool HE.out.symm, belT hB hb⟩
      · have HE : Hid (t = false) := Lib.hid (by
          rw [← ht.out]
          unfold fitsB
          rw [decide_eq_false (by omega)]
          rfl)
        have h20i : 20 ≤ (k : Int) := by omega
        have hki : (k : Int) < ps.length := by omega
        have h12 : 12 < (ps.length : Int) := by omega
        clear hno
        go_wp2
        go_ret
        exact ⟨ret_bool (by rw [HE.out]; exact decide_eq_false (by omega)), hB⟩
    · have hnn : outs ps = false := by
        unfold outs
        rw [List.any_eq_false]
        intro j hj
        rw [hno.out j (by have := List.mem_range.1 hj; omega)]
        simp
      have HE : Hid (t = decide (ps.length ≤ 12)) := Lib.hid (by rw [← ht.out]; unfold fitsB; rw [hnn]; simp)
      have HE2 : Hid (decide ((ps.length : Int) ≤ 12) = decide (ps.length ≤ 12)) := Lib.hid (by rw [decide_eq_decide]; omega)
      have e : k = ps.length := by omega
      clear hno hnn e
      go_wp2
      go_ret
      exact ⟨ret_bool (by rw [HE.out, HE2.out]), hB⟩

theorem tdiv2_bd {x M : Int} (h1 : -M ≤ x) (h2 : x ≤ M) (h0 : 0 ≤ M) : -M ≤ x.tdiv 2 ∧ x.tdiv 2 ≤ M := by
  rcases Int.le_total 0 x with h | h
  · rw [Int.tdiv_eq_ediv_of_nonneg h]; omega
  · obtain ⟨y, rfl⟩ : ∃ y, x = -y := ⟨-x, by omega⟩
    rw [Int.neg_tdiv, Int.tdiv_eq_ediv_of_nonneg (by omega)]; omega
theorem half_is (x y : Int) (w : World) (hx : InR x) (hy : InR y) :
    Calls Tryd.prog 17 #[.agg #[.int .i64 x, .int .i64 y]] w fun e w' => e = .returned (.agg #[.int .i64 (x.tdiv 2), .int .i64 (y.tdiv 2)]) ∧ Below w.heap.size w w' := by
  unfold InR at hx hy
  obtain ⟨x1, x2⟩ := hx
  obtain ⟨y1, y2⟩ := hy
  have b1 := tdiv2_bd x1 x2 (by omega)
  have b2 := tdiv2_bd y1 y2 (by omega)
  have q1 : IntKind.i64.wrap (x.tdiv 2) = x.tdiv 2 := by rw [IntKind.wrap_i64]; omega
  have q2 : IntKind.i64.wrap (y.tdiv 2) = y.tdiv 2 := by rw [IntKind.wrap_i64]; omega
  go_enter Tryd.func17, Tryd.ntmps17
  go_wp2
  go_returns
  exact ⟨rfl, by go_grown⟩
end Go.Proofs.YthmcejeeohlafaaDoor
