/- Contracts of package polygon: isOutOfRange, hasValidCorners, Valid, and of the library's IndexFunc and ContainsFunc at them. Condition: the slice reads as the list says. -/
import Derived.Test.YthmcejeeohlafaaDoorPolF
namespace Go.Proofs.YthmcejeeohlafaaDoor
open Go.ChangeShapes Go.WideShapes Go.ChangeAt Go.RowKit
set_option linter.unusedVariables false
set_option linter.unusedSimpArgs false

def outB (x y : Int) : Bool := decide (mnI x y < -439400000) || decide (439400000 < mxI x y)
theorem outB_iff (x y : Int) : outB x y = false ↔ InV x ∧ InV y := by
  have h1 := mnI_bd x y
  have h2 := mxI_bd x y
  unfold outB InV
  rw [Bool.or_eq_false_iff, decide_eq_false_iff_not, decide_eq_false_iff_not]
  omega
theorem oor_any (x y : Int) (t : Bool) (w : World) (ht : Hid (outB x y = t)) :
    Calls Tryd.prog 39 #[.agg #[.int .i64 x, .int .i64 y]] w fun e w' => e = .returned (.bool t) ∧ Below w.heap.size w w' := by
  have m1 := run_min2 x y
  have m2 := run_max2 x y
  obtain ⟨t1, ht1⟩ : ∃ t, decide (mnI x y < -439400000) = t := ⟨_, rfl⟩
  obtain ⟨t2, ht2⟩ : ∃ t, decide (439400000 < mxI x y) = t := ⟨_, rfl⟩
  have E : Hid (t = (t1 || t2)) := Lib.hid (by rw [← ht.out, ← ht1, ← ht2]; rfl)
  clear ht
  cases t1
  · go_enter Tryd.func39, Tryd.ntmps39
    go_wp2
    go_ret
    exact ⟨ret_bool (by rw [E.out]; rfl), by go_grown⟩
  · go_enter Tryd.func39, Tryd.ntmps39
    go_wp2
    go_ret
    exact ⟨ret_bool (by rw [E.out]; rfl), by go_grown⟩

def outE (ps : List (Int × Int)) (i : Nat) : Bool := outB (cx ps i) (cy ps i)
def outs (ps : List (Int × Int)) : Bool := (List.range ps.length).any (outE ps)

set_option maxHeartbeats 2000000 in
theorem index_any (ao : Option Addr) (cap : Nat) (ps : List (Int × Int)) (w : World) (hle : ps.length ≤ 1000000) (hP : PRow w ao ps) :
    Calls Tryd.prog 51 #[.slice ao ps.length cap, .func (.func 39) #[] #[]] w fun e w' => (∃ r : Int, e = .returned (.int .i64 r) ∧ decide (0 ≤ r) = outs ps) ∧ Below w.heap.size w w' := by
  go_enter Tryd.func51, Tryd.ntmps51
  go_wp2
  go_loopw [8] (fun i wr => ∃ k : Nat, k ≤ ps.length ∧ i = .int .i64 k ∧ Hid (∀ j, j < k → outE ps j = false) ∧ Below w.heap.size w wr) (fun i _ => ps.length - (intOf i).toNat)
  case atStart => exact ⟨0, Nat.zero_le _, rfl, Lib.hid (fun j hj => by omega), Below.refl _ _⟩
  case round =>
    obtain ⟨k, hk, rfl, hno, hB⟩ := hrel
    by_cases hlt : k < ps.length
    · obtain ⟨b, o, rfl, c1, c2⟩ := prow_at hP hlt
      obtain ⟨t, ht⟩ : ∃ t, outE ps k = t := ⟨_, rfl⟩
      have HT : Hid (outB (cx ps k) (cy ps k) = t) := Lib.hid ht
      have HX := Lib.hid ht
      have d1 := (hB.cell (World.block_lt_of_cell? w _ c1)).trans c1
      have d2 := (hB.cell (World.block_lt_of_cell? w _ c2)).trans c2
      have hki : (k : Int) < ps.length := by omega
      clear c1 c2 ht
      cases t
      · go_wp2_with (go_at_call 39; refine (oor_any _ _ false _ HT).mono ?_; rintro e w1 ⟨rfl, hb⟩)
        go_roundw
        case rel => exact ⟨k + 1, by omega, by go_num, Lib.hid (fun j hj => by
          by_cases e : j = k
          · subst e; exact HX.out
          · exact hno.out j (by omega)), belT hB hb⟩
        case measure => simp [intOf]; omega
      · go_wp2_with (go_at_call 39; refine (oor_any _ _ true _ HT).mono ?_; rintro e w1 ⟨rfl, hb⟩)
        go_ret
        exact ⟨⟨(k : Int), rfl, by
          rw [decide_eq_true (by omega)]
          exact (List.any_eq_true.2 ⟨k, List.mem_range.2 hlt, HX.out⟩).symm⟩, belT hB hb⟩
    · have e : k = ps.length := by omega
      have HE : Hid (outs ps = false) := Lib.hid (by
        unfold outs
        rw [List.any_eq_false]
        intro j hj
        rw [hno.out j (by have := List.mem_range.1 hj; omega)]
        simp)
      clear hno e
      go_wp2
      go_ret
      exact ⟨⟨-1, rfl, by rw [HE.out]; rfl⟩, hB⟩

theorem contains_any (ao : Option Addr) (cap : Nat) (ps : List (Int × Int)) (w : World) (hle : ps.length ≤ 1000000) (hP : PRow w ao ps) :
    Calls Tryd.prog 38 #[.slice ao ps.length cap, .func (.func 39) #[] #[]] w fun e w' => e = .returned (.bool (outs ps)) ∧ Below w.heap.size w w' := by
  go_enter Tryd.func38, Tryd.ntmps38
  go_wp2_with (go_at_call 51; refine (index_any ao cap ps _ hle hP).mono ?_; rintro e w1 ⟨⟨r, rfl, hr⟩, hb⟩; have HR := Lib.hid hr; clear hr)
  go_ret
  exact ⟨ret_bool HR.out, hb⟩

/-- The number of corners and their range. -/
def validC (ps : List (Int × Int)) : Bool := decide (3 ≤ ps.length) && (decide (ps.length ≤ 12) && !outs ps)
theorem validC_iff (ps : List (Int × Int)) : validC ps = true ↔ 3 ≤ ps.length ∧ ps.length ≤ 12 ∧ AllV ps := by
  unfold validC outs AllV
  rw [Bool.and_eq_true, Bool.and_eq_true, decide_eq_true_eq, decide_eq_true_eq, Bool.not_eq_true', List.any_eq_false]
  constructor
  · rintro ⟨h1, h2, h3⟩
    exact ⟨h1, h2, fun i hi => (outB_iff _ _).1 (by simpa [outE] using h3 i (List.mem_range.2 hi))⟩
  · rintro ⟨h1, h2, h3⟩
    exact ⟨h1, h2, fun i hi => by simpa [outE] using (outB_iff _ _).2 (h3 i (List.mem_range.1 hi))⟩

theorem hasvalid_any (ao : Option Addr) (cap : Nat) (ps : List (Int × Int)) (w : World) (hle : ps.length ≤ 9223372036854775807) (hP : PRow w ao ps) :
    Calls Tryd.prog 25 #[.slice ao ps.length cap] w fun e w' => e = .returned (.bool (validC ps)) ∧ Below w.heap.size w w' := by
  by_cases h3 : ps.length < 3
  · have HE : Hid (validC ps = false) := Lib.hid (by unfold validC; rw [decide_eq_false (by omega)]; rfl)
    have h3i : (ps.length : Int) < 3 := by omega
    go_enter Tryd.func25, Tryd.ntmps25
    go_wp2
    go_ret
    exact ⟨ret_bool HE.out.symm, Below.refl _ _⟩
  · have h3i : 3 ≤ (ps.length : Int) := by omega
    by_cases h12 : 12 < ps.length
    · have HE : Hid (validC ps = false) := Lib.hid (by unfold validC; rw [decide_eq_false (p := ps.length ≤ 12) (by omega)]; simp)
      have h12i : 12 < (ps.length : Int) := by omega
      go_enter Tryd.func25, Tryd.ntmps25
      go_wp2
      go_ret
      exact ⟨ret_bool HE.out.symm, Below.refl _ _⟩
    · have h12i : (ps.length : Int) ≤ 12 := by omega
      have HE : Hid (validC ps = !outs ps) := Lib.hid (by unfold validC; rw [decide_eq_true (by omega), decide_eq_true (p := ps.length ≤ 12) (by omega)]; simp)
      have hle' : ps.length ≤ 1000000 := by omega
      go_enter Tryd.func25, Tryd.ntmps25
      go_wp2_with (go_at_call 38; refine (contains_any ao cap ps _ hle' hP).mono ?_; rintro e w1 ⟨rfl, hb⟩)
      go_ret
      exact ⟨ret_bool (by rw [HE.out]), hb⟩

/-- Is it valid? -/
def validP (ps : List (Int × Int)) : Bool := validC ps && (bendsB ps && (simpleB ps && decide (0 < area2 ps)))

set_option maxHeartbeats 2000000 in
theorem valid_is (ao : Option Addr) (n cap : Nat) (ps : List (Int × Int)) (t : Bool) (w : World) (hn : ps.length = n) (ht : Hid (validP ps = t)) (hle : ps.length ≤ 9223372036854775807) (hP : PRow w ao ps) :
    Calls Tryd.prog 14 #[.slice ao n cap] w fun e w' => e = .returned (.bool t) ∧ Below w.heap.size w w' := by
  subst hn
  obtain ⟨t1, ht1⟩ : ∃ t, validC ps = t := ⟨_, rfl⟩
  obtain ⟨t2, ht2⟩ : ∃ t, bendsB ps = t := ⟨_, rfl⟩
  obtain ⟨t3, ht3⟩ : ∃ t, simpleB ps = t := ⟨_, rfl⟩
  obtain ⟨t4, ht4⟩ : ∃ t, decide (0 < area2 ps) = t := ⟨_, rfl⟩
  have E : Hid (t = (t1 && (t2 && (t3 && t4)))) := Lib.hid (by rw [← ht.out, ← ht1, ← ht2, ← ht3, ← ht4]; rfl)
  have c1 := hasvalid_any ao cap ps w hle hP
  rw [ht1] at c1
  have C1 := Lib.hid c1
  clear ht c1
  cases t1
  · clear ht1 ht2 ht3 ht4
    go_enter Tryd.func14, Tryd.ntmps14
    go_wp2_with fail
    refine C1.out.mono ?_; rintro e w1 ⟨rfl, hb⟩
    go_wp2_with fail
    go_ret
    exact ⟨ret_bool (by rw [E.out]; rfl), hb⟩
  · obtain ⟨h3, h12, hv⟩ := (validC_iff ps).1 ht1
    have c2 := fun w hP => bends_any ao cap ps w (by omega) (by omega) hP hv.allr2
    have c3 := fun w hP => simple_any ao cap ps w (by omega) (by omega) hP hv.allr2
    have c4 := fun w hP => area_any ao cap ps w (by omega) h12 hP hv
    rw [ht2] at c2
    rw [ht3] at c3
    have C2 := Lib.hid c2
    have C3 := Lib.hid c3
    have C4 := Lib.hid c4
    obtain ⟨a, ha⟩ : ∃ a, area2 ps = a := ⟨_, rfl⟩
    have ha4 : decide (0 < a) = t4 := by rw [← ha]; exact ht4
    rw [ha] at C4
    have HPW := Lib.hid hP
    clear ht1 ht2 ht3 ht4 c2 c3 c4 ha hv hP
    have hlen : Hid (ps.length ≤ 12) := Lib.hid h12
    clear h3 h12 hle
    cases t2
    · go_enter Tryd.func14, Tryd.ntmps14
      go_wp2_with fail
      refine C1.out.mono ?_; rintro e w1 ⟨rfl, hb⟩
      go_wp2_with fail
      refine (C2.out _ (prow_below HPW.out hb)).mono ?_; rintro e w2 ⟨rfl, hb2⟩
      go_wp2_with fail
      go_ret
      exact ⟨ret_bool (by rw [E.out]; rfl), belT hb hb2⟩
    · cases t3
      · go_enter Tryd.func14, Tryd.ntmps14
        go_wp2_with fail
        refine C1.out.mono ?_; rintro e w1 ⟨rfl, hb⟩
        go_wp2_with fail
        refine (C2.out _ (prow_below HPW.out hb)).mono ?_; rintro e w2 ⟨rfl, hb2⟩
        replace hb := belT hb hb2
        go_wp2_with fail
        refine (C3.out _ (prow_below HPW.out hb)).mono ?_; rintro e w3 ⟨rfl, hb3⟩
        go_wp2_with fail
        go_ret
        exact ⟨ret_bool (by rw [E.out]; rfl), belT hb hb3⟩
      · go_enter Tryd.func14, Tryd.ntmps14
        go_wp2_with fail
        refine C1.out.mono ?_; rintro e w1 ⟨rfl, hb⟩
        go_wp2_with fail
        refine (C2.out _ (prow_below HPW.out hb)).mono ?_; rintro e w2 ⟨rfl, hb2⟩
        replace hb := belT hb hb2
        go_wp2_with fail
        refine (C3.out _ (prow_below HPW.out hb)).mono ?_; rintro e w3 ⟨rfl, hb3⟩
        replace hb := belT hb hb3
        go_wp2_with fail
        refine (C4.out _ (prow_below HPW.out hb)).mono ?_; rintro e w4 ⟨rfl, hb4⟩
        go_wp2_with fail
        go_ret
        exact ⟨ret_bool (by rw [E.out, ← ha4]; rfl), belT hb hb4⟩
end Go.Proofs.YthmcejeeohlafaaDoor
