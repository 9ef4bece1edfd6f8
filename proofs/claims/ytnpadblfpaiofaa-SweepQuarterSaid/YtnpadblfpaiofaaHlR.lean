/- Contract of the reference's Area2 (a fan from corner 0). Condition: the slice reads as the list says; the coordinates are bounded. -/
import Derived.Test.YtnpadblfpaiofaaHlQ
namespace Go.Proofs.Ytnpadblfpaiofaa
open Go.ChangeShapes Go.WideShapes Go.ChangeAt Go.RowKit
set_option linter.unusedVariables false
set_option linter.unusedSimpArgs false

/-- The fan's first triangles. -/
def fanS (ps : List (Int × Int)) : Nat → Int
  | 0 => 0
  | k + 1 => fanS ps k + det (cx ps 0) (cy ps 0) (cx ps (k + 1)) (cy ps (k + 1)) (cx ps (k + 2)) (cy ps (k + 2))
theorem sum_bd4 {ps : List (Int × Int)} (hv : AllV ps) : ∀ k, k ≤ ps.length → -(386144720000000000 * (k : Int)) ≤ sumE (crossE ps) (List.range k) ∧ sumE (crossE ps) (List.range k) ≤ 386144720000000000 * (k : Int)
  | 0, _ => by simp [sumE]
  | k + 1, h => by
    have a := sum_bd4 hv k (by omega)
    have b := crossE_bd hv (i := k) (by omega)
    rw [List.range_succ, sumE_snoc]
    omega
theorem fan_sum {ps : List (Int × Int)} : ∀ k, k + 1 < ps.length → fanS ps k = sumE (crossE ps) (List.range (k + 1)) + (cx ps (k + 1) * cy ps 0 - cy ps (k + 1) * cx ps 0)
  | 0, h => by
    rw [List.range_succ, sumE_snoc]
    show 0 = (0 : Int) + crossE ps 0 + _
    unfold crossE
    rw [nx_small h]
    grind
  | k + 1, h => by
    rw [List.range_succ, sumE_snoc]
    show fanS ps k + _ = _
    rw [fan_sum k (by omega)]
    unfold crossE det
    rw [nx_small h]
    grind
theorem fan_area {ps : List (Int × Int)} (h : 2 ≤ ps.length) : fanS ps (ps.length - 2) = area2 ps := by
  rw [fan_sum _ (by omega), show ps.length - 2 + 1 = ps.length - 1 by omega]
  have e : area2 ps = sumE (crossE ps) (List.range (ps.length - 1 + 1)) := by rw [show ps.length - 1 + 1 = ps.length by omega]; rfl
  rw [e, List.range_succ, sumE_snoc]
  unfold crossE
  rw [show nx ps.length (ps.length - 1) = 0 by unfold nx; rw [show ps.length - 1 + 1 = ps.length by omega, Nat.mod_self]]
theorem fan_bd {ps : List (Int × Int)} (hv : AllV ps) (h12 : ps.length ≤ 12) (k : Nat) (hk : k + 1 < ps.length) : -6000000000000000000 ≤ fanS ps k ∧ fanS ps k ≤ 6000000000000000000 := by
  rw [fan_sum k hk]
  have a := sum_bd4 hv (k + 1) (by omega)
  obtain ⟨x1, y1⟩ := hv (k + 1) (by omega)
  obtain ⟨x0, y0⟩ := hv 0 (by omega)
  have m1 := mul_bd x1 y0
  have m2 := mul_bd y1 x0
  omega

set_option maxRecDepth 100000 in
set_option maxHeartbeats 4000000 in
theorem area4_is (ao : Option Addr) (n cap : Nat) (ps : List (Int × Int)) (v : Int) (w : World) (hn : ps.length = n) (hv : Hid (area2 ps = v)) (h2 : 2 ≤ ps.length) (h12 : ps.length ≤ 12) (hP : PRow w ao ps) (ha : AllV ps) :
    Calls Try.prog 49 #[.slice ao n cap] w fun e w' => e = .returned (.int .i64 v) ∧ Below w.heap.size w w' := by
  subst hn
  have HV := Lib.hid ha
  have HP := Lib.hid hP
  clear ha hP
  go_enter Try.func49, Try.ntmps49
  go_wp2
  go_loopw [3, 4] (fun s i wr => ∃ k : Nat, k + 2 ≤ ps.length ∧ i = .int .i64 (k + 1 : Nat) ∧ s = .int .i64 (fanS ps k) ∧ Below w.heap.size w wr) (fun _ i _ => ps.length - (intOf i).toNat)
  case atStart => exact ⟨0, h2, by first | rfl | go_num, rfl, Below.refl _ _⟩
  case round =>
    obtain ⟨k, hk, rfl, rfl, hB⟩ := hrel
    have FB := fan_bd HV.out h12 k (by omega)
    by_cases hlt : k + 2 < ps.length
    · have FB2 := fan_bd HV.out h12 (k + 1) (by omega)
      have HFN : Hid (fanS ps (k + 1) = fanS ps k + det (cx ps 0) (cy ps 0) (cx ps (k + 1)) (cy ps (k + 1)) (cx ps (k + 2)) (cy ps (k + 2))) := Lib.hid rfl
      obtain ⟨b, o, rfl, c1, c2⟩ := prow_at HP.out (show 0 < ps.length by omega)
      obtain ⟨b', o', ho', c3, c4⟩ := prow_at HP.out (show k + 1 < ps.length by omega)
      obtain ⟨rfl, rfl⟩ : b = b' ∧ o = o' := by simpa using ho'
      clear ho'
      obtain ⟨b', o', ho', c5, c6⟩ := prow_at HP.out hlt
      obtain ⟨rfl, rfl⟩ : b = b' ∧ o = o' := by simpa using ho'
      clear ho'
      rw [Nat.zero_mul, Nat.add_zero] at c1 c2
      obtain ⟨i1, i2⟩ := HV.out 0 (by omega)
      obtain ⟨i3, i4⟩ := HV.out (k + 1) (by omega)
      obtain ⟨i5, i6⟩ := HV.out (k + 2) hlt
      have d1 := (hB.cell (World.block_lt_of_cell? w _ c1)).trans c1
      have d2 := (hB.cell (World.block_lt_of_cell? w _ c2)).trans c2
      have d3 := (hB.cell (World.block_lt_of_cell? w _ c3)).trans c3
      have d4 := (hB.cell (World.block_lt_of_cell? w _ c4)).trans c4
      have d5 := (hB.cell (World.block_lt_of_cell? w _ c5)).trans c5
      have d6 := (hB.cell (World.block_lt_of_cell? w _ c6)).trans c6
      have zb : b < wr.heap.size := World.block_lt_of_cell? wr _ d1
      obtain ⟨D, hD⟩ : ∃ D, det (cx ps 0) (cy ps 0) (cx ps (k + 1)) (cy ps (k + 1)) (cx ps (k + 2)) (cy ps (k + 2)) = D := ⟨_, rfl⟩
      rw [hD] at HFN
      rw [HFN.out] at FB2
      have C := Lib.hid (fun W => side_gr (cx ps 0) (cy ps 0) (cx ps (k + 1)) (cy ps (k + 1)) (cx ps (k + 2)) (cy ps (k + 2)) D W i1 i2 i3 i4 i5 i6 (Lib.hid hD))
      have HB := Lib.hid hB
      clear c1 c2 c3 c4 c5 c6 hB hD i1 i2 i3 i4 i5 i6
      generalize cx ps 0 = x0 at *
      generalize cy ps 0 = y0 at *
      generalize cx ps (k + 1) = x1 at *
      generalize cy ps (k + 1) = y1 at *
      generalize cx ps (k + 2) = x2 at *
      generalize cy ps (k + 2) = y2 at *
      generalize hS : fanS ps k = S at *
      have HS := Lib.hid hS
      clear hS
      obtain ⟨j, hj⟩ : ∃ j, k + 1 = j := ⟨_, rfl⟩
      obtain ⟨m, hm⟩ : ∃ m, k + 2 = m := ⟨_, rfl⟩
      rw [hj] at d3 d4
      rw [hm] at d5 d6 hlt
      have ej : ((k + 1 : Nat) : Int) = (j : Int) := by omega
      have hjm : (j : Int) + 1 = (m : Int) := by omega
      have hji : (j : Int) < ps.length := by omega
      have hmi : (m : Int) < ps.length := by omega
      have hwm : IntKind.i64.wrap (m : Int) = (m : Int) := wrap_k _ (by omega)
      have h0n : 0 < ps.length := by omega
      have hwS : IntKind.i64.wrap (S + D) = S + D := by rw [IntKind.wrap_i64]; omega
      have HJ := Lib.hid (And.intro hj hm)
      have HMI : Hid (k + 1 + 2 ≤ ps.length) := Lib.hid (by omega)
      rw [ej]
      clear ej hj hm
      have G1 := fun n os => cell_grown (n := n) (os := os) zb d1
      have G2 := fun n os => cell_grown (n := n) (os := os) zb d2
      have G3 := fun n os => cell_grown (n := n) (os := os) zb d3
      have G4 := fun n os => cell_grown (n := n) (os := os) zb d4
      have G5 := fun n os => cell_grown (n := n) (os := os) zb d5
      have G6 := fun n os => cell_grown (n := n) (os := os) zb d6
      clear d1 d2 d3 d4 d5 d6
      go_upto_region 5 with fail
      refine wq_region mixedP (by kernel_rfl) ?_
      repeat (refine wq_step (fun K hK => ?_); go_simp; first | (refine hK _ ?_; clear hK K) | (apply Exists.intro; refine ⟨fun _ => ?_, hK _ ?_⟩; (first | (go_at_call 30; refine Calls.grown_of (C.out _))); clear hK K))
      refine wq_nil ?_
      intro _ hw'
      obtain ⟨⟨nq, osq⟩, hw''⟩ := hw'
      subst hw''
      go_wp2
      go_roundw
      case rel => exact ⟨k + 1, HMI.out, by congr 1; have := HJ.out.2; omega, by rw [HFN.out], HB.out.trans ((below_gr _ _ _).mono HB.out.size)⟩
      case measure => simp [intOf]; omega
    · have HE : Hid (fanS ps k = v) := Lib.hid (by rw [show k = ps.length - 2 by omega, fan_area h2]; exact hv.out)
      obtain ⟨j, hj⟩ : ∃ j, k + 1 = j := ⟨_, rfl⟩
      have ej : ((k + 1 : Nat) : Int) = (j : Int) := by omega
      have hjl : ¬ (j : Int) + 1 < ps.length := by omega
      have hjw : IntKind.i64.wrap ((j : Int) + 1) = (j : Int) + 1 := wrap_k _ (by omega)
      rw [ej]
      clear ej hj hlt
      generalize fanS ps k = S at *
      go_wp2
      go_ret
      exact ⟨ret_int HE.out, hB⟩
end Go.Proofs.Ytnpadblfpaiofaa
