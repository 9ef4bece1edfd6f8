/- Contracts of hull.triangleAt, hull.contains, hull.firstEar. Condition: the slice reads as the list says; the coordinates are bounded. -/
import Derived.Test.YtnpadblfpaiofaaHlC
import Derived.Test.YtnpadblfpaiofaaHlI
import Derived.StillTailTactics
namespace Go.Proofs.Ytnpadblfpaiofaa
open Go.ChangeShapes Go.WideShapes Go.ChangeAt Go.RowKit
set_option linter.unusedVariables false
set_option linter.unusedSimpArgs false

def pv (n i : Nat) : Nat := (i + n - 1) % n
theorem pv_lt {n i : Nat} (h : 0 < n) : pv n i < n := Nat.mod_lt _ h
/-- The triangle at corner i. -/
def triP (ps : List (Int × Int)) (i : Nat) : List (Int × Int) := [gp ps (pv ps.length i), gp ps i, gp ps (nx ps.length i)]
def six (t : List (Int × Int)) : Array Value := #[.int .i64 (cx t 0), .int .i64 (cy t 0), .int .i64 (cx t 1), .int .i64 (cy t 1), .int .i64 (cx t 2), .int .i64 (cy t 2)]

set_option maxRecDepth 100000 in
set_option maxHeartbeats 4000000 in
theorem triAt_is (ao : Option Addr) (n cap i : Nat) (ps : List (Int × Int)) (w : World) (hn : ps.length = n) (hi : i < n) (hle : n ≤ 1000000) (hP : PRow w ao ps) :
    Calls Try.prog 67 #[.slice ao n cap, .int .i64 (i : Int)] w fun e w' => e = .returned (.slice (some ⟨w.heap.size, 0, none⟩) 3 3) ∧ w' = w.drew.alloc (.cells (six (triP ps i)) 35) := by
  subst hn
  obtain ⟨p, hp⟩ : ∃ p, pv ps.length i = p := ⟨_, rfl⟩
  obtain ⟨q, hq⟩ : ∃ q, nx ps.length i = q := ⟨_, rfl⟩
  have hpl : p < ps.length := by rw [← hp]; exact pv_lt (by omega)
  have hql : q < ps.length := by rw [← hq]; exact nx_lt (by omega)
  obtain ⟨b, o, rfl, c1, c2⟩ := prow_at hP hpl
  obtain ⟨b', o', ho', c3, c4⟩ := prow_at hP hi
  obtain ⟨rfl, rfl⟩ : b = b' ∧ o = o' := by simpa using ho'
  clear ho'
  obtain ⟨b', o', ho', c5, c6⟩ := prow_at hP hql
  obtain ⟨rfl, rfl⟩ : b = b' ∧ o = o' := by simpa using ho'
  have E : Hid (six (triP ps i) = #[.int .i64 (cx ps p), .int .i64 (cy ps p), .int .i64 (cx ps i), .int .i64 (cy ps i), .int .i64 (cx ps q), .int .i64 (cy ps q)]) := Lib.hid (by unfold triP; rw [hp, hq]; rfl)
  have Hp : Hid ((i + ps.length - 1) % ps.length = p) := Lib.hid hp
  have Hq : Hid ((i + 1) % ps.length = q) := Lib.hid hq
  have hpl' : (p : Int) < ps.length := by omega
  have hil' : (i : Int) < ps.length := by omega
  have hql' : (q : Int) < ps.length := by omega
  clear hp hq ho' hP
  generalize cx ps p = x1 at *
  generalize cy ps p = x2 at *
  generalize cx ps i = x3 at *
  generalize cy ps i = x4 at *
  generalize cx ps q = x5 at *
  generalize cy ps q = x6 at *
  go_enter Try.func67, Try.ntmps67
  go_wp2
  refine wp_region_still_tail 16 mixedP (by kernel_rfl) ?_
  simp only [List.take_succ_cons, List.take_zero, List.drop_succ_cons, List.drop_zero]
  iterate 3 still_step
  still_call ((prev_is _ _ _ _ _ _ (by omega) hle (by omega) Hp).mono fun _ _ h => ⟨h.1, h.2.symm⟩)
  iterate 9 still_step
  still_call ((hnext_is _ _ _ _ _ _ (by omega) hle (by omega) Hq).mono fun _ _ h => ⟨h.1, h.2.symm⟩)
  iterate 2 still_step
  refine wpStill_nil ?_
  go_wp2
  go_ret
  exact ⟨rfl, by rw [E.out]; rfl⟩

def inB (t : List (Int × Int)) (p q : Int) : Bool := decide (0 ≤ det (cx t 0) (cy t 0) (cx t 1) (cy t 1) p q) && (decide (0 ≤ det (cx t 1) (cy t 1) (cx t 2) (cy t 2) p q) && decide (0 ≤ det (cx t 2) (cy t 2) (cx t 0) (cy t 0) p q))

set_option maxRecDepth 100000 in
set_option maxHeartbeats 1000000 in
theorem contains_gr (b cap : Nat) (a1 a2 b1 b2 c1 c2 p q : Int) (t : Bool) (w : World) (V1 : InV a1) (V2 : InV a2) (V3 : InV b1) (V4 : InV b2) (V5 : InV c1) (V6 : InV c2) (V7 : InV p) (V8 : InV q) (ht : Hid ((decide (0 ≤ det a1 a2 b1 b2 p q) && (decide (0 ≤ det b1 b2 c1 c2 p q) && decide (0 ≤ det c1 c2 a1 a2 p q))) = t))
    (hb : b < w.heap.size) (h1 : w.cell? ⟨b, 0, none⟩ = some (.int .i64 a1)) (h2 : w.cell? ⟨b, 1, none⟩ = some (.int .i64 a2)) (h3 : w.cell? ⟨b, 2, none⟩ = some (.int .i64 b1)) (h4 : w.cell? ⟨b, 3, none⟩ = some (.int .i64 b2)) (h5 : w.cell? ⟨b, 4, none⟩ = some (.int .i64 c1)) (h6 : w.cell? ⟨b, 5, none⟩ = some (.int .i64 c2)) :
    Calls Try.prog 76 #[.slice (some ⟨b, 0, none⟩) 3 cap, .agg #[.int .i64 p, .int .i64 q]] w fun e w' => e = .returned (.bool t) ∧ ∃ n os, w' = Sort.grow (w.drewN n) os := by
  obtain ⟨d1, e1⟩ : ∃ d, det a1 a2 b1 b2 p q = d := ⟨_, rfl⟩
  obtain ⟨d2, e2⟩ : ∃ d, det b1 b2 c1 c2 p q = d := ⟨_, rfl⟩
  obtain ⟨d3, e3⟩ : ∃ d, det c1 c2 a1 a2 p q = d := ⟨_, rfl⟩
  rw [e1, e2, e3] at ht
  have C1 := Lib.hid (fun W => cross_gr a1 a2 b1 b2 p q d1 W V1 V2 V3 V4 V7 V8 (Lib.hid e1))
  have C2 := Lib.hid (fun W => cross_gr b1 b2 c1 c2 p q d2 W V3 V4 V5 V6 V7 V8 (Lib.hid e2))
  have C3 := Lib.hid (fun W => cross_gr c1 c2 a1 a2 p q d3 W V5 V6 V1 V2 V7 V8 (Lib.hid e3))
  clear e1 e2 e3 V1 V2 V3 V4 V5 V6 V7 V8
  have x1 := cell_alloc h1 (.cells #[.int .i64 p, .int .i64 q] 35)
  have x2 := cell_alloc h2 (.cells #[.int .i64 p, .int .i64 q] 35)
  have x3 := cell_alloc h3 (.cells #[.int .i64 p, .int .i64 q] 35)
  have x4 := cell_alloc h4 (.cells #[.int .i64 p, .int .i64 q] 35)
  have x5 := cell_alloc h5 (.cells #[.int .i64 p, .int .i64 q] 35)
  have x6 := cell_alloc h6 (.cells #[.int .i64 p, .int .i64 q] 35)
  have hbl := blk_new w (.cells #[.int .i64 p, .int .i64 q] 35) w.heap.size rfl
  have hz := blk_lt hbl
  have EW : Hid (w.alloc (.cells #[.int .i64 p, .int .i64 q] 35) = Sort.grow w #[.cells #[.int .i64 p, .int .i64 q] 35]) := Lib.hid (Sort.alloc_eq_grow _ _)
  have hb1 : b < (w.alloc (.cells #[.int .i64 p, .int .i64 q] 35)).heap.size := by simp; omega
  go_enter Try.func76, Try.ntmps76
  go_wp2
  generalize w.alloc (.cells #[.int .i64 p, .int .i64 q] 35) = w1 at *
  have x7 := blk_cell hbl 0 _ rfl
  have x8 := blk_cell hbl 1 _ rfl
  clear hbl h1 h2 h3 h4 h5 h6
  have G1 := fun n os => cell_grown (n := n) (os := os) hb1 x1
  have G2 := fun n os => cell_grown (n := n) (os := os) hb1 x2
  have G3 := fun n os => cell_grown (n := n) (os := os) hb1 x3
  have G4 := fun n os => cell_grown (n := n) (os := os) hb1 x4
  have G5 := fun n os => cell_grown (n := n) (os := os) hb1 x5
  have G6 := fun n os => cell_grown (n := n) (os := os) hb1 x6
  have G7 := fun n os => cell_grown (n := n) (os := os) hz x7
  have G8 := fun n os => cell_grown (n := n) (os := os) hz x8
  clear x1 x2 x3 x4 x5 x6 x7 x8
  by_cases k1 : 0 ≤ d1
  · by_cases k2 : 0 ≤ d2
    · have HT : Hid (decide (0 ≤ d3) = t) := Lib.hid (by rw [← ht.out, decide_eq_true k1, decide_eq_true k2]; simp)
      refine wq_region mixedP (by kernel_rfl) ?_
      repeat (refine wq_step (fun K hK => ?_); go_simp; first | (refine hK _ ?_; clear hK K) | (apply Exists.intro; refine ⟨fun _ => ?_, hK _ ?_⟩; (first | (go_at_call 62; first | with_reducible refine Calls.grown_of (C1.out _) | with_reducible refine Calls.grown_of (C2.out _) | with_reducible refine Calls.grown_of (C3.out _))); clear hK K))
      refine wq_nil ?_
      intro _ hw'
      obtain ⟨⟨nq, osq⟩, hw''⟩ := hw'
      subst hw''
      go_wp2
      go_ret
      exact ⟨ret_bool HT.out, _, _, by rw [EW.out]; show Sort.grow (Sort.grow (w.drewN nq) _) _ = _; rw [Sort.grow_grow]⟩
    · have HT : Hid (false = t) := Lib.hid (by rw [← ht.out, decide_eq_false k2]; simp)
      refine wq_region mixedP (by kernel_rfl) ?_
      repeat (refine wq_step (fun K hK => ?_); go_simp; first | (refine hK _ ?_; clear hK K) | (apply Exists.intro; refine ⟨fun _ => ?_, hK _ ?_⟩; (first | (go_at_call 62; first | with_reducible refine Calls.grown_of (C1.out _) | with_reducible refine Calls.grown_of (C2.out _) | with_reducible refine Calls.grown_of (C3.out _))); clear hK K))
      refine wq_nil ?_
      intro _ hw'
      obtain ⟨⟨nq, osq⟩, hw''⟩ := hw'
      subst hw''
      go_wp2
      go_ret
      exact ⟨ret_bool HT.out, _, _, by rw [EW.out]; show Sort.grow (Sort.grow (w.drewN nq) _) _ = _; rw [Sort.grow_grow]⟩
  · have HT : Hid (false = t) := Lib.hid (by rw [← ht.out, decide_eq_false k1]; simp)
    refine wq_region mixedP (by kernel_rfl) ?_
    repeat (refine wq_step (fun K hK => ?_); go_simp; first | (refine hK _ ?_; clear hK K) | (apply Exists.intro; refine ⟨fun _ => ?_, hK _ ?_⟩; (first | (go_at_call 62; first | with_reducible refine Calls.grown_of (C1.out _) | with_reducible refine Calls.grown_of (C2.out _) | with_reducible refine Calls.grown_of (C3.out _))); clear hK K))
    refine wq_nil ?_
    intro _ hw'
    obtain ⟨⟨nq, osq⟩, hw''⟩ := hw'
    subst hw''
    go_wp2
    go_ret
    exact ⟨ret_bool HT.out, _, _, by rw [EW.out]; show Sort.grow (Sort.grow (w.drewN nq) _) _ = _; rw [Sort.grow_grow]⟩
end Go.Proofs.Ytnpadblfpaiofaa
