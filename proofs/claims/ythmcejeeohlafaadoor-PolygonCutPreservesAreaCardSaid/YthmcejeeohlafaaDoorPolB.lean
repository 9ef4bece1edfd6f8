/- Contract of package polygon: DoubleArea. Conditions: the slice reads as the list says; at most twelve points, all valid. -/
import Derived.Test.YthmcejeeohlafaaDoorPolA
namespace Go.Proofs.YthmcejeeohlafaaDoor
open Go.ChangeShapes Go.WideShapes Go.ChangeAt Go.RowKit
attribute [local go_sem] Oper.semAt_some
set_option linter.unusedVariables false
set_option linter.unusedSimpArgs false

def InV (x : Int) : Prop := -439400000 ≤ x ∧ x ≤ 439400000
def AllV (l : List (Int × Int)) : Prop := ∀ i, i < l.length → InV (cx l i) ∧ InV (cy l i)
theorem InV.inr {x : Int} (h : InV x) : InR x := by unfold InV at h; unfold InR; omega
/-- The edge's part of the area. -/
def crossE (ps : List (Int × Int)) (i : Nat) : Int := cx ps i * cy ps (nx ps.length i) - cy ps i * cx ps (nx ps.length i)
def sumE (f : Nat → Int) : List Nat → Int
  | [] => 0
  | i :: r => f i + sumE f r
theorem sumE_snoc (f : Nat → Int) (l : List Nat) (i : Nat) : sumE f (l ++ [i]) = sumE f l + f i := by
  induction l with
  | nil => simp [sumE]
  | cons j r ih => simp [sumE, ih]; omega
def area2 (ps : List (Int × Int)) : Int := sumE (crossE ps) (List.range ps.length)
theorem crossE_bd {ps : List (Int × Int)} (hv : AllV ps) {i : Nat} (hi : i < ps.length) : -386144720000000000 ≤ crossE ps i ∧ crossE ps i ≤ 386144720000000000 := by
  have h1 := hv i hi
  have h2 := hv (nx ps.length i) (Nat.mod_lt _ (by omega))
  unfold InV at h1 h2
  have m1 := mul_bd (x := cx ps i) (c := cy ps (nx ps.length i)) h1.1 h2.2
  have m2 := mul_bd (x := cy ps i) (c := cx ps (nx ps.length i)) h1.2 h2.1
  unfold crossE
  omega
theorem sumE_bd {ps : List (Int × Int)} (hv : AllV ps) : ∀ (l : List {i : Nat // i < ps.length}), -(386144720000000000 * (l.length : Int)) ≤ sumE (crossE ps) (vals l) ∧ sumE (crossE ps) (vals l) ≤ 386144720000000000 * (l.length : Int)
  | [] => by simp [sumE, vals]
  | x :: r => by
    have h1 := crossE_bd hv x.2
    have h2 := sumE_bd hv r
    unfold vals at h2 ⊢
    simp only [List.map_cons, sumE, List.length_cons]
    omega
theorem own_size {β : Type} (B n : Nat) : OwnFrom B (fun (_ : β) W => n ≤ W.heap.size) := fun _ _ _ _ hs hg _ => Nat.le_trans hs hg.size
theorem wrap_in (n : Int) (h : -9223372036854775808 ≤ n ∧ n ≤ 9223372036854775807) : wrap64 n = n := by unfold wrap64; omega
theorem blk_own {β : Type} (b : Nat) (f : β → Obj) (hf : ∀ s, (f s).isCells = true) : Own (fun (s : β) W => W.heap[b]? = some (f s)) := fun s X Y row hs hg hrow =>
  (hg.block b (blk_lt hs) (fun e => by obtain ⟨o, ho, hc⟩ := hrow b e.symm; rw [hs] at ho; cases ho; rw [hf] at hc; cases hc)).trans hs

set_option maxRecDepth 100000 in
set_option maxHeartbeats 4000000 in
theorem area_any (ao : Option Addr) (cap : Nat) (ps : List (Int × Int)) (w : World) (h0 : 0 < ps.length) (hle : ps.length ≤ 12) (hP : PRow w ao ps) (hv : AllV ps) :
    Calls Tryd.prog 15 #[.slice ao ps.length cap] w fun e w' => e = .returned (.int .i64 (area2 ps)) ∧ Below w.heap.size w w' := by
  refine (callsIn_wide (n := 3)).1 ?_
  refine callsIn_of_wp_marks Tryd.func15 rfl trivial ?_ rfl
  simp only [Tryd.ntmps15, List.size_toArray, List.length_cons, List.length_nil, Nat.reduceAdd, Nat.reduceSub, Array.replicate_succ, Array.replicate_zero, List.push_toArray, List.append_toArray, List.nil_append, List.cons_append]
  gi_wp2_with (refine ⟨trivial, ?_⟩; gi_at_call 28; refine (callsIn_wide.2 (edges_is ao ps.length cap _)).mono ?_; rintro e w' ⟨rfl, rfl⟩)
  obtain ⟨W0, hW0⟩ : ∃ W0, (w.alloc (.cells #[.int .i64 0] 3)).alloc (.cells #[.slice ao ps.length cap] 23) = W0 := ⟨_, rfl⟩
  have hS0 : W0.heap[w.heap.size]? = some (.cells #[.int .i64 0] 3 (0, 0)) := by rw [← hW0]; exact blk_alloc (blk_new _ _ _ rfl) _
  have hN0 : W0.heap[w.heap.size + 1]? = some (.cells #[.slice ao ps.length cap] 23 (0, 0)) := by rw [← hW0]; exact blk_new _ _ _ (by simp)
  have hB0 : Below w.heap.size w W0 := by rw [← hW0]; exact belA (belA (Below.refl _ _) _) _
  have hsz : W0.heap.size = w.heap.size + 1 + 1 := by rw [← hW0]; simp
  rw [hW0]
  clear hW0
  refine wpIn_rangeFunc_ownH rfl (by omega) (gf := 42) (lb := #[.pointer (some ⟨w.heap.size + 1, 0, none⟩)]) rfl trivial (enters_of Tryd.func42 (by kernel_rfl) rfl)
    (edges_stops (3 - 1) (by omega) (w.heap.size + 1) ao cap ps w W0 h0 (by omega) hP hB0 hN0) kpE_t (kpE_b (by omega) (by omega)) (Below.refl _ _) (fun _ => rfl)
    (fun pre W => (W.heap[w.heap.size]? = some (.cells #[.int .i64 (sumE (crossE ps) (vals pre))] 3 (0, 0))) ∧ Below w.heap.size w W ∧ W0.heap.size ≤ W.heap.size)
    (fun _ _ _ => False)
    (OwnFrom.and (Own.from (blk_own _ _ (fun _ => rfl)) _) (OwnFrom.and (ownFrom_below (Nat.le_refl _) (by omega)) (own_size _ _)))
    (fun _ _ _ _ _ hs _ _ => hs)
    ⟨hS0, hB0, Nat.le_refl _⟩
    (fun x a' W => ∃ Bx, W0.heap.size ≤ Bx ∧ W.heap[Bx]? = some (.cells #[.int .i64 (cx ps x.1), .int .i64 (cy ps x.1), .int .i64 (cx ps (nx ps.length x.1)), .int .i64 (cy ps (nx ps.length x.1))] 50 (0, 0)) ∧ a' = { tmps := #[.slice ao ps.length cap, undef, .int .i64 0, .pointer (some ⟨w.heap.size, 0, none⟩), undef, .pointer (some ⟨Bx, 0, none⟩), .slice ao ps.length cap, .func (.func 42) #[] #[.pointer (some ⟨w.heap.size + 1, 0, none⟩)], .int .i64 (x.1 : Int), .agg #[.int .i64 (cx ps x.1), .int .i64 (cy ps x.1), .int .i64 (cx ps (nx ps.length x.1)), .int .i64 (cy ps (nx ps.length x.1))], undef, undef, undef, undef, undef, undef, undef, undef, undef, undef, undef, undef, undef, undef, undef, undef, undef, undef], defers := [] })
    (fun x a' => fun _ X Y row ⟨Bx, h1, h2, h3⟩ hg hr => ⟨Bx, h1, (blk_own Bx (fun (_ : Unit) => .cells #[.int .i64 (cx ps x.1), .int .i64 (cy ps x.1), .int .i64 (cx ps (nx ps.length x.1)), .int .i64 (cy ps (nx ps.length x.1))] 50 (0, 0)) (fun _ => rfl)).from _ () X Y row h2 hg hr, h3⟩)
    ?assign ?body ?done ?stop
  case assign =>
    rintro l pre x W K ⟨hS, hB, hz⟩ hK
    rw [show encE ps x = #[.int .i64 (x.1 : Int), .agg #[.int .i64 (cx ps x.1), .int .i64 (cy ps x.1), .int .i64 (cx ps (nx ps.length x.1)), .int .i64 (cy ps (nx ps.length x.1))]] from rfl]
    gi_wp2
    exact hK _ _ ((KeepsOthers.alloc _ _).from _) ⟨(Below.refl _ _).alloc hB.size _, Below.heap_alloc W _ _ (by omega)⟩ ⟨blk_alloc hS _, belA hB _, by simp; omega⟩ ⟨W.heap.size, hz, blk_new _ _ _ rfl, rfl⟩
  case body =>
    rintro l pre x a' W hl ⟨r, hr⟩ ⟨hS, hB, hz⟩ ⟨Bx, hBx, hx, rfl⟩ hlen
    have hsb := sumE_bd hv pre
    have cS := blk_cell hS 0 _ rfl
    have fS := blk_fz hS 0
    have c0 := blk_cell hx 0 _ rfl
    have c1 := blk_cell hx 1 _ rfl
    have c2 := blk_cell hx 2 _ rfl
    have c3 := blk_cell hx 3 _ rfl
    have hc := crossE_bd hv x.2
    have E : wrap64 (sumE (crossE ps) (vals pre) + wrap64 (wrap64 (cx ps x.val * cy ps (nx ps.length x.val)) - wrap64 (cy ps x.val * cx ps (nx ps.length x.val)))) = sumE (crossE ps) (vals (pre ++ [x])) := by
      rw [vals_snoc, sumE_snoc]
      obtain ⟨p1, p2⟩ := hv x.1 x.2
      obtain ⟨p3, p4⟩ := hv (nx ps.length x.1) (Nat.mod_lt _ h0)
      unfold InV at p1 p2 p3 p4
      have m1 := mul_bd (x := cx ps x.1) (c := cy ps (nx ps.length x.1)) p1 p4
      have m2 := mul_bd (x := cy ps x.1) (c := cx ps (nx ps.length x.1)) p2 p3
      unfold crossE at hc
      have e : crossE ps x.val = cx ps x.val * cy ps (nx ps.length x.val) - cy ps x.val * cx ps (nx ps.length x.val) := rfl
      rw [e]
      rw [wrap_in (cx ps x.val * cy ps (nx ps.length x.val)) (by omega), wrap_in (cy ps x.val * cx ps (nx ps.length x.val)) (by omega), wrap_in (cx ps x.val * cy ps (nx ps.length x.val) - cy ps x.val * cx ps (nx ps.length x.val)) (by omega), wrap_in _ (by omega)]
    have E := Lib.hid E
    clear hsb hc
    gi_wp2
    rw [E.out]
    exact ⟨(KeepsOthers.setCell _ _ _).from _, ⟨(Below.refl _ _).setCell (p := ⟨w.heap.size, 0, none⟩) (Nat.le_refl _) _, Below.heap_setCell W _ _ _ (by simp)⟩, blk_set hS _, hB.setCell (p := ⟨w.heap.size, 0, none⟩) (Nat.le_refl _) _, by show _ ≤ (W.heap.modify _ _).size; rw [Array.size_modify]; exact hz⟩
  case done =>
    rintro D ys W hD rfl ⟨hS, hB, hz⟩ hK
    have cS := blk_cell hS 0 _ rfl
    gi_wp2
    refine ⟨by simp, .inl ⟨_, _, rfl, run_takeDeferred hK, ?_⟩⟩
    refine ⟨_, results_tmp rfl _ _ _, ?_, hB.trans (belowK_b (w := w) (Nat.le_refl _) W D _ _ (by omega) hK rfl rfl)⟩
    show Ending.returned (.int .i64 (sumE (crossE ps) (vals (upE ps.length h0 ps.length)))) = _
    rw [vals_upE]; rfl
  case stop =>
    rintro D c pre W _ _ h _
    exact h.elim
end Go.Proofs.YthmcejeeohlafaaDoor
