/- Contracts of package geom: the two folds, BoundingBox, BoxDistance. Condition: the cells of the slice read as the list says. -/
import Derived.Test.YthmcejeeohlafaaGeoB
namespace Go.Proofs.Ythmcejeeohlafaa
open Go.ChangeShapes Go.WideShapes Go.ChangeAt Go.RowKit

/-- The slice reads as the list l. -/
def PRow (w : World) (ao : Option Addr) (l : List (Int × Int)) : Prop := ∀ i, i < l.length → ∃ b o, ao = some ⟨b, o, none⟩ ∧ w.cell? ⟨b, o + i * 2, none⟩ = some (.int .i64 (l.getD i (0, 0)).1) ∧ w.cell? ⟨b, o + i * 2 + 1, none⟩ = some (.int .i64 (l.getD i (0, 0)).2)
def foldP (f : Int × Int → Int × Int → Int × Int) : List (Int × Int) → Int × Int
  | [] => (0, 0)
  | x :: r => r.foldl f x
def lowP (x y : Int × Int) : Int × Int := (mnI x.1 y.1, mnI x.2 y.2)
def uppP (x y : Int × Int) : Int × Int := (mxI x.1 y.1, mxI x.2 y.2)
theorem foldP_one (f : Int × Int → Int × Int → Int × Int) (l : List (Int × Int)) (h : 0 < l.length) : foldP f (l.take 1) = l.getD 0 (0, 0) := by
  cases l with
  | nil => simp at h
  | cons x r => simp [foldP]
theorem foldP_succ (f : Int × Int → Int × Int → Int × Int) (l : List (Int × Int)) (k : Nat) (h0 : 0 < k) (h : k < l.length) : foldP f (l.take (k + 1)) = f (foldP f (l.take k)) (l.getD k (0, 0)) := by
  cases l with
  | nil => simp at h
  | cons x r =>
    obtain ⟨k, rfl⟩ : ∃ j, k = j + 1 := ⟨k - 1, by omega⟩
    simp only [List.length_cons, Nat.add_lt_add_iff_right] at h
    simp only [List.take_succ_cons, foldP, List.getD_cons_succ]
    rw [List.take_succ_eq_append_getElem h, List.foldl_append]
    simp [List.getD_eq_getElem?_getD, h]
theorem cbe (w : World) (vs : Array Value) (T : TypeId) (n j : Nat) (v : Value) (h : w.heap.size = n) (hj : vs[j]? = some v) : (w.alloc (.cells vs T)).cell? ⟨n, j, none⟩ = some v := by
  subst h
  simp [hj]
theorem fz_call {w w1 : World} {p : Addr} (h : w.frozen? p = false) (z : p.block < w.heap.size) (hb : Below w.heap.size w w1) : w1.frozen? p = false := (hb.frozen z).trans h

set_option maxHeartbeats 2000000 in
theorem fold_low (ao : Option Addr) (cap : Nat) (l : List (Int × Int)) (w : World) (hl : l.length ≤ 1000000) (hr : PRow w ao l) :
    Calls Try.prog 18 #[.slice ao l.length cap, .func (.func 19) #[] #[]] w fun e w' => e = .returned (.agg #[.int .i64 (foldP lowP l).1, .int .i64 (foldP lowP l).2]) ∧ Below w.heap.size w w' := by
  go_enter Try.func18, Try.ntmps18
  go_wp2
  go_loopw [10] (fun i wr => ∃ (k : Nat) (s1 s2 : Int), k ≤ l.length ∧ i = .int .i64 k ∧ Hid (foldP lowP (l.take k) = (s1, s2)) ∧ wr.cell? ⟨w.heap.size + 1, 0, none⟩ = some (.int .i64 s1) ∧ wr.cell? ⟨w.heap.size + 1, 1, none⟩ = some (.int .i64 s2) ∧ wr.frozen? ⟨w.heap.size + 1, 0, none⟩ = false ∧ wr.frozen? ⟨w.heap.size + 1, 1, none⟩ = false ∧ wr.cell? ⟨w.heap.size, 0, none⟩ = some (.int .i64 0) ∧ wr.cell? ⟨w.heap.size, 1, none⟩ = some (.int .i64 0) ∧ wr.frozen? ⟨w.heap.size, 0, none⟩ = false ∧ wr.frozen? ⟨w.heap.size, 1, none⟩ = false ∧ Below w.heap.size w wr) (fun i _ => l.length - (intOf i).toNat)
  case atStart =>
    refine ⟨0, 0, 0, Nat.zero_le _, rfl, Lib.hid (by simp [foldP]), ?_, ?_, ?_, ?_, ?_, ?_, ?_, ?_, belA (belA (Below.refl _ _) _) _⟩
    all_goals (go_simp; done)
  case round =>
    obtain ⟨k, s1, s2, hk, rfl, hs, k1, k2, f1, f2, k3, k4, f3, f4, hB⟩ := hrel
    have z1 : w.heap.size + 1 < wr.heap.size := World.block_lt_of_cell? wr _ k1
    have z2 : w.heap.size < wr.heap.size := World.block_lt_of_cell? wr _ k3
    by_cases hlt : k < l.length
    · obtain ⟨b, o, rfl, c1, c2⟩ := hr k hlt
      obtain ⟨e1, e2, he⟩ : ∃ e1 e2, l.getD k (0, 0) = (e1, e2) := ⟨_, _, rfl⟩
      rw [he] at c1 c2
      have c1' := (hB.cell (World.block_lt_of_cell? w _ c1)).trans c1
      have c2' := (hB.cell (World.block_lt_of_cell? w _ c2)).trans c2
      clear c1 c2
      by_cases h0 : k = 0
      · subst h0
        have E : Hid (foldP lowP (l.take (0 + 1)) = (e1, e2)) := Lib.hid ((foldP_one _ _ hlt).trans he)
        have d1 : wr.cell? ⟨b, o, none⟩ = some (.int .i64 e1) := by simpa using c1'
        have d2 : wr.cell? ⟨b, o + 1, none⟩ = some (.int .i64 e2) := by simpa using c2'
        clear hs he hr c1' c2'
        go_wp2
        go_roundw
        case rel =>
          refine ⟨1, e1, e2, by omega, by go_num, E, ?_, ?_, ?_, ?_, ?_, ?_, ?_, ?_, ?_⟩
          all_goals first | (go_simp; done) | (go_simp; refine setc (x := .int .i64 s1) ?_ _; go_simp; done) | (go_simp; refine setc (x := .int .i64 s2) ?_ _; go_simp; done) | (refine belA (belS (belS hB ?_ _) ?_ _) _ <;> simp; done) | (trace_state; fail)
        case measure => simp [intOf]; omega
      · have E : Hid (foldP lowP (l.take (k + 1)) = lowP (s1, s2) (e1, e2)) := Lib.hid (by rw [foldP_succ _ _ _ (by omega) hlt, hs.out, he])
        clear hs he hr
        have hk0 : (0 : Int) < k := by omega
        go_wp2_with fail
        refine (lower_any _ _ _ _ _).mono ?_; rintro e w1 ⟨rfl, hb⟩
        obtain ⟨hc1, hf1⟩ := bcell hb
        have hz := hb.size
        simp at hz
        have hz1 : wr.heap.size < w1.heap.size := by omega
        have hz2 : w.heap.size < w1.heap.size := by omega
        have hz3 : w.heap.size + 1 < w1.heap.size := by omega
        replace hB := belT (belA hB _) hb
        go_wp2
        go_roundw
        case rel =>
          refine ⟨k + 1, _, _, by omega, by go_num, E, ?_, ?_, ?_, ?_, ?_, ?_, ?_, ?_, ?_⟩
          all_goals first | (go_simp; done) | (go_simp; refine setc (x := .int .i64 s1) ?_ _; go_simp; done) | (go_simp; refine setc (x := .int .i64 s2) ?_ _; go_simp; done) | (refine belS (belS hB ?_ _) ?_ _ <;> simp; done) | (trace_state; fail)
        case measure => simp [intOf]; omega
    · have E : Hid (k = l.length) := Lib.hid (by omega)
      go_wp2
      refine bodyPost_ret (v := .agg #[.int .i64 s1, .int .i64 s2]) (by simp [results, Try.results18, go_sem, *]) rfl ?_
      exact ⟨by rw [show l.take k = l by rw [E.out, List.take_length]] at hs; rw [hs.out], by first | (refine belS (belS hB ?_ _) ?_ _ <;> simp; done)⟩

set_option maxHeartbeats 2000000 in
theorem fold_upp (ao : Option Addr) (cap : Nat) (l : List (Int × Int)) (w : World) (hl : l.length ≤ 1000000) (hr : PRow w ao l) :
    Calls Try.prog 18 #[.slice ao l.length cap, .func (.func 20) #[] #[]] w fun e w' => e = .returned (.agg #[.int .i64 (foldP uppP l).1, .int .i64 (foldP uppP l).2]) ∧ Below w.heap.size w w' := by
  go_enter Try.func18, Try.ntmps18
  go_wp2
  go_loopw [10] (fun i wr => ∃ (k : Nat) (s1 s2 : Int), k ≤ l.length ∧ i = .int .i64 k ∧ Hid (foldP uppP (l.take k) = (s1, s2)) ∧ wr.cell? ⟨w.heap.size + 1, 0, none⟩ = some (.int .i64 s1) ∧ wr.cell? ⟨w.heap.size + 1, 1, none⟩ = some (.int .i64 s2) ∧ wr.frozen? ⟨w.heap.size + 1, 0, none⟩ = false ∧ wr.frozen? ⟨w.heap.size + 1, 1, none⟩ = false ∧ wr.cell? ⟨w.heap.size, 0, none⟩ = some (.int .i64 0) ∧ wr.cell? ⟨w.heap.size, 1, none⟩ = some (.int .i64 0) ∧ wr.frozen? ⟨w.heap.size, 0, none⟩ = false ∧ wr.frozen? ⟨w.heap.size, 1, none⟩ = false ∧ Below w.heap.size w wr) (fun i _ => l.length - (intOf i).toNat)
  case atStart =>
    refine ⟨0, 0, 0, Nat.zero_le _, rfl, Lib.hid (by simp [foldP]), ?_, ?_, ?_, ?_, ?_, ?_, ?_, ?_, belA (belA (Below.refl _ _) _) _⟩
    all_goals (go_simp; done)
  case round =>
    obtain ⟨k, s1, s2, hk, rfl, hs, k1, k2, f1, f2, k3, k4, f3, f4, hB⟩ := hrel
    have z1 : w.heap.size + 1 < wr.heap.size := World.block_lt_of_cell? wr _ k1
    have z2 : w.heap.size < wr.heap.size := World.block_lt_of_cell? wr _ k3
    by_cases hlt : k < l.length
    · obtain ⟨b, o, rfl, c1, c2⟩ := hr k hlt
      obtain ⟨e1, e2, he⟩ : ∃ e1 e2, l.getD k (0, 0) = (e1, e2) := ⟨_, _, rfl⟩
      rw [he] at c1 c2
      have c1' := (hB.cell (World.block_lt_of_cell? w _ c1)).trans c1
      have c2' := (hB.cell (World.block_lt_of_cell? w _ c2)).trans c2
      clear c1 c2
      by_cases h0 : k = 0
      · subst h0
        have E : Hid (foldP uppP (l.take (0 + 1)) = (e1, e2)) := Lib.hid ((foldP_one _ _ hlt).trans he)
        have d1 : wr.cell? ⟨b, o, none⟩ = some (.int .i64 e1) := by simpa using c1'
        have d2 : wr.cell? ⟨b, o + 1, none⟩ = some (.int .i64 e2) := by simpa using c2'
        clear hs he hr c1' c2'
        go_wp2
        go_roundw
        case rel =>
          refine ⟨1, e1, e2, by omega, by go_num, E, ?_, ?_, ?_, ?_, ?_, ?_, ?_, ?_, ?_⟩
          all_goals first | (go_simp; done) | (go_simp; refine setc (x := .int .i64 s1) ?_ _; go_simp; done) | (go_simp; refine setc (x := .int .i64 s2) ?_ _; go_simp; done) | (refine belA (belS (belS hB ?_ _) ?_ _) _ <;> simp; done) | (trace_state; fail)
        case measure => simp [intOf]; omega
      · have E : Hid (foldP uppP (l.take (k + 1)) = uppP (s1, s2) (e1, e2)) := Lib.hid (by rw [foldP_succ _ _ _ (by omega) hlt, hs.out, he])
        clear hs he hr
        have hk0 : (0 : Int) < k := by omega
        go_wp2_with fail
        refine (upper_any _ _ _ _ _).mono ?_; rintro e w1 ⟨rfl, hb⟩
        obtain ⟨hc1, hf1⟩ := bcell hb
        have hz := hb.size
        simp at hz
        have hz1 : wr.heap.size < w1.heap.size := by omega
        have hz2 : w.heap.size < w1.heap.size := by omega
        have hz3 : w.heap.size + 1 < w1.heap.size := by omega
        replace hB := belT (belA hB _) hb
        go_wp2
        go_roundw
        case rel =>
          refine ⟨k + 1, _, _, by omega, by go_num, E, ?_, ?_, ?_, ?_, ?_, ?_, ?_, ?_, ?_⟩
          all_goals first | (go_simp; done) | (go_simp; refine setc (x := .int .i64 s1) ?_ _; go_simp; done) | (go_simp; refine setc (x := .int .i64 s2) ?_ _; go_simp; done) | (refine belS (belS hB ?_ _) ?_ _ <;> simp; done) | (trace_state; fail)
        case measure => simp [intOf]; omega
    · have E : Hid (k = l.length) := Lib.hid (by omega)
      go_wp2
      refine bodyPost_ret (v := .agg #[.int .i64 s1, .int .i64 s2]) (by simp [results, Try.results18, go_sem, *]) rfl ?_
      exact ⟨by rw [show l.take k = l by rw [E.out, List.take_length]] at hs; rw [hs.out], by first | (refine belS (belS hB ?_ _) ?_ _ <;> simp; done)⟩

/-- The slice of integers reads as the list l. -/
def IRow (w : World) (ao : Option Addr) (l : List Int) : Prop := ∀ i, i < l.length → ∃ b o, ao = some ⟨b, o, none⟩ ∧ w.cell? ⟨b, o + i, none⟩ = some (.int .i64 (l.getD i 0))
def foldI : List Int → Int
  | [] => 0
  | x :: r => r.foldl mxI x
theorem foldI_one (l : List Int) (h : 0 < l.length) : foldI (l.take 1) = l.getD 0 0 := by
  cases l with
  | nil => simp at h
  | cons x r => simp [foldI]
theorem foldI_succ (l : List Int) (k : Nat) (h0 : 0 < k) (h : k < l.length) : foldI (l.take (k + 1)) = mxI (foldI (l.take k)) (l.getD k 0) := by
  cases l with
  | nil => simp at h
  | cons x r =>
    obtain ⟨k, rfl⟩ : ∃ j, k = j + 1 := ⟨k - 1, by omega⟩
    simp only [List.length_cons, Nat.add_lt_add_iff_right] at h
    simp only [List.take_succ_cons, foldI, List.getD_cons_succ]
    rw [List.take_succ_eq_append_getElem h, List.foldl_append]
    simp [List.getD_eq_getElem?_getD, h]

set_option maxHeartbeats 2000000 in
theorem fold_int (ao : Option Addr) (cap : Nat) (l : List Int) (w : World) (hl : l.length ≤ 1000000) (hr : IRow w ao l) :
    Calls Try.prog 16 #[.slice ao l.length cap, .func (.func 17) #[] #[]] w fun e w' => e = .returned (.int .i64 (foldI l)) ∧ w = w' := by
  go_enter Try.func16, Try.ntmps16
  go_wp2
  go_loop [5, 10] (fun s i => ∃ (k : Nat) (s1 : Int), k ≤ l.length ∧ i = .int .i64 k ∧ s = .int .i64 s1 ∧ Hid (foldI (l.take k) = s1)) (fun _ i => l.length - (intOf i).toNat)
  case atStart => exact ⟨0, 0, Nat.zero_le _, rfl, rfl, Lib.hid (by simp [foldI])⟩
  case round =>
    obtain ⟨k, s1, hk, rfl, rfl, hs⟩ := hrel
    by_cases hlt : k < l.length
    · obtain ⟨b, o, rfl, c1⟩ := hr k hlt
      obtain ⟨e1, he⟩ : ∃ e1, l.getD k 0 = e1 := ⟨_, rfl⟩
      rw [he] at c1
      by_cases h0 : k = 0
      · subst h0
        have E : Hid (foldI (l.take (0 + 1)) = e1) := Lib.hid ((foldI_one _ hlt).trans he)
        have d1 : w.cell? ⟨b, o, none⟩ = some (.int .i64 e1) := by simpa using c1
        clear hs he hr c1
        go_wp2
        go_round
        case rel => exact ⟨1, e1, by omega, by go_num, rfl, E⟩
        case measure => simp [intOf]; omega
      · have E : Hid (foldI (l.take (k + 1)) = mxI s1 e1) := Lib.hid (by rw [foldI_succ _ _ (by omega) hlt, hs.out, he])
        clear hs he hr
        have hk0 : (0 : Int) < k := by omega
        go_wp2_with fail
        refine (larger_any _ _ _).mono ?_; rintro e w1 ⟨rfl, rfl⟩
        go_wp2
        go_round
        case rel => exact ⟨k + 1, _, by omega, by go_num, rfl, E⟩
        case measure => simp [intOf]; omega
    · have E : Hid (k = l.length) := Lib.hid (by omega)
      go_wp2
      go_ret
      exact ⟨ret_int (by rw [← hs.out, E.out, List.take_length]), rfl⟩

theorem prow_below {w w' : World} {ao : Option Addr} {l : List (Int × Int)} (h : PRow w ao l) (hb : Below w.heap.size w w') : PRow w' ao l := fun i hi => by
  obtain ⟨b, o, rfl, c1, c2⟩ := h i hi
  exact ⟨b, o, rfl, (hb.cell (World.block_lt_of_cell? w _ c1)).trans c1, (hb.cell (World.block_lt_of_cell? w _ c2)).trans c2⟩
theorem prow_alloc {w : World} {ao : Option Addr} {l : List (Int × Int)} (h : PRow w ao l) (x : Obj) : PRow (w.alloc x) ao l := prow_below h (belA (Below.refl _ _) x)

set_option maxHeartbeats 1000000 in
theorem bbox_any (ao : Option Addr) (cap : Nat) (l : List (Int × Int)) (w : World) (hl : l.length ≤ 1000000) (hr : PRow w ao l) :
    Calls Try.prog 8 #[.slice ao l.length cap] w fun e w' => e = .returned (.tuple #[.agg #[.int .i64 (foldP lowP l).1, .int .i64 (foldP lowP l).2], .agg #[.int .i64 (foldP uppP l).1, .int .i64 (foldP uppP l).2]]) ∧ Below w.heap.size w w' := by
  have hB : Below w.heap.size w w := Below.refl _ _
  go_enter Try.func8, Try.ntmps8
  go_wp2_with fail
  refine (fold_low ao cap l _ hl (prow_alloc (prow_alloc hr _) _)).mono ?_; rintro e w1 ⟨rfl, hb⟩
  replace hr := prow_below (prow_alloc (prow_alloc hr _) _) hb
  obtain ⟨hc1, hf1⟩ := bcell hb
  have hz1 : w.heap.size < w1.heap.size := by have := hb.size; simp at this; omega
  have hz2 : w.heap.size + 1 < w1.heap.size := by have := hb.size; simp at this; omega
  replace hB := belT (belA (belA hB _) _) hb
  have HR := Lib.hid hr
  clear hr
  go_wp2_with fail
  refine (fold_upp ao cap l _ hl HR.out).mono ?_; rintro e w2 ⟨rfl, hb2⟩
  obtain ⟨hc2, hf2⟩ := bcell hb2
  have hz3 : w.heap.size < w2.heap.size := by have := hb2.size; omega
  have hz4 : w.heap.size + 1 < w2.heap.size := by have := hb2.size; omega
  replace hB := belT hB hb2
  have q0 : w2.cell? ⟨w.heap.size, 0, none⟩ = some (.int .i64 0) := cell_call (cell_call (cell_alloc (cbe w _ _ _ 0 _ rfl rfl) _) hb) hb2
  have q1 : w2.cell? ⟨w.heap.size, 1, none⟩ = some (.int .i64 0) := cell_call (cell_call (cell_alloc (cbe w _ _ _ 1 _ rfl rfl) _) hb) hb2
  have q2 : w2.cell? ⟨w.heap.size + 1, 0, none⟩ = some (.int .i64 0) := cell_call (cell_call (cbe _ _ _ _ 0 _ (by simp) rfl) hb) hb2
  have q3 : w2.cell? ⟨w.heap.size + 1, 1, none⟩ = some (.int .i64 0) := cell_call (cell_call (cbe _ _ _ _ 1 _ (by simp) rfl) hb) hb2
  go_wp2
  refine bodyPost_ret (v := .tuple #[.agg #[.int .i64 (foldP lowP l).1, .int .i64 (foldP lowP l).2], .agg #[.int .i64 (foldP uppP l).1, .int .i64 (foldP uppP l).2]]) (by simp [results, Try.results8, go_sem, q0, q1, q2, q3]) rfl ?_
  exact ⟨rfl, by first | exact hB | (refine belS (belS (belS (belS hB ?_ _) ?_ _) ?_ _) ?_ _ <;> simp; done)⟩
end Go.Proofs.Ythmcejeeohlafaa
