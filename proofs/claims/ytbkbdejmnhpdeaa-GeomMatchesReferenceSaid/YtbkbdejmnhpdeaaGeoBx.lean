/- Contracts of the reference ambidexterref02: Box and Gap. Condition: the cells of the slices read as the lists say. -/
import Derived.Test.YtbkbdejmnhpdeaaGeoF
import Derived.StillTailTactics
namespace Go.Proofs.Ytbkbdejmnhpdeaa
open Go.ChangeShapes Go.WideShapes Go.ChangeAt Go.RowKit

theorem mnI_self (a : Int) : mnI a a = a := by unfold mnI; split <;> rfl
theorem mxI_self (a : Int) : mxI a a = a := by unfold mxI; split <;> rfl

/-- The fold so far: the first element counts once more. -/
def accP (f : Int × Int → Int × Int → Int × Int) (l : List (Int × Int)) (k : Nat) : Int × Int := if k = 0 then l.getD 0 (0, 0) else foldP f (l.take k)
theorem accP_next (f : Int × Int → Int × Int → Int × Int) (hf : ∀ x, f x x = x) (l : List (Int × Int)) (k : Nat) (h : k < l.length) : accP f l (k + 1) = f (accP f l k) (l.getD k (0, 0)) := by
  unfold accP
  rw [if_neg (by omega)]
  by_cases h0 : k = 0
  · subst h0
    rw [if_pos rfl, foldP_one f l h, hf]
  · rw [if_neg h0, foldP_succ f l k (by omega) h]
theorem accP_all (f : Int × Int → Int × Int → Int × Int) (l : List (Int × Int)) (h : 0 < l.length) : accP f l l.length = foldP f l := by
  unfold accP
  rw [if_neg (by omega), List.take_length]

set_option maxHeartbeats 2000000 in
theorem rbox_zero (ao : Option Addr) (cap : Nat) (w : World) :
    Calls Try.prog 14 #[.slice ao 0 cap] w fun e w' => e = .returned (.tuple #[.agg #[.int .i64 0, .int .i64 0], .agg #[.int .i64 0, .int .i64 0]]) ∧ Below w.heap.size w w' := by
  go_enter Try.func14, Try.ntmps14
  go_wp2
  refine bodyPost_ret (v := .tuple #[.agg #[.int .i64 0, .int .i64 0], .agg #[.int .i64 0, .int .i64 0]]) (by simp [results, Try.results14, go_sem]) rfl ?_
  exact ⟨rfl, by first | exact belA (belA (Below.refl _ _) _) _ | go_grown⟩

set_option maxHeartbeats 4000000 in
theorem rbox_some (ao : Option Addr) (cap : Nat) (l : List (Int × Int)) (w : World) (hl : l.length ≤ 1000000) (h0 : 0 < l.length) (hr : PRow w ao l) :
    Calls Try.prog 14 #[.slice ao l.length cap] w fun e w' => e = .returned (.tuple #[.agg #[.int .i64 (foldP lowP l).1, .int .i64 (foldP lowP l).2], .agg #[.int .i64 (foldP uppP l).1, .int .i64 (foldP uppP l).2]]) ∧ Below w.heap.size w w' := by
  obtain ⟨b, o, rfl, c1, c2⟩ := hr 0 h0
  obtain ⟨x, y, he0⟩ : ∃ x y, l.getD 0 (0, 0) = (x, y) := ⟨_, _, rfl⟩
  rw [he0] at c1 c2
  have d1 : w.cell? ⟨b, o, none⟩ = some (.int .i64 x) := by simpa using c1
  have d2 : w.cell? ⟨b, o + 1, none⟩ = some (.int .i64 y) := by simpa using c2
  have zb : b < w.heap.size := World.block_lt_of_cell? w _ d1
  have nb1 : ¬ b = w.heap.size + 1 + 1 := by omega
  have nb2 : ¬ w.heap.size + 1 + 1 = b := by omega
  have zb1 : b < w.heap.size + 1 := by omega
  have zb2 : b < w.heap.size + 1 + 1 := by omega
  have A0 : Hid (accP lowP l 0 = (x, y)) := Lib.hid (by unfold accP; rw [if_pos rfl, he0])
  have A1 : Hid (accP uppP l 0 = (x, y)) := Lib.hid (by unfold accP; rw [if_pos rfl, he0])
  have n0 : ((l.length : Int) == 0) = false := by rw [beq_eq_false_iff_ne]; omega
  have n1 : (0 : Int) < l.length := by omega
  have HR := Lib.hid hr
  clear c1 c2 he0 hr
  go_enter Try.func14, Try.ntmps14
  go_wp2
  clear d1 d2 zb zb1 zb2
  go_loopw [6] (fun i wr => ∃ (k : Nat) (s1 s2 t1 t2 : Int), k ≤ l.length ∧ i = .int .i64 k ∧ Hid (accP lowP l k = (s1, s2)) ∧ Hid (accP uppP l k = (t1, t2)) ∧ wr.cell? ⟨w.heap.size + 1 + 1, 0, none⟩ = some (.int .i64 s1) ∧ wr.cell? ⟨w.heap.size + 1 + 1, 1, none⟩ = some (.int .i64 s2) ∧ wr.cell? ⟨w.heap.size + 1 + 1 + 1, 0, none⟩ = some (.int .i64 t1) ∧ wr.cell? ⟨w.heap.size + 1 + 1 + 1, 1, none⟩ = some (.int .i64 t2) ∧ wr.frozen? ⟨w.heap.size + 1 + 1, 0, none⟩ = false ∧ wr.frozen? ⟨w.heap.size + 1 + 1, 1, none⟩ = false ∧ wr.frozen? ⟨w.heap.size + 1 + 1 + 1, 0, none⟩ = false ∧ wr.frozen? ⟨w.heap.size + 1 + 1 + 1, 1, none⟩ = false ∧ wr.cell? ⟨w.heap.size, 0, none⟩ = some (.int .i64 0) ∧ wr.cell? ⟨w.heap.size, 1, none⟩ = some (.int .i64 0) ∧ wr.cell? ⟨w.heap.size + 1, 0, none⟩ = some (.int .i64 0) ∧ wr.cell? ⟨w.heap.size + 1, 1, none⟩ = some (.int .i64 0) ∧ wr.frozen? ⟨w.heap.size, 0, none⟩ = false ∧ wr.frozen? ⟨w.heap.size, 1, none⟩ = false ∧ wr.frozen? ⟨w.heap.size + 1, 0, none⟩ = false ∧ wr.frozen? ⟨w.heap.size + 1, 1, none⟩ = false ∧ Below w.heap.size w wr) (fun i _ => l.length - (intOf i).toNat)
  case atStart =>
    refine ⟨0, x, y, x, y, Nat.zero_le _, rfl, A0, A1, ?_, ?_, ?_, ?_, ?_, ?_, ?_, ?_, ?_, ?_, ?_, ?_, ?_, ?_, ?_, ?_, belA (belA (belA (belA (Below.refl _ _) _) _) _) _⟩
    all_goals (go_simp; done)
  case round =>
    obtain ⟨k, s1, s2, t1, t2, hk, rfl, hs, ht, k1, k2, k3, k4, f1, f2, f3, f4, q1, q2, q3, q4, f5, f6, f7, f8, hB⟩ := hrel
    have z1 := World.block_lt_of_cell? wr _ k1
    have z2 := World.block_lt_of_cell? wr _ k3
    have z3 := World.block_lt_of_cell? wr _ q1
    have z4 := World.block_lt_of_cell? wr _ q3
    by_cases hlt : k < l.length
    · obtain ⟨b', o', ho, c1, c2⟩ := HR.out k hlt
      obtain ⟨rfl, rfl⟩ : b = b' ∧ o = o' := by simpa using ho
      obtain ⟨e1, e2, he⟩ : ∃ e1 e2, l.getD k (0, 0) = (e1, e2) := ⟨_, _, rfl⟩
      rw [he] at c1 c2
      have d1 := (hB.cell (World.block_lt_of_cell? w _ c1)).trans c1
      have d2 := (hB.cell (World.block_lt_of_cell? w _ c2)).trans c2
      have E1 : Hid (accP lowP l (k + 1) = lowP (s1, s2) (e1, e2)) := Lib.hid (by rw [accP_next lowP (fun x => by simp [lowP, mnI_self]) l k hlt, hs.out, he])
      have E2 : Hid (accP uppP l (k + 1) = uppP (t1, t2) (e1, e2)) := Lib.hid (by rw [accP_next uppP (fun x => by simp [uppP, mxI_self]) l k hlt, ht.out, he])
      have m1 := run_min2 s1 e1
      have m2 := run_min2 s2 e2
      have m3 := run_max2 t1 e1
      have m4 := run_max2 t2 e2
      have hki : (0 : Int) ≤ k := by omega
      have hki2 : (k : Int) < l.length := by omega
      clear c1 c2 he hs ht ho
      go_wp2_with fail
      go_still_tail 17, (by kernel_rfl)
      go_wp2_with fail
      have k1' : ((wr.setCell ⟨w.heap.size + 1 + 1, 0, none⟩ (.int .i64 (mnI s1 e1))).setCell ⟨w.heap.size + 1 + 1, 1, none⟩ (.int .i64 (mnI s2 e2))).drew.cell? ⟨w.heap.size + 1 + 1, 0, none⟩ = some (.int .i64 (mnI s1 e1)) := by first | (go_simp; done) | (go_simp; refine setc (x := .int .i64 s1) ?_ _; go_simp; done) | (go_simp; refine setc (x := .int .i64 s2) ?_ _; go_simp; done)
      have k2' : ((wr.setCell ⟨w.heap.size + 1 + 1, 0, none⟩ (.int .i64 (mnI s1 e1))).setCell ⟨w.heap.size + 1 + 1, 1, none⟩ (.int .i64 (mnI s2 e2))).drew.cell? ⟨w.heap.size + 1 + 1, 1, none⟩ = some (.int .i64 (mnI s2 e2)) := by first | (go_simp; done) | (go_simp; refine setc (x := .int .i64 s1) ?_ _; go_simp; done) | (go_simp; refine setc (x := .int .i64 s2) ?_ _; go_simp; done)
      have k3' : ((wr.setCell ⟨w.heap.size + 1 + 1, 0, none⟩ (.int .i64 (mnI s1 e1))).setCell ⟨w.heap.size + 1 + 1, 1, none⟩ (.int .i64 (mnI s2 e2))).drew.cell? ⟨w.heap.size + 1 + 1 + 1, 0, none⟩ = some (.int .i64 t1) := by first | (go_simp; done) | (go_simp; refine setc (x := .int .i64 s1) ?_ _; go_simp; done) | (go_simp; refine setc (x := .int .i64 s2) ?_ _; go_simp; done)
      have k4' : ((wr.setCell ⟨w.heap.size + 1 + 1, 0, none⟩ (.int .i64 (mnI s1 e1))).setCell ⟨w.heap.size + 1 + 1, 1, none⟩ (.int .i64 (mnI s2 e2))).drew.cell? ⟨w.heap.size + 1 + 1 + 1, 1, none⟩ = some (.int .i64 t2) := by first | (go_simp; done) | (go_simp; refine setc (x := .int .i64 s1) ?_ _; go_simp; done) | (go_simp; refine setc (x := .int .i64 s2) ?_ _; go_simp; done)
      have f1' : ((wr.setCell ⟨w.heap.size + 1 + 1, 0, none⟩ (.int .i64 (mnI s1 e1))).setCell ⟨w.heap.size + 1 + 1, 1, none⟩ (.int .i64 (mnI s2 e2))).drew.frozen? ⟨w.heap.size + 1 + 1, 0, none⟩ = false := by first | (go_simp; done) | (go_simp; refine setc (x := .int .i64 s1) ?_ _; go_simp; done) | (go_simp; refine setc (x := .int .i64 s2) ?_ _; go_simp; done)
      have f2' : ((wr.setCell ⟨w.heap.size + 1 + 1, 0, none⟩ (.int .i64 (mnI s1 e1))).setCell ⟨w.heap.size + 1 + 1, 1, none⟩ (.int .i64 (mnI s2 e2))).drew.frozen? ⟨w.heap.size + 1 + 1, 1, none⟩ = false := by first | (go_simp; done) | (go_simp; refine setc (x := .int .i64 s1) ?_ _; go_simp; done) | (go_simp; refine setc (x := .int .i64 s2) ?_ _; go_simp; done)
      have f3' : ((wr.setCell ⟨w.heap.size + 1 + 1, 0, none⟩ (.int .i64 (mnI s1 e1))).setCell ⟨w.heap.size + 1 + 1, 1, none⟩ (.int .i64 (mnI s2 e2))).drew.frozen? ⟨w.heap.size + 1 + 1 + 1, 0, none⟩ = false := by first | (go_simp; done) | (go_simp; refine setc (x := .int .i64 s1) ?_ _; go_simp; done) | (go_simp; refine setc (x := .int .i64 s2) ?_ _; go_simp; done)
      have f4' : ((wr.setCell ⟨w.heap.size + 1 + 1, 0, none⟩ (.int .i64 (mnI s1 e1))).setCell ⟨w.heap.size + 1 + 1, 1, none⟩ (.int .i64 (mnI s2 e2))).drew.frozen? ⟨w.heap.size + 1 + 1 + 1, 1, none⟩ = false := by first | (go_simp; done) | (go_simp; refine setc (x := .int .i64 s1) ?_ _; go_simp; done) | (go_simp; refine setc (x := .int .i64 s2) ?_ _; go_simp; done)
      have q1' : ((wr.setCell ⟨w.heap.size + 1 + 1, 0, none⟩ (.int .i64 (mnI s1 e1))).setCell ⟨w.heap.size + 1 + 1, 1, none⟩ (.int .i64 (mnI s2 e2))).drew.cell? ⟨w.heap.size, 0, none⟩ = some (.int .i64 0) := by first | (go_simp; done) | (go_simp; refine setc (x := .int .i64 s1) ?_ _; go_simp; done) | (go_simp; refine setc (x := .int .i64 s2) ?_ _; go_simp; done)
      have q2' : ((wr.setCell ⟨w.heap.size + 1 + 1, 0, none⟩ (.int .i64 (mnI s1 e1))).setCell ⟨w.heap.size + 1 + 1, 1, none⟩ (.int .i64 (mnI s2 e2))).drew.cell? ⟨w.heap.size, 1, none⟩ = some (.int .i64 0) := by first | (go_simp; done) | (go_simp; refine setc (x := .int .i64 s1) ?_ _; go_simp; done) | (go_simp; refine setc (x := .int .i64 s2) ?_ _; go_simp; done)
      have q3' : ((wr.setCell ⟨w.heap.size + 1 + 1, 0, none⟩ (.int .i64 (mnI s1 e1))).setCell ⟨w.heap.size + 1 + 1, 1, none⟩ (.int .i64 (mnI s2 e2))).drew.cell? ⟨w.heap.size + 1, 0, none⟩ = some (.int .i64 0) := by first | (go_simp; done) | (go_simp; refine setc (x := .int .i64 s1) ?_ _; go_simp; done) | (go_simp; refine setc (x := .int .i64 s2) ?_ _; go_simp; done)
      have q4' : ((wr.setCell ⟨w.heap.size + 1 + 1, 0, none⟩ (.int .i64 (mnI s1 e1))).setCell ⟨w.heap.size + 1 + 1, 1, none⟩ (.int .i64 (mnI s2 e2))).drew.cell? ⟨w.heap.size + 1, 1, none⟩ = some (.int .i64 0) := by first | (go_simp; done) | (go_simp; refine setc (x := .int .i64 s1) ?_ _; go_simp; done) | (go_simp; refine setc (x := .int .i64 s2) ?_ _; go_simp; done)
      have f5' : ((wr.setCell ⟨w.heap.size + 1 + 1, 0, none⟩ (.int .i64 (mnI s1 e1))).setCell ⟨w.heap.size + 1 + 1, 1, none⟩ (.int .i64 (mnI s2 e2))).drew.frozen? ⟨w.heap.size, 0, none⟩ = false := by first | (go_simp; done) | (go_simp; refine setc (x := .int .i64 s1) ?_ _; go_simp; done) | (go_simp; refine setc (x := .int .i64 s2) ?_ _; go_simp; done)
      have f6' : ((wr.setCell ⟨w.heap.size + 1 + 1, 0, none⟩ (.int .i64 (mnI s1 e1))).setCell ⟨w.heap.size + 1 + 1, 1, none⟩ (.int .i64 (mnI s2 e2))).drew.frozen? ⟨w.heap.size, 1, none⟩ = false := by first | (go_simp; done) | (go_simp; refine setc (x := .int .i64 s1) ?_ _; go_simp; done) | (go_simp; refine setc (x := .int .i64 s2) ?_ _; go_simp; done)
      have f7' : ((wr.setCell ⟨w.heap.size + 1 + 1, 0, none⟩ (.int .i64 (mnI s1 e1))).setCell ⟨w.heap.size + 1 + 1, 1, none⟩ (.int .i64 (mnI s2 e2))).drew.frozen? ⟨w.heap.size + 1, 0, none⟩ = false := by first | (go_simp; done) | (go_simp; refine setc (x := .int .i64 s1) ?_ _; go_simp; done) | (go_simp; refine setc (x := .int .i64 s2) ?_ _; go_simp; done)
      have f8' : ((wr.setCell ⟨w.heap.size + 1 + 1, 0, none⟩ (.int .i64 (mnI s1 e1))).setCell ⟨w.heap.size + 1 + 1, 1, none⟩ (.int .i64 (mnI s2 e2))).drew.frozen? ⟨w.heap.size + 1, 1, none⟩ = false := by first | (go_simp; done) | (go_simp; refine setc (x := .int .i64 s1) ?_ _; go_simp; done) | (go_simp; refine setc (x := .int .i64 s2) ?_ _; go_simp; done)
      have d1' : ((wr.setCell ⟨w.heap.size + 1 + 1, 0, none⟩ (.int .i64 (mnI s1 e1))).setCell ⟨w.heap.size + 1 + 1, 1, none⟩ (.int .i64 (mnI s2 e2))).drew.cell? ⟨b, o + k * 2, none⟩ = some (.int .i64 e1) := by first | (go_simp; done) | (go_simp; refine setc (x := .int .i64 s1) ?_ _; go_simp; done) | (go_simp; refine setc (x := .int .i64 s2) ?_ _; go_simp; done)
      have d2' : ((wr.setCell ⟨w.heap.size + 1 + 1, 0, none⟩ (.int .i64 (mnI s1 e1))).setCell ⟨w.heap.size + 1 + 1, 1, none⟩ (.int .i64 (mnI s2 e2))).drew.cell? ⟨b, o + k * 2 + 1, none⟩ = some (.int .i64 e2) := by first | (go_simp; done) | (go_simp; refine setc (x := .int .i64 s1) ?_ _; go_simp; done) | (go_simp; refine setc (x := .int .i64 s2) ?_ _; go_simp; done)
      have hB' : Below w.heap.size w ((wr.setCell ⟨w.heap.size + 1 + 1, 0, none⟩ (.int .i64 (mnI s1 e1))).setCell ⟨w.heap.size + 1 + 1, 1, none⟩ (.int .i64 (mnI s2 e2))).drew := (belS (belS hB (by simp; omega) _) (by simp; omega) _).drew
      clear k1 k2 k3 k4 f1 f2 f3 f4 q1 q2 q3 q4 f5 f6 f7 f8 d1 d2 hB z1 z2 z3 z4
      generalize ((wr.setCell ⟨w.heap.size + 1 + 1, 0, none⟩ (.int .i64 (mnI s1 e1))).setCell ⟨w.heap.size + 1 + 1, 1, none⟩ (.int .i64 (mnI s2 e2))).drew = wv at *
      have zk1 := World.block_lt_of_cell? wv _ k1'
      have zk3 := World.block_lt_of_cell? wv _ k3'
      have zq1 := World.block_lt_of_cell? wv _ q1'
      have zq3 := World.block_lt_of_cell? wv _ q3'
      go_still_tail 17, (by kernel_rfl)
      go_wp2_with fail
      go_roundw
      case rel =>
        refine ⟨k + 1, mnI s1 e1, mnI s2 e2, mxI t1 e1, mxI t2 e2, by omega, by go_num, E1, E2, ?_, ?_, ?_, ?_, ?_, ?_, ?_, ?_, ?_, ?_, ?_, ?_, ?_, ?_, ?_, ?_, ?_⟩
        all_goals first | (go_simp; done) | (go_simp; refine setc (x := .int .i64 s1) ?_ _; go_simp; done) | (go_simp; refine setc (x := .int .i64 s2) ?_ _; go_simp; done) | (go_simp; refine setc (x := .int .i64 t1) ?_ _; go_simp; done) | (go_simp; refine setc (x := .int .i64 t2) ?_ _; go_simp; done) | skip
        exact (belS (belS hB' (by simp; omega) _) (by simp; omega) _).drew
      case measure => simp [intOf]; omega
    · have F1 : Hid (foldP lowP l = (s1, s2)) := Lib.hid (by rw [← accP_all lowP l h0, ← hs.out, show k = l.length by omega])
      have F2 : Hid (foldP uppP l = (t1, t2)) := Lib.hid (by rw [← accP_all uppP l h0, ← ht.out, show k = l.length by omega])
      go_wp2_with fail
      go_region
      all_goals
        go_wp2_with fail
        refine bodyPost_ret (v := .tuple #[.agg #[.int .i64 s1, .int .i64 s2], .agg #[.int .i64 t1, .int .i64 t2]]) (by simp [results, Try.results14, go_sem, q1, q2, q3, q4]) rfl ?_
        refine ⟨by rw [F1.out, F2.out], ?_⟩
        first | exact (belS (belS (belS (belS hB.drew (by simp) _) (by simp) _) (by simp) _) (by simp) _) | exact (belS (belS (belS (belS hB (by simp) _) (by simp) _) (by simp) _) (by simp) _).drew | go_outline

theorem rbox_any (ao : Option Addr) (cap : Nat) (l : List (Int × Int)) (w : World) (hl : l.length ≤ 1000000) (hr : PRow w ao l) :
    Calls Try.prog 14 #[.slice ao l.length cap] w fun e w' => e = .returned (.tuple #[.agg #[.int .i64 (foldP lowP l).1, .int .i64 (foldP lowP l).2], .agg #[.int .i64 (foldP uppP l).1, .int .i64 (foldP uppP l).2]]) ∧ Below w.heap.size w w' := by
  cases l with
  | nil => exact rbox_zero ao cap w
  | cons x r => exact rbox_some ao cap (x :: r) w hl (by simp) hr
theorem rbox_is (ao : Option Addr) (cap : Nat) (l : List (Int × Int)) (w : World) (hl : l.length ≤ 1000000) (hr : PRow w ao l) (a b c d : Int) (hL : Hid (foldP lowP l = (a, b))) (hU : Hid (foldP uppP l = (c, d))) :
    Calls Try.prog 14 #[.slice ao l.length cap] w fun e w' => e = .returned (.tuple #[.agg #[.int .i64 a, .int .i64 b], .agg #[.int .i64 c, .int .i64 d]]) ∧ Below w.heap.size w w' := by
  have := rbox_any ao cap l w hl hr
  rw [hL.out, hU.out] at this
  exact this
theorem mx_rc (x b c : Int) : mxI (mxI x b) c = mxI (mxI x c) b := by
  have h1 := mxI_bd x b
  have h2 := mxI_bd (mxI x b) c
  have h3 := mxI_bd x c
  have h4 := mxI_bd (mxI x c) b
  omega
theorem run_max5 (a b c d e : Int) (w : World) : (Builtin.max_ #[3, 3, 3, 3, 3] 3 #[.int .i64 a, .int .i64 b, .int .i64 c, .int .i64 d, .int .i64 e]).run Try.prog w = .ok (.int .i64 (mxI (mxI (mxI (mxI a b) c) d) e)) w := by
  simp [Builtin.max_, Builtin.max2]
  rfl
theorem gap_ord (a b c d p q r s : Int) : gapI a b c d p q r s = mxI (mxI (mxI (mxI 0 (p - c)) (a - r)) (q - d)) (b - s) := by
  unfold gapI foldI
  simp only [List.foldl_cons, List.foldl_nil]
  rw [mx_rc (mxI 0 (p - c)) (q - d) (a - r)]

theorem rgap_zero (ao bo : Option Addr) (ca cb : Nat) (la lb : List (Int × Int)) (w : World) (ha : la.length ≤ 1000000) (hb : lb.length ≤ 1000000) (h : la.length = 0 ∨ lb.length = 0) :
    Calls Try.prog 26 #[.slice ao la.length ca, .slice bo lb.length cb] w fun e w' => e = .returned (.int .i64 (boxD la lb)) ∧ Below w.heap.size w w' := by
  have E : Hid (boxD la lb = 0) := Lib.hid (by unfold boxD; rw [if_pos h])
  by_cases h0 : la.length = 0
  · rw [h0]
    clear h h0
    go_enter Try.func26, Try.ntmps26
    go_wp2
    go_ret
    exact ⟨ret_int E.out.symm, Below.refl _ _⟩
  · have h1 : lb.length = 0 := by omega
    have h2 : ¬ (la.length : Int) = 0 := by omega
    rw [h1]
    clear h h1
    go_enter Try.func26, Try.ntmps26
    go_wp2
    go_ret
    exact ⟨ret_int E.out.symm, Below.refl _ _⟩

set_option maxHeartbeats 4000000 in
theorem rgap_some (ao bo : Option Addr) (ca cb : Nat) (la lb : List (Int × Int)) (w : World) (ha : la.length ≤ 1000000) (hb' : lb.length ≤ 1000000) (h0 : 0 < la.length) (h1 : 0 < lb.length) (ra : PRow w ao la) (rb : PRow w bo lb) (a b c d p q r s : Int) (ia : InR a) (ib : InR b) (ic : InR c) (id : InR d) (ip : InR p) (iq : InR q) (ir : InR r) (is : InR s)
    (hL : Hid (foldP lowP la = (a, b))) (hU : Hid (foldP uppP la = (c, d))) (hM : Hid (foldP lowP lb = (p, q))) (hV : Hid (foldP uppP lb = (r, s))) :
    Calls Try.prog 26 #[.slice ao la.length ca, .slice bo lb.length cb] w fun e w' => e = .returned (.int .i64 (gapI a b c d p q r s)) ∧ Below w.heap.size w w' := by
  have d1 := dif_bd ip ic
  have d2 := dif_bd iq id
  have d3 := dif_bd ia ir
  have d4 := dif_bd ib is
  obtain ⟨d11, d12⟩ := d1
  obtain ⟨d21, d22⟩ := d2
  obtain ⟨d31, d32⟩ := d3
  obtain ⟨d41, d42⟩ := d4
  clear ia ib ic id ip iq ir is
  have n0 : ((la.length : Int) == 0) = false := by rw [beq_eq_false_iff_ne]; omega
  have n1 : ((lb.length : Int) == 0) = false := by rw [beq_eq_false_iff_ne]; omega
  have HA := Lib.hid ra
  have HB := Lib.hid rb
  have MX := run_max5 0 (p - c) (a - r) (q - d) (b - s)
  have GO := Lib.hid (gap_ord a b c d p q r s)
  clear ra rb
  have hB : Below w.heap.size w w := Below.refl _ _
  go_enter Try.func26, Try.ntmps26
  go_wp2_with fail
  refine (rbox_is ao ca la _ ha HA.out a b c d hL hU).mono ?_; rintro e w1 ⟨rfl, hb⟩
  replace hB := belT hB hb
  clear hb
  replace HB := Lib.hid (prow_below HB.out hB)
  go_wp2_with fail
  refine (rbox_is bo cb lb _ hb' (prow_alloc (prow_alloc HB.out _) _) p q r s hM hV).mono ?_; rintro e w2 ⟨rfl, hb⟩
  have k1 : w2.cell? ⟨w1.heap.size, 0, none⟩ = some (.int .i64 a) := cell_call (cell_alloc (cbx w1 #[.int .i64 a, .int .i64 b] 23 (w1.heap.size) 0 (.int .i64 a) (by simp) rfl) _) hb
  have k2 : w2.cell? ⟨w1.heap.size, 1, none⟩ = some (.int .i64 b) := cell_call (cell_alloc (cbx w1 #[.int .i64 a, .int .i64 b] 23 (w1.heap.size) 1 (.int .i64 b) (by simp) rfl) _) hb
  have k3 : w2.cell? ⟨w1.heap.size + 1, 0, none⟩ = some (.int .i64 c) := cell_call (cbx (w1.alloc (.cells #[.int .i64 a, .int .i64 b] 23)) #[.int .i64 c, .int .i64 d] 23 (w1.heap.size + 1) 0 (.int .i64 c) (by simp) rfl) hb
  have k4 : w2.cell? ⟨w1.heap.size + 1, 1, none⟩ = some (.int .i64 d) := cell_call (cbx (w1.alloc (.cells #[.int .i64 a, .int .i64 b] 23)) #[.int .i64 c, .int .i64 d] 23 (w1.heap.size + 1) 1 (.int .i64 d) (by simp) rfl) hb
  replace hB := belT (belA (belA hB _) _) hb
  clear hb
  have zk1 : w1.heap.size < w2.heap.size := World.block_lt_of_cell? w2 _ k1
  have zk3 : w1.heap.size + 1 < w2.heap.size := World.block_lt_of_cell? w2 _ k3
  clear HA HB hL hU hM hV
  go_wp2
  go_ret
  exact ⟨ret_int GO.out.symm, belA (belA hB _) _⟩

theorem rgap_any (ao bo : Option Addr) (ca cb : Nat) (la lb : List (Int × Int)) (w : World) (ha : la.length ≤ 1000000) (hb' : lb.length ≤ 1000000) (ra : PRow w ao la) (rb : PRow w bo lb) (ia : AllR la) (ib : AllR lb) :
    Calls Try.prog 26 #[.slice ao la.length ca, .slice bo lb.length cb] w fun e w' => e = .returned (.int .i64 (boxD la lb)) ∧ Below w.heap.size w w' := by
  by_cases h : la.length = 0 ∨ lb.length = 0
  · exact rgap_zero ao bo ca cb la lb w ha hb' h
  · have := rgap_some ao bo ca cb la lb w ha hb' (by omega) (by omega) ra rb _ _ _ _ _ _ _ _ (low_inr la ia).1 (low_inr la ia).2 (upp_inr la ia).1 (upp_inr la ia).2 (low_inr lb ib).1 (low_inr lb ib).2 (upp_inr lb ib).1 (upp_inr lb ib).2 (Lib.hid rfl) (Lib.hid rfl) (Lib.hid rfl) (Lib.hid rfl)
    exact this.mono fun e w' ⟨he, hb⟩ => ⟨he.trans (ret_int (by unfold boxD; rw [if_neg h])), hb⟩
end Go.Proofs.Ytbkbdejmnhpdeaa
