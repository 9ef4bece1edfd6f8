/- Contracts of turned, way and inside of the statements of layer 6. -/
import Derived.Test.YtnpadblfpaiofaaSwN
import Derived.Test.YtnpadblfpaiofaaHuD
namespace Go.Proofs.Ytnpadblfpaiofaa
open Go.ChangeShapes Go.WideShapes Go.ChangeAt Go.RowKit
set_option linter.unusedVariables false
set_option linter.unusedSimpArgs false

theorem prod_bd {a b A B : Int} (h1 : -A ≤ a ∧ a ≤ A) (h2 : -B ≤ b ∧ b ≤ B) : -(A * B) ≤ a * b ∧ a * b ≤ A * B := by
  have hA : 0 ≤ A := by omega
  have hB : 0 ≤ B := by omega
  have k : ∀ a b : Int, 0 ≤ a → 0 ≤ b → a ≤ A → b ≤ B → 0 ≤ a * b ∧ a * b ≤ A * B := fun a b x y z u => ⟨Int.mul_nonneg x y, Int.mul_le_mul z u y hA⟩
  rcases Int.le_total 0 a with x | x <;> rcases Int.le_total 0 b with y | y
  · have := k a b x y h1.2 h2.2; omega
  · have := k a (-b) x (by omega) h1.2 (by omega); rw [Int.mul_neg] at this; omega
  · have := k (-a) b (by omega) y (by omega) h2.2; rw [Int.neg_mul] at this; omega
  · have := k (-a) (-b) (by omega) (by omega) (by omega) (by omega); rw [Int.neg_mul_neg] at this; omega
set_option maxRecDepth 100000 in
set_option maxHeartbeats 4000000 in
theorem turned_is (px py c s u v : Int) (w : World) (h1 : -40 ≤ px ∧ px ≤ 40) (h2 : -40 ≤ py ∧ py ≤ 40) (h3 : -65 ≤ c ∧ c ≤ 65) (h4 : -65 ≤ s ∧ s ≤ 65) (hu : Hid (16 * (px * c - py * s) = u)) (hv : Hid (16 * (px * s + py * c) = v)) :
    Calls Try.prog 34 #[.agg #[.int .i64 px, .int .i64 py], .int .i64 c, .int .i64 s] w fun e w' => e = .returned (.agg #[.int .i64 u, .int .i64 v]) ∧ Below w.heap.size w w' := by
  have m1 := prod_bd h1 h3
  have m2 := prod_bd h2 h4
  have m3 := prod_bd h1 h4
  have m4 := prod_bd h2 h3
  have : IntKind.i64.wrap (px * c) = px * c := by rw [IntKind.wrap_i64]; omega
  have : IntKind.i64.wrap (py * s) = py * s := by rw [IntKind.wrap_i64]; omega
  have : IntKind.i64.wrap (px * s) = px * s := by rw [IntKind.wrap_i64]; omega
  have : IntKind.i64.wrap (py * c) = py * c := by rw [IntKind.wrap_i64]; omega
  have : IntKind.i64.wrap (px * c - py * s) = px * c - py * s := by rw [IntKind.wrap_i64]; omega
  have : IntKind.i64.wrap (px * s + py * c) = px * s + py * c := by rw [IntKind.wrap_i64]; omega
  have : IntKind.i64.wrap (16 * (px * c - py * s)) = u := by rw [← hu.out, IntKind.wrap_i64]; omega
  have : IntKind.i64.wrap (16 * (px * s + py * c)) = v := by rw [← hv.out, IntKind.wrap_i64]; omega
  clear m1 m2 m3 m4 h1 h2 h3 h4
  go_enter Try.func34, Try.ntmps34
  go_upto_region 1 with fail
  have hb4 := (belA (belA (Below.refl _ w) (.cells #[.int .i64 px, .int .i64 py] 35)) (.cells #[.int .i64 0, .int .i64 0] 35))
  have y1 := (blk_alloc (blk_new w (.cells #[.int .i64 px, .int .i64 py] 35) (w.heap.size) rfl) (.cells #[.int .i64 0, .int .i64 0] 35))
  have y2 := (blk_new (w.alloc (.cells #[.int .i64 px, .int .i64 py] 35)) (.cells #[.int .i64 0, .int .i64 0] 35) (w.heap.size + 1) (by simp))
  generalize ((w.alloc (.cells #[.int .i64 px, .int .i64 py] 35)).alloc (.cells #[.int .i64 0, .int .i64 0] 35)) = w4 at *
  have HB := Lib.hid hb4
  have x1 := blk_cell y1 0 _ rfl
  have x2 := blk_cell y1 1 _ rfl
  have x3 := blk_cell y2 0 _ rfl
  have x4 := blk_cell y2 1 _ rfl
  have f1 := blk_fz y2 0
  have f2 := blk_fz y2 1
  have Y := Lib.hid y2
  have hz := HB.out.size
  clear hb4 y1 y2
  go_wp2_with fail
  refine (at_is u v _).mono ?_
  rintro e w5 ⟨rfl, hb5⟩
  have Y5 := Lib.hid (blk_call Y.out hb5)
  have HB5 := Lib.hid (belT HB.out hb5)
  have g1 := blk_cell Y5.out 0 _ rfl
  have g2 := blk_cell Y5.out 1 _ rfl
  have g3 := blk_fz Y5.out 0
  have g4 := blk_fz Y5.out 1
  clear hb5
  go_wp2
  have z' := blk_set (j := 0) Y5.out (.int .i64 u)
  have z0 := blk_cell z' 0 _ rfl
  have z := blk_set (j := 1) z' (.int .i64 v)
  have z1 := blk_cell z 1 _ rfl
  have z2 := blk_cell z 0 _ rfl
  refine bodyPost_ret (v := .agg #[.int .i64 u, .int .i64 v]) (by simp [results, Try.results34, go_sem, z0, z1, z2]) rfl ⟨rfl, ?_⟩
  exact belS (p := ⟨w.heap.size + 1, 1, none⟩) (belS (p := ⟨w.heap.size + 1, 0, none⟩) HB5.out (show w.heap.size ≤ w.heap.size + 1 by omega) _) (show w.heap.size ≤ w.heap.size + 1 by omega) _

theorem tab_bd (q : Nat) (hq : q < 10) {x y : Int} (h : tabQ.getD q (0, 0) = (x, y)) : (-65 ≤ x ∧ x ≤ 65) ∧ (-65 ≤ y ∧ y ≤ 65) := by
  have hc : q = 0 ∨ q = 1 ∨ q = 2 ∨ q = 3 ∨ q = 4 ∨ q = 5 ∨ q = 6 ∨ q = 7 ∨ q = 8 ∨ q = 9 := by omega
  rcases hc with rfl | rfl | rfl | rfl | rfl | rfl | rfl | rfl | rfl | rfl <;> (cases h; decide)
set_option maxRecDepth 100000 in
set_option maxHeartbeats 4000000 in
theorem way_is (q : Nat) (n m x0 x1 y0 y1 : Int) (t : Bool) (w : World) (hq : q < 9) (hx : Hid (tabQ.getD q (0, 0) = (x0, x1))) (hy : Hid (tabQ.getD (q + 1) (0, 0) = (y0, y1))) (hn : -200 ≤ n ∧ n ≤ 200) (hm : -200 ≤ m ∧ m ≤ 200) (ht : Hid (decide (n * (4225 + (x0 * y0 + x1 * y1)) ≤ m * (x0 * y1 - x1 * y0)) = t)) :
    Calls Try.prog 35 #[.int .i64 (q : Int), .int .i64 n, .int .i64 m] w fun e w' => e = .returned (.bool t) ∧ Below w.heap.size w w' := by
  have IX := fun W => index_tab q x0 x1 (by omega) hx.out W
  have IY := fun W => index_tab (q + 1) y0 y1 (by omega) hy.out W
  rw [show ((q + 1 : Nat) : Int) = (q : Int) + 1 by omega] at IY
  have q1 : IntKind.i64.wrap ((q : Int) + 1) = (q : Int) + 1 := wrap_k _ (by omega)
  obtain ⟨bx0, bx1⟩ := tab_bd q (by omega) hx.out
  obtain ⟨by0, by1⟩ := tab_bd (q + 1) (by omega) hy.out
  have m1 := prod_bd bx0 by0
  have m2 := prod_bd bx1 by1
  have m3 := prod_bd bx0 by1
  have m4 := prod_bd bx1 by0
  have m5 := prod_bd (A := 200) (B := 20000) hn (show -20000 ≤ 4225 + (x0 * y0 + x1 * y1) ∧ 4225 + (x0 * y0 + x1 * y1) ≤ 20000 by omega)
  have m6 := prod_bd (A := 200) (B := 20000) hm (show -20000 ≤ x0 * y1 - x1 * y0 ∧ x0 * y1 - x1 * y0 ≤ 20000 by omega)
  have : IntKind.i64.wrap (x0 * y0) = x0 * y0 := by rw [IntKind.wrap_i64]; omega
  have : IntKind.i64.wrap (x1 * y1) = x1 * y1 := by rw [IntKind.wrap_i64]; omega
  have : IntKind.i64.wrap (x0 * y1) = x0 * y1 := by rw [IntKind.wrap_i64]; omega
  have : IntKind.i64.wrap (x1 * y0) = x1 * y0 := by rw [IntKind.wrap_i64]; omega
  have : IntKind.i64.wrap (x0 * y0 + x1 * y1) = x0 * y0 + x1 * y1 := by rw [IntKind.wrap_i64]; omega
  have : IntKind.i64.wrap (x0 * y1 - x1 * y0) = x0 * y1 - x1 * y0 := by rw [IntKind.wrap_i64]; omega
  have : IntKind.i64.wrap (4225 + (x0 * y0 + x1 * y1)) = 4225 + (x0 * y0 + x1 * y1) := by rw [IntKind.wrap_i64]; omega
  have : IntKind.i64.wrap (n * (4225 + (x0 * y0 + x1 * y1))) = n * (4225 + (x0 * y0 + x1 * y1)) := by rw [IntKind.wrap_i64]; omega
  have : IntKind.i64.wrap (m * (x0 * y1 - x1 * y0)) = m * (x0 * y1 - x1 * y0) := by rw [IntKind.wrap_i64]; omega
  clear m1 m2 m3 m4 m5 m6 bx0 bx1 by0 by1 hn hm
  go_enter Try.func35, Try.ntmps35
  go_wp2_with fail
  refine (quarter_is _).mono ?_
  rintro e w1 ⟨rfl, hb⟩
  have B1 := Lib.hid hb
  clear hb
  have hd1 := Lib.hid (belA B1.out (.cells #[.int .i64 x0, .int .i64 x1] 47))
  have hy1 := Lib.hid (blk_new w1 (.cells #[.int .i64 x0, .int .i64 x1] 47) _ rfl)
  go_wp2_with fail
  refine (quarter_is _).mono ?_
  rintro e w2 ⟨rfl, hb⟩
  have B2 := Lib.hid (belT hd1.out hb)
  have X2 := blk_call hy1.out hb
  have x2 := blk_cell X2 0 _ rfl
  have x3 := blk_cell X2 1 _ rfl
  have zz := blk_lt X2
  have hz1 := hb.size
  clear hb hd1 hy1 X2
  go_wp2
  go_ret
  exact ⟨by first | exact ret_bool ht.out | (rw [← ht.out]; rfl), belA B2.out _⟩

set_option maxRecDepth 100000 in
set_option maxHeartbeats 8000000 in
theorem inside_is (ao : Option Addr) (n cap : Nat) (l : List (Int × Int)) (o1 o2 p1 p2 d : Int) (w : World) (hn : l.length = n) (h0 : 0 < n) (hle : n ≤ 1000) (hP : PRow w ao l) (hV : ∀ i, i < n → (-200000 ≤ cx l i ∧ cx l i ≤ 200000) ∧ -200000 ≤ cy l i ∧ cy l i ≤ 200000) (ho1 : -200000 ≤ o1 ∧ o1 ≤ 200000) (ho2 : -200000 ≤ o2 ∧ o2 ≤ 200000) (hp1 : -10000000000 ≤ p1 ∧ p1 ≤ 10000000000) (hp2 : -10000000000 ≤ p2 ∧ p2 ≤ 10000000000) (hd : -20000 ≤ d ∧ d ≤ 20000)
    (hin : Hid (∀ i, i < n → 0 ≤ (cx l (nx n i) - cx l i) * (p2 + d * (o2 - cy l i)) - (cy l (nx n i) - cy l i) * (p1 + d * (o1 - cx l i)))) :
    Calls Try.prog 36 #[.slice ao n cap, .agg #[.int .i64 o1, .int .i64 o2], .agg #[.int .i64 p1, .int .i64 p2], .int .i64 d] w fun e w' => e = .returned (.bool true) ∧ Below w.heap.size w w' := by
  subst hn
  have HP := Lib.hid hP
  have HV := Lib.hid hV
  have K := Lib.hid (And.intro ho1 (And.intro ho2 (And.intro hp1 (And.intro hp2 hd))))
  have h0' : (0 : Int) < l.length := by omega
  have hl0 : (l.length : Int) ≠ 0 := by omega
  have hl1 : ¬ l = [] := fun e => by rw [e] at h0; simp at h0
  have hl2 : ¬ l.length = 0 := by omega
  clear hP hV ho1 ho2 hp1 hp2 hd
  go_enter Try.func36, Try.ntmps36
  go_wp2
  have hb0 := belA (belA (Below.refl _ w) (.cells #[.int .i64 o1, .int .i64 o2] 35)) (.cells #[.int .i64 p1, .int .i64 p2] 35)
  have X1 := blk_alloc (blk_new w (.cells #[.int .i64 o1, .int .i64 o2] 35) _ rfl) (.cells #[.int .i64 p1, .int .i64 p2] 35)
  have X2 := blk_new (w.alloc (.cells #[.int .i64 o1, .int .i64 o2] 35)) (.cells #[.int .i64 p1, .int .i64 p2] 35) (w.heap.size + 1) (by simp)
  have PA := Lib.hid (prow_below HP.out hb0)
  have B0 := Lib.hid hb0
  generalize (w.alloc (.cells #[.int .i64 o1, .int .i64 o2] 35)).alloc (.cells #[.int .i64 p1, .int .i64 p2] 35) = w1 at *
  generalize hzx : w.heap.size = zx at *
  have HX1 := Lib.hid X1
  have HX2 := Lib.hid X2
  clear hb0 X1 X2 HP
  go_loopw [9] (fun i wr => ∃ k : Nat, k ≤ l.length ∧ i = .int .i64 k ∧ Below w1.heap.size w1 wr) (fun i _ => l.length - (intOf i).toNat)
  case atStart => exact ⟨0, Nat.zero_le _, rfl, Below.refl _ _⟩
  case round =>
    obtain ⟨k, hk, rfl, hB⟩ := hrel
    have HB := Lib.hid hB
    clear hB
    by_cases hlt : k < l.length
    · have hki : (k : Int) < l.length := by omega
      have hIN := hin.out k hlt
      obtain ⟨j, hj⟩ : ∃ j, nx l.length k = j := ⟨_, rfl⟩
      rw [hj] at hIN
      have hjl : j < l.length := by rw [← hj]; exact nx_lt h0
      have hji : (j : Int) < l.length := by omega
      have hk1 : (0 : Int) ≤ (k : Int) + 1 := by omega
      have ht2 : ((k : Int) + 1).tmod (l.length : Int) = (j : Int) := by rw [← hj, Int.tmod_eq_emod_of_nonneg (by omega)]; unfold nx; simp
      have hw3 : IntKind.i64.wrap ((k : Int) + 1) = (k : Int) + 1 := wrap_k _ (by omega)
      have hw5 : IntKind.i64.wrap (j : Int) = (j : Int) := wrap_k _ (by omega)
      obtain ⟨b, o, rfl, c1, c2⟩ := prow_at (prow_below PA.out HB.out) hlt
      obtain ⟨b', o', ho', c3, c4⟩ := prow_at (prow_below PA.out HB.out) hjl
      obtain ⟨rfl, rfl⟩ : b = b' ∧ o = o' := by simpa using ho'
      clear ho'
      obtain ⟨va1, va2⟩ := HV.out k hlt
      obtain ⟨vb1, vb2⟩ := HV.out j hjl
      obtain ⟨ko1, ko2, kp1, kp2, kd⟩ := K.out
      have zb : b < wr.heap.size := World.block_lt_of_cell? wr _ c1
      have Z1 := blk_call HX1.out HB.out
      have Z2 := blk_call HX2.out HB.out
      have zA := blk_lt Z1
      have zB := blk_lt Z2
      have a0 := blk_cell Z1 0 _ rfl
      have a1 := blk_cell Z1 1 _ rfl
      have a2 := blk_cell Z2 0 _ rfl
      have a3 := blk_cell Z2 1 _ rfl
      clear hj Z1 Z2
      generalize cx l k = ax at *
      generalize cy l k = ay at *
      generalize cx l j = bx at *
      generalize cy l j = by' at *
      have m1 := prod_bd (A := 20000) (B := 400000) kd (show -400000 ≤ o1 - ax ∧ o1 - ax ≤ 400000 by omega)
      have m2 := prod_bd (A := 20000) (B := 400000) kd (show -400000 ≤ o2 - ay ∧ o2 - ay ≤ 400000 by omega)
      have m3 := prod_bd (A := 400000) (B := 20000000000) (show -400000 ≤ bx - ax ∧ bx - ax ≤ 400000 by omega) (show -20000000000 ≤ p2 + d * (o2 - ay) ∧ p2 + d * (o2 - ay) ≤ 20000000000 by omega)
      have m4 := prod_bd (A := 400000) (B := 20000000000) (show -400000 ≤ by' - ay ∧ by' - ay ≤ 400000 by omega) (show -20000000000 ≤ p1 + d * (o1 - ax) ∧ p1 + d * (o1 - ax) ≤ 20000000000 by omega)
      have : IntKind.i64.wrap (o1 - ax) = o1 - ax := by rw [IntKind.wrap_i64]; omega
      have : IntKind.i64.wrap (o2 - ay) = o2 - ay := by rw [IntKind.wrap_i64]; omega
      have : IntKind.i64.wrap (d * (o1 - ax)) = d * (o1 - ax) := by rw [IntKind.wrap_i64]; omega
      have : IntKind.i64.wrap (d * (o2 - ay)) = d * (o2 - ay) := by rw [IntKind.wrap_i64]; omega
      have : IntKind.i64.wrap (p1 + d * (o1 - ax)) = p1 + d * (o1 - ax) := by rw [IntKind.wrap_i64]; omega
      have : IntKind.i64.wrap (p2 + d * (o2 - ay)) = p2 + d * (o2 - ay) := by rw [IntKind.wrap_i64]; omega
      have : IntKind.i64.wrap (bx - ax) = bx - ax := by rw [IntKind.wrap_i64]; omega
      have : IntKind.i64.wrap (by' - ay) = by' - ay := by rw [IntKind.wrap_i64]; omega
      have : IntKind.i64.wrap ((bx - ax) * (p2 + d * (o2 - ay))) = (bx - ax) * (p2 + d * (o2 - ay)) := by rw [IntKind.wrap_i64]; omega
      have : IntKind.i64.wrap ((by' - ay) * (p1 + d * (o1 - ax))) = (by' - ay) * (p1 + d * (o1 - ax)) := by rw [IntKind.wrap_i64]; omega
      have : IntKind.i64.wrap ((bx - ax) * (p2 + d * (o2 - ay)) - (by' - ay) * (p1 + d * (o1 - ax))) = (bx - ax) * (p2 + d * (o2 - ay)) - (by' - ay) * (p1 + d * (o1 - ax)) := by rw [IntKind.wrap_i64]; omega
      have hlt0 : ¬ (bx - ax) * (p2 + d * (o2 - ay)) - (by' - ay) * (p1 + d * (o1 - ax)) < 0 := by omega
      clear m1 m2 m3 m4 va1 va2 vb1 vb2 ko1 ko2 kp1 kp2 kd hIN
      go_wp2
      go_roundw
      case rel => exact ⟨k + 1, by omega, by go_num, belA (belA HB.out _) _⟩
      case measure => simp [intOf]; omega
    · have hki : ¬ (k : Int) < l.length := by omega
      have HB2 := Lib.hid (B0.out.trans (HB.out.mono (by have := B0.out.size; omega)))
      go_wp2
      go_ret
      exact ⟨rfl, HB2.out⟩
end Go.Proofs.Ytnpadblfpaiofaa
