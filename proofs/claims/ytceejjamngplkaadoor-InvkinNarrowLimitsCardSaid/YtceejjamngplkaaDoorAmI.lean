/- Contracts of package arm: the closure of walk. -/
import Derived.Test.YtceejjamngplkaaDoorAmN
import Derived.Test.YtceejjamngplkaaDoorAmC
namespace Go.Proofs.YtceejjamngplkaaDoor
open Go.ChangeShapes Go.WideShapes Go.ChangeAt Go.RowKit
set_option linter.unusedVariables false
set_option linter.unusedSimpArgs false
set_option maxRecDepth 100000

/-- Only block b may have changed. -/
structure BelX (b : Nat) (w w' : World) : Prop where
  os : w'.os = w.os
  tape : w'.tape = w.tape
  output : w'.output = w.output
  size : w.heap.size ≤ w'.heap.size
  block : ∀ k, k < w.heap.size → k ≠ b → w'.heap[k]? = w.heap[k]?
theorem BelX.bel {b n : Nat} {w w' : World} (h : BelX b w w') (hn : n ≤ b) (hs : n ≤ w.heap.size) : Below n w w' :=
  ⟨h.os, h.tape, h.output, h.size, fun k hk => h.block k (by omega) (by omega)⟩
theorem BelX.of {b : Nat} {w w' : World} (h : Below w.heap.size w w') : BelX b w w' := ⟨h.os, h.tape, h.output, h.size, fun k hk _ => h.block k hk⟩
theorem BelX.set {b j : Nat} {w w' : World} (h : BelX b w w') (v : Value) : BelX b w (w'.setCell ⟨b, j, none⟩ v) := by
  have e := Below.setCell (B := b) (Below.refl b w') (p := ⟨b, j, none⟩) (Nat.le_refl b) v
  refine ⟨e.os.trans h.os, e.tape.trans h.tape, e.output.trans h.output, Nat.le_trans h.size e.size, fun k hk hne => ?_⟩
  rw [← h.block k hk hne]
  have hk' : k < w'.heap.size := Nat.lt_of_lt_of_le hk h.size
  obtain ⟨o, ho⟩ : ∃ o, w'.heap[k]? = some o := ⟨w'.heap[k], Array.getElem?_eq_getElem hk'⟩
  rw [ho]
  exact blk_other ho (fun h => hne h.symm) v
theorem BelX.setN {b c j : Nat} {w w' : World} (h : BelX b w w') (hc : w.heap.size ≤ c) (v : Value) : BelX b w (w'.setCell ⟨c, j, none⟩ v) := by
  have e := Below.setCell (B := c) (Below.refl c w') (p := ⟨c, j, none⟩) (Nat.le_refl c) v
  refine ⟨e.os.trans h.os, e.tape.trans h.tape, e.output.trans h.output, Nat.le_trans h.size e.size, fun k hk hne => ?_⟩
  rw [← h.block k hk hne]
  exact e.block k (by omega)
theorem undrew {n : Nat} {w w' : World} (h : Below n w.drew w') : Below n w w' := (Below.drew (Below.refl n w)).trans h
theorem belx_blk {b k : Nat} {w w' : World} {o : Obj} (h : w.heap[k]? = some o) (hne : k ≠ b) (g : BelX b w w') : w'.heap[k]? = some o := (g.block k (blk_lt h) hne).trans h
theorem add_in (a b c d : Int) (w : World) (h1 : -9223372036854775808 ≤ a + c ∧ a + c ≤ 9223372036854775807) (h2 : -9223372036854775808 ≤ b + d ∧ b + d ≤ 9223372036854775807) :
    Calls Tryd.prog 53 #[.agg #[.int .i64 a, .int .i64 b], .agg #[.int .i64 c, .int .i64 d]] w fun e w' => e = .returned (.agg #[.int .i64 (a + c), .int .i64 (b + d)]) ∧ Below w.heap.size w w' := by
  go_enter Tryd.func53, Tryd.ntmps53
  go_wp2
  go_returns
  exact ⟨rfl, by go_grown⟩
theorem gadd_is (a b c d u v : Int) (w : World) (hu : Hid (a + c = u)) (hv : Hid (b + d = v)) (h1 : -1000000000000 ≤ u ∧ u ≤ 1000000000000) (h2 : -1000000000000 ≤ v ∧ v ≤ 1000000000000) :
    Calls Tryd.prog 53 #[.agg #[.int .i64 a, .int .i64 b], .agg #[.int .i64 c, .int .i64 d]] w fun e w' => e = .returned (.agg #[.int .i64 u, .int .i64 v]) ∧ Below w.heap.size w w' := by
  have := add_in a b c d w (by rw [hu.out]; omega) (by rw [hv.out]; omega)
  rwa [hu.out, hv.out] at this
theorem sub_is7 (a b c d u v : Int) (w : World) (hu : Hid (a - c = u)) (hv : Hid (b - d = v)) (h1 : -1000000000000 ≤ u ∧ u ≤ 1000000000000) (h2 : -1000000000000 ≤ v ∧ v ≤ 1000000000000) :
    Calls Tryd.prog 34 #[.agg #[.int .i64 a, .int .i64 b], .agg #[.int .i64 c, .int .i64 d]] w fun e w' => e = .returned (.agg #[.int .i64 u, .int .i64 v]) ∧ Below w.heap.size w w' := by
  have := sub_in a b c d w (by rw [hu.out]; omega) (by rw [hv.out]; omega)
  rwa [hu.out, hv.out] at this
theorem offset_is (x y N n U V : Int) (w : World) (hd : vdB x y N = true) (hn : -200 ≤ n ∧ n ≤ 200) (hU : Hid (n * 16 * p65 (3 - N) * x = U)) (hV : Hid (n * 16 * p65 (3 - N) * y = V)) :
    Calls Tryd.prog 35 #[.agg #[.int .i64 x, .int .i64 y, .int .i64 N], .int .i64 n] w fun e w' => e = .returned (.agg #[.int .i64 U, .int .i64 V]) ∧ Below w.heap.size w w' := by
  have := offset_ok x y N n w hd hn
  rwa [hU.out, hV.out] at this
theorem walk_is (x y : Int) (w : World) :
    Calls Tryd.prog 43 #[.agg #[.int .i64 x, .int .i64 y]] w fun e w' => e = .returned (.func (.func 52) #[] #[.pointer (some ⟨w.heap.size, 0, none⟩)]) ∧ w' = w.alloc (.cells #[.int .i64 x, .int .i64 y] 23) := by
  go_enter Tryd.func43, Tryd.ntmps43
  go_wp2
  go_ret
  exact ⟨rfl, rfl⟩
set_option maxHeartbeats 2000000 in
theorem fwd_is (x y N n p q U V u v : Int) (b : Nat) (w : World) (hd : Hid (vdB x y N = true)) (hn : -200 ≤ n ∧ n ≤ 200) (hU : Hid (n * 16 * p65 (3 - N) * x = U)) (hV : Hid (n * 16 * p65 (3 - N) * y = V)) (hu : Hid (p + U = u)) (hv : Hid (q + V = v)) (h1 : -1000000000000 ≤ u ∧ u ≤ 1000000000000) (h2 : -1000000000000 ≤ v ∧ v ≤ 1000000000000)
    (HB : Hid (w.heap[b]? = some (.cells #[.int .i64 p, .int .i64 q] 23 (0, 0)))) :
    Calls Tryd.prog 52 #[.agg #[.int .i64 x, .int .i64 y, .int .i64 N], .int .i64 n, .pointer (some ⟨b, 0, none⟩)] w fun e w' => e = .returned (.agg #[.int .i64 u, .int .i64 v]) ∧ BelX b w w' ∧ w'.heap[b]? = some (.cells #[.int .i64 u, .int .i64 v] 23 (0, 0)) := by
  have hbl := blk_lt HB.out
  go_enter Tryd.func52, Tryd.ntmps52
  go_upto_region 1 with fail
  obtain ⟨W0, hW⟩ : ∃ z, ((w.alloc (.cells #[.int .i64 x, .int .i64 y, .int .i64 N] 29)).alloc (.cells #[.int .i64 0, .int .i64 0] 23)) = z := ⟨_, rfl⟩
  have HR : Hid (W0.heap[w.heap.size + 1]? = some (.cells #[.int .i64 0, .int .i64 0] 23 (0, 0))) := Lib.hid (by rw [← hW]; exact blk_new _ _ _ (by simp))
  have HDx : Hid (W0.heap[w.heap.size]? = some (.cells #[.int .i64 x, .int .i64 y, .int .i64 N] 29 (0, 0))) := Lib.hid (by rw [← hW]; exact blk_alloc (blk_new _ _ _ rfl) _)
  replace HB : Hid (W0.heap[b]? = some (.cells #[.int .i64 p, .int .i64 q] 23 (0, 0))) := Lib.hid (by rw [← hW]; exact blk_alloc (blk_alloc HB.out _) _)
  have B : Hid (Below w.heap.size w W0) := Lib.hid (by rw [← hW]; go_grown)
  rw [hW]
  clear hW
  generalize hr : w.heap.size + 1 = r at *
  have NE := Lib.hid (show b ≠ r ∧ r ≠ b ∧ w.heap.size ≤ r by omega)
  have m1 : b ≠ r := NE.out.1
  have m2 : r ≠ b := NE.out.2.1
  clear hr hbl
  have b0 := blk_cell HB.out 0 _ rfl
  have b1 := blk_cell HB.out 1 _ rfl
  have d0 := blk_cell HDx.out 0 _ rfl
  have d1 := blk_cell HDx.out 1 _ rfl
  have d2 := blk_cell HDx.out 2 _ rfl
  go_region_with (first
    | (go_at_call 35; refine (offset_is x y N n U V _ hd.out hn hU hV).mono ?_; rintro e w1 ⟨rfl, hb1⟩; have hc1 : Below W0.heap.size W0 w1 := (by first | exact hb1 | exact undrew hb1); have H1 := Lib.hid (blk_call HB.out hc1); have R1 := Lib.hid (blk_call HR.out hc1); have B1 := Lib.hid (belT B.out hc1); have g0 := blk_cell H1.out 0 _ rfl; have g1 := blk_cell H1.out 1 _ rfl; clear hb1 hc1)
    | (go_at_call 53; refine (gadd_is p q U V u v _ hu hv h1 h2).mono ?_; rintro e w2 ⟨rfl, hb2⟩; have hc2 : Below w1.heap.size w1 w2 := (by first | exact hb2 | exact undrew hb2); have H2 := Lib.hid (blk_call H1.out hc2); have R2 := Lib.hid (blk_call R1.out hc2); have B2 := Lib.hid (belT B1.out hc2); have k0 := blk_cell H2.out 0 _ rfl; have k1 := blk_cell H2.out 1 _ rfl; have k2 := blk_fz H2.out 0; have k3 := blk_fz H2.out 1; have s0 := blk_cell R2.out 0 _ rfl; have s1 := blk_cell R2.out 1 _ rfl; have s2 := blk_fz R2.out 0; have s3 := blk_fz R2.out 1; clear hb2 hc2))
  all_goals
    clear b0 b1 d0 d1 d2
    go_wp2_with fail
    have X2 := Lib.hid (((((BelX.of (b := b) B2.out).set (j := 0) (.int .i64 u)).set (j := 1) (.int .i64 v)).setN (j := 0) NE.out.2.2 (.int .i64 u)).setN (j := 1) NE.out.2.2 (.int .i64 v))
    have Y2 := Lib.hid (blk_other (j := 1) (blk_other (j := 0) (blk_set (j := 1) (blk_set (j := 0) H2.out (.int .i64 u)) (.int .i64 v)) m2 (.int .i64 u)) m2 (.int .i64 v))
    have Z2 := Lib.hid (blk_set (j := 1) (blk_set (j := 0) (blk_other (j := 1) (blk_other (j := 0) R2.out m1 (.int .i64 u)) m1 (.int .i64 v)) (.int .i64 u)) (.int .i64 v))
    generalize hW : ((((w2.setCell ⟨b, 0, none⟩ (.int .i64 u)).setCell ⟨b, 1, none⟩ (.int .i64 v)).setCell ⟨r, 0, none⟩ (.int .i64 u)).setCell ⟨r, 1, none⟩ (.int .i64 v)) = W4 at *
    have r0 := blk_cell Z2.out 0 _ rfl
    have r1 := blk_cell Z2.out 1 _ rfl
    refine bodyPost_ret (v := .agg #[.int .i64 u, .int .i64 v]) (by simp [results, Tryd.results52, go_sem, r0, r1]) rfl ?_
    exact ⟨rfl, X2.out, Y2.out⟩
end Go.Proofs.YtceejjamngplkaaDoor
