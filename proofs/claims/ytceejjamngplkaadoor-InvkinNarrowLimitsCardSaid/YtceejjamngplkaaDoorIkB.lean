/- Contracts of package invkin: values and its iterator. Conditions: the limits are joint values. -/
import Derived.Test.YtceejjamngplkaaDoorIkA
import Derived.Test.YtceejjamngplkaaDoorAmJ
import Derived.RangeFuncNested
namespace Go.Proofs.YtceejjamngplkaaDoor
open Go.ChangeShapes Go.WideShapes Go.ChangeAt Go.RowKit
attribute [local go_sem] Oper.semAt_some
set_option linter.unusedVariables false
set_option linter.unusedSimpArgs false
set_option maxRecDepth 100000
/-- What values returns: a closure over two blocks of its own that hold the limits. -/
def ValsOf (n : Nat) (l h : Int) (e : Ending) (w : World) : Prop :=
  ∃ b1 b2, e = .returned (.func (.func 49) #[] #[.pointer (some ⟨b1, 0, none⟩), .pointer (some ⟨b2, 0, none⟩)]) ∧ n ≤ b1 ∧ n ≤ b2 ∧ w.heap[b1]? = some (.cells #[.int .i64 l] 3 (0, 0)) ∧ w.heap[b2]? = some (.cells #[.int .i64 h] 3 (0, 0))

set_option maxHeartbeats 4000000 in
theorem values0_is (X Y n0 n1 n2 W l0 l1 l2 h0 h1 h2 : Int) (w : World) (hl : -17 ≤ l0 ∧ l0 ≤ 18) (hh : -17 ≤ h0 ∧ h0 ≤ 18) :
    Calls Tryd.prog 36 #[.agg #[.int .i64 X, .int .i64 Y, .int .i64 n0, .int .i64 n1, .int .i64 n2, .int .i64 W, .int .i64 l0, .int .i64 l1, .int .i64 l2, .int .i64 h0, .int .i64 h1, .int .i64 h2], .int .i64 0] w fun e w' => ValsOf w.heap.size l0 h0 e w' ∧ Below w.heap.size w w' := by
  have M1 : ∀ w : World, (Builtin.max_ #[3, 3] 3 #[.int .i64 l0, .int .i64 (-17)]).run Tryd.prog w = .ok (.int .i64 l0) w := fun w => by rw [run_max2, show mxI l0 (-17) = l0 by unfold mxI; split <;> omega]
  have M2 : ∀ w : World, (Builtin.min_ #[3, 3] 3 #[.int .i64 h0, .int .i64 18]).run Tryd.prog w = .ok (.int .i64 h0) w := fun w => by rw [run_min2, show mnI h0 18 = h0 by unfold mnI; split <;> omega]
  clear hl hh
  go_enter Tryd.func36, Tryd.ntmps36
  go_upto_region 1 with fail
  obtain ⟨W0, hW0⟩ : ∃ x, w.alloc (.cells #[.int .i64 X, .int .i64 Y, .int .i64 n0, .int .i64 n1, .int .i64 n2, .int .i64 W, .int .i64 l0, .int .i64 l1, .int .i64 l2, .int .i64 h0, .int .i64 h1, .int .i64 h2] 27) = x := ⟨_, rfl⟩
  have B : Hid (Below w.heap.size w W0) := Lib.hid (by rw [← hW0]; go_grown)
  have HA : Hid (W0.heap[w.heap.size]? = some (.cells #[.int .i64 X, .int .i64 Y, .int .i64 n0, .int .i64 n1, .int .i64 n2, .int .i64 W, .int .i64 l0, .int .i64 l1, .int .i64 l2, .int .i64 h0, .int .i64 h1, .int .i64 h2] 27 (0, 0))) := Lib.hid (by rw [← hW0]; exact blk_new _ _ _ rfl)
  have SZ : w.heap.size < W0.heap.size := by rw [← hW0]; simp
  rw [hW0]
  clear hW0
  have c1 := blk_cell HA.out 6 _ rfl
  have c2 := blk_cell HA.out 9 _ rfl
  go_region
  all_goals
    go_wp2
    go_ret
    refine ⟨⟨_, _, rfl, ?_, ?_, ?_, ?_⟩, ?_⟩
    · omega
    · omega
    · first | exact blk_alloc (blk_new _ _ _ rfl) _ | exact blk_new _ _ _ (by simp)
    · first | exact blk_alloc (blk_new _ _ _ rfl) _ | exact blk_new _ _ _ (by simp)
    · exact (belA (belA B.out _) _).drew

set_option maxHeartbeats 4000000 in
theorem values1_is (X Y n0 n1 n2 W l0 l1 l2 h0 h1 h2 : Int) (w : World) (hl : -17 ≤ l1 ∧ l1 ≤ 18) (hh : -17 ≤ h1 ∧ h1 ≤ 18) :
    Calls Tryd.prog 36 #[.agg #[.int .i64 X, .int .i64 Y, .int .i64 n0, .int .i64 n1, .int .i64 n2, .int .i64 W, .int .i64 l0, .int .i64 l1, .int .i64 l2, .int .i64 h0, .int .i64 h1, .int .i64 h2], .int .i64 1] w fun e w' => ValsOf w.heap.size l1 h1 e w' ∧ Below w.heap.size w w' := by
  have M1 : ∀ w : World, (Builtin.max_ #[3, 3] 3 #[.int .i64 l1, .int .i64 (-17)]).run Tryd.prog w = .ok (.int .i64 l1) w := fun w => by rw [run_max2, show mxI l1 (-17) = l1 by unfold mxI; split <;> omega]
  have M2 : ∀ w : World, (Builtin.min_ #[3, 3] 3 #[.int .i64 h1, .int .i64 18]).run Tryd.prog w = .ok (.int .i64 h1) w := fun w => by rw [run_min2, show mnI h1 18 = h1 by unfold mnI; split <;> omega]
  clear hl hh
  go_enter Tryd.func36, Tryd.ntmps36
  go_upto_region 1 with fail
  obtain ⟨W0, hW0⟩ : ∃ x, w.alloc (.cells #[.int .i64 X, .int .i64 Y, .int .i64 n0, .int .i64 n1, .int .i64 n2, .int .i64 W, .int .i64 l0, .int .i64 l1, .int .i64 l2, .int .i64 h0, .int .i64 h1, .int .i64 h2] 27) = x := ⟨_, rfl⟩
  have B : Hid (Below w.heap.size w W0) := Lib.hid (by rw [← hW0]; go_grown)
  have HA : Hid (W0.heap[w.heap.size]? = some (.cells #[.int .i64 X, .int .i64 Y, .int .i64 n0, .int .i64 n1, .int .i64 n2, .int .i64 W, .int .i64 l0, .int .i64 l1, .int .i64 l2, .int .i64 h0, .int .i64 h1, .int .i64 h2] 27 (0, 0))) := Lib.hid (by rw [← hW0]; exact blk_new _ _ _ rfl)
  have SZ : w.heap.size < W0.heap.size := by rw [← hW0]; simp
  rw [hW0]
  clear hW0
  have c1 := blk_cell HA.out 7 _ rfl
  have c2 := blk_cell HA.out 10 _ rfl
  go_region
  all_goals
    go_wp2
    go_ret
    refine ⟨⟨_, _, rfl, ?_, ?_, ?_, ?_⟩, ?_⟩
    · omega
    · omega
    · first | exact blk_alloc (blk_new _ _ _ rfl) _ | exact blk_new _ _ _ (by simp)
    · first | exact blk_alloc (blk_new _ _ _ rfl) _ | exact blk_new _ _ _ (by simp)
    · exact (belA (belA B.out _) _).drew

set_option maxHeartbeats 4000000 in
theorem values2_is (X Y n0 n1 n2 W l0 l1 l2 h0 h1 h2 : Int) (w : World) (hl : -17 ≤ l2 ∧ l2 ≤ 18) (hh : -17 ≤ h2 ∧ h2 ≤ 18) :
    Calls Tryd.prog 36 #[.agg #[.int .i64 X, .int .i64 Y, .int .i64 n0, .int .i64 n1, .int .i64 n2, .int .i64 W, .int .i64 l0, .int .i64 l1, .int .i64 l2, .int .i64 h0, .int .i64 h1, .int .i64 h2], .int .i64 2] w fun e w' => ValsOf w.heap.size l2 h2 e w' ∧ Below w.heap.size w w' := by
  have M1 : ∀ w : World, (Builtin.max_ #[3, 3] 3 #[.int .i64 l2, .int .i64 (-17)]).run Tryd.prog w = .ok (.int .i64 l2) w := fun w => by rw [run_max2, show mxI l2 (-17) = l2 by unfold mxI; split <;> omega]
  have M2 : ∀ w : World, (Builtin.min_ #[3, 3] 3 #[.int .i64 h2, .int .i64 18]).run Tryd.prog w = .ok (.int .i64 h2) w := fun w => by rw [run_min2, show mnI h2 18 = h2 by unfold mnI; split <;> omega]
  clear hl hh
  go_enter Tryd.func36, Tryd.ntmps36
  go_upto_region 1 with fail
  obtain ⟨W0, hW0⟩ : ∃ x, w.alloc (.cells #[.int .i64 X, .int .i64 Y, .int .i64 n0, .int .i64 n1, .int .i64 n2, .int .i64 W, .int .i64 l0, .int .i64 l1, .int .i64 l2, .int .i64 h0, .int .i64 h1, .int .i64 h2] 27) = x := ⟨_, rfl⟩
  have B : Hid (Below w.heap.size w W0) := Lib.hid (by rw [← hW0]; go_grown)
  have HA : Hid (W0.heap[w.heap.size]? = some (.cells #[.int .i64 X, .int .i64 Y, .int .i64 n0, .int .i64 n1, .int .i64 n2, .int .i64 W, .int .i64 l0, .int .i64 l1, .int .i64 l2, .int .i64 h0, .int .i64 h1, .int .i64 h2] 27 (0, 0))) := Lib.hid (by rw [← hW0]; exact blk_new _ _ _ rfl)
  have SZ : w.heap.size < W0.heap.size := by rw [← hW0]; simp
  rw [hW0]
  clear hW0
  have c1 := blk_cell HA.out 8 _ rfl
  have c2 := blk_cell HA.out 11 _ rfl
  go_region
  all_goals
    go_wp2
    go_ret
    refine ⟨⟨_, _, rfl, ?_, ?_, ?_, ?_⟩, ?_⟩
    · omega
    · omega
    · first | exact blk_alloc (blk_new _ _ _ rfl) _ | exact blk_new _ _ _ (by simp)
    · first | exact blk_alloc (blk_new _ _ _ rfl) _ | exact blk_new _ _ _ (by simp)
    · exact (belA (belA B.out _) _).drew

def encB {l h : Int} (x : BtwI l h) : Array Value := #[.int .i64 x.1]
/-- What a round must keep: the iterator's two boxes. -/
def KpV (b1 b2 : Nat) (W W' : World) : Prop := W'.heap[b1]? = W.heap[b1]? ∧ W'.heap[b2]? = W.heap[b2]?
theorem kpV_t {b1 b2 : Nat} {A B C : World} (h : KpV b1 b2 A B) (k : KpV b1 b2 B C) : KpV b1 b2 A C := ⟨k.1.trans h.1, k.2.trans h.2⟩
theorem kpV_b {b1 b2 : Nat} {w : World} (h1 : b1 < w.heap.size) (h2 : b2 < w.heap.size) (W : World) (l : Nat) (o o' : Obj) (hl : w.heap.size ≤ l) (h : W.heap[l]? = some o) (hc : o.isCells = false) (hk : o.isWalk = false) : KpV b1 b2 W (W.putObj l o') :=
  ⟨World.putObj_heap_other (by omega), World.putObj_heap_other (by omega)⟩
theorem kpV_r {b1 b2 : Nat} (W : World) : KpV b1 b2 W W := ⟨rfl, rfl⟩
theorem kpV_of {b1 b2 : Nat} {W W' : World} (h : Below W.heap.size W W') (h1 : b1 < W.heap.size) (h2 : b2 < W.heap.size) : KpV b1 b2 W W' := ⟨h.block _ h1, h.block _ h2⟩
theorem kpV_set {b1 b2 g j : Nat} {W W' : World} (h : KpV b1 b2 W W') (h1 : g ≠ b1) (h2 : g ≠ b2) (v : Value) (k1 : b1 < W.heap.size) (k2 : b2 < W.heap.size) (hs : W.heap.size ≤ W'.heap.size) : KpV b1 b2 W (W'.setCell ⟨g, j, none⟩ v) := by
  refine ⟨?_, ?_⟩
  · rw [← h.1]
    obtain ⟨o, ho⟩ : ∃ o, W'.heap[b1]? = some o := ⟨W'.heap[b1], Array.getElem?_eq_getElem (by omega)⟩
    rw [ho]; exact blk_other ho h1 v
  · rw [← h.2]
    obtain ⟨o, ho⟩ : ∃ o, W'.heap[b2]? = some o := ⟨W'.heap[b2], Array.getElem?_eq_getElem (by omega)⟩
    rw [ho]; exact blk_other ho h2 v
set_option maxHeartbeats 4000000 in
theorem values1_in (n : Nat) (hn : 1 ≤ n) (l b1 b2 : Nat) (lo hi : Int) (hb : -17 ≤ lo ∧ lo ≤ hi ∧ hi ≤ 18) (J Jx : List (BtwI lo hi) → World → Prop)
    (hY : ∀ pre x W, J pre W → pre.length < (hi - lo + 1).toNat → YieldAt Fence.wide (n - 1) Tryd.prog l (encB x) W fun e W' =>
      (e = .returned (.bool true) ∧ J (pre ++ [x]) W' ∧ KpV b1 b2 W W') ∨ (e = .returned (.bool false) ∧ Jx (pre ++ [x]) W'))
    (W : World) (h1 : W.heap[b1]? = some (.cells #[.int .i64 lo] 3 (0, 0))) (h2 : W.heap[b2]? = some (.cells #[.int .i64 hi] 3 (0, 0))) (hJ0 : J [] W) :
    CallsIn Fence.wide n Tryd.prog 49 #[.func (.yield l) #[] #[], .pointer (some ⟨b1, 0, none⟩), .pointer (some ⟨b2, 0, none⟩)] W fun e W' => (∃ v, e = .returned v) ∧
      ((∃ ys, ys = upS lo hi (hi - lo + 1).toNat ∧ J ys W') ∨ (∃ pre, True ∧ Jx pre W')) := by
  have c1 := blk_cell h1 0 _ rfl
  have c2 := blk_cell h2 0 _ rfl
  refine callsIn_of_wp Tryd.func49 rfl trivial ?_ rfl
  simp only [Tryd.ntmps49, List.size_toArray, List.length_cons, List.length_nil, Nat.reduceAdd, Nat.reduceSub, Array.replicate_succ, Array.replicate_zero, List.push_toArray, List.append_toArray, List.nil_append, List.cons_append]
  gi_wp2
  gi_loopw [4] (fun i wr => ∃ (k : Nat) (v : Int), lo + (k : Int) ≤ hi + 1 ∧ v = lo + (k : Int) ∧ i = .int .i64 v ∧ J (upS lo hi k) wr ∧ wr.heap[b2]? = some (.cells #[.int .i64 hi] 3 (0, 0)))
    (fun i _ => (hi + 1 - intOf i).toNat)
  case atStart => exact ⟨0, lo, by omega, by simp, rfl, hJ0, h2⟩
  case round =>
    obtain ⟨k, v, hk, hv, rfl, hJs, hbs⟩ := hrel
    have cb := blk_cell hbs 0 _ rfl
    clear c1 c2 h1 h2
    by_cases hlt : v ≤ hi
    · have pv : lo ≤ v ∧ v ≤ hi := ⟨by omega, hlt⟩
      obtain ⟨fn, tmps, assign, body, hy, hR⟩ := hY (upS lo hi k) ⟨v, pv⟩ wr hJs (by rw [upS_length hk]; omega)
      unfold encB at hy
      dsimp only at hy
      have HV := Lib.hid hv
      clear hv
      have vb : -17 ≤ v ∧ v ≤ 18 := by have := HV.out; omega
      gi_wp2
      refine hR.mono ?_
      rintro e W3 (⟨rfl, hJ3, hk3⟩ | ⟨rfl, hJx3⟩)
      · gi_wp2
        go_roundw
        case rel => exact ⟨k + 1, v + 1, by have := HV.out; omega, by have := HV.out; omega, rfl, by rw [upS_succ (by have := HV.out; omega)]; simpa only [HV.out] using hJ3, hk3.2.trans hbs⟩
        case measure => simp [intOf]; omega
      · gi_wp2
        refine bodyPost_ret (results_none rfl _ _ _) rfl ?_
        exact ⟨⟨_, rfl⟩, .inr ⟨_, trivial, hJx3⟩⟩
    · gi_wp2
      go_end0
      exact ⟨⟨_, rfl⟩, .inl (by rw [show (hi - lo + 1).toNat = k by omega]; exact hJs)⟩
theorem values_stops (n : Nat) (hn : 1 ≤ n) (b1 b2 : Nat) (lo hi : Int) (hb : -17 ≤ lo ∧ lo ≤ hi ∧ hi ≤ 18) (w : World) (h1 : w.heap[b1]? = some (.cells #[.int .i64 lo] 3 (0, 0))) (h2 : w.heap[b2]? = some (.cells #[.int .i64 hi] 3 (0, 0))) :
    SeqStopsK Fence.wide n Tryd.prog 49 #[.pointer (some ⟨b1, 0, none⟩), .pointer (some ⟨b2, 0, none⟩)] (encB (l := lo) (h := hi)) (KpV b1 b2) (fun ys => ys = upS lo hi (hi - lo + 1).toNat) (fun _ => True) (hi - lo + 1).toNat w := fun l J Jx W hW hJ _ hY hj0 =>
  values1_in n hn l b1 b2 lo hi hb J Jx hY W (blk_call h1 hW) (blk_call h2 hW) hj0
end Go.Proofs.YtceejjamngplkaaDoor
