/- Helpers: what the law reaches. -/
import Derived.Test.YtalhkcmlacppjaaGreatDoorZlHp
import Derived.Test.YtalhkcmlacppjaaGreatDoorZlIuB
namespace Go.Proofs.YtalhkcmlacppjaaGreatDoor
open Go.ChangeShapes Go.WideShapes Go.ChangeAt Go.RowKit
set_option linter.unusedVariables false
set_option linter.unusedSimpArgs false

theorem edgeAt_is (ao : Option Addr) (n cap i : Nat) (I : Int) (ps : List (Int × Int)) (w : World) (hI : I = (i : Int)) (hn : ps.length = n) (hi : i < n) (hle : n ≤ 1000000) (hP : PRow w ao ps) :
    Calls Tryz.prog 99 #[.slice ao n cap, .int .i64 I] w fun e w' => e = .returned (.agg #[.int .i64 (cx ps i), .int .i64 (cy ps i), .int .i64 (cx ps (nx n i)), .int .i64 (cy ps (nx n i))]) ∧ Below w.heap.size w w' := by
  subst hn hI
  obtain ⟨j, hj⟩ : ∃ j, nx ps.length i = j := ⟨_, rfl⟩
  have hjl : j < ps.length := by rw [← hj]; exact nx_lt' hi
  have h0 : (ps.length : Int) ≠ 0 := by omega
  have ht : ((i : Int) + 1).tmod (ps.length : Int) = (j : Int) := by
    rw [← hj, Int.tmod_eq_emod_of_nonneg (by omega)]; unfold nx; simp
  rw [hj]
  obtain ⟨b, o, rfl, c1, c2⟩ := prow_at hP hi
  obtain ⟨b', o', e, c3, c4⟩ := prow_at hP hjl
  obtain ⟨rfl, rfl⟩ : b = b' ∧ o = o' := by simpa using e
  clear e
  have hii : (i : Int) < ps.length := by omega
  have hjj : (j : Int) < ps.length := by omega
  generalize cx ps i = a at *
  generalize cy ps i = c at *
  generalize cx ps j = p at *
  generalize cy ps j = q at *
  have hw : IntKind.i64.wrap ((i : Int) + 1) = (i : Int) + 1 := wrap_k _ (by omega)
  have d1 := cell_alloc c1 (.cells #[.int .i64 0, .int .i64 0, .int .i64 0, .int .i64 0] 104)
  have d2 := cell_alloc c2 (.cells #[.int .i64 0, .int .i64 0, .int .i64 0, .int .i64 0] 104)
  have d3 := cell_alloc c3 (.cells #[.int .i64 0, .int .i64 0, .int .i64 0, .int .i64 0] 104)
  have d4 := cell_alloc c4 (.cells #[.int .i64 0, .int .i64 0, .int .i64 0, .int .i64 0] 104)
  clear hj
  go_enter Tryz.func99, Tryz.ntmps99
  go_wp2
  go_region
  all_goals (try go_wp2)
  refine bodyPost_ret (v := .agg #[.int .i64 a, .int .i64 c, .int .i64 p, .int .i64 q]) (by simp [results, Tryz.results99, go_sem]) rfl ?_
  have hb := belA (Below.refl w.heap.size w) (.cells #[.int .i64 a, .int .i64 c, .int .i64 p, .int .i64 q] 104)
  exact ⟨rfl, ⟨hb.os, hb.tape, hb.output, hb.size, hb.block⟩⟩

theorem meets_is (a b c d p q r s : Int) (t : Bool) (w : World) (ht : Hid (segB a b c d p q r s = t)) (ia : InR a) (ib : InR b) (ic : InR c) (id : InR d) (ip : InR p) (iq : InR q) (ir : InR r) (is : InR s) :
    Calls Tryz.prog 80 #[.agg #[.int .i64 a, .int .i64 b, .int .i64 c, .int .i64 d], .agg #[.int .i64 p, .int .i64 q, .int .i64 r, .int .i64 s]] w fun e w' => e = .returned (.bool t) ∧ Below w.heap.size w w' := by
  go_enter Tryz.func80, Tryz.ntmps80
  go_wp2_with (go_at_call 73; refine (cross_is _ _ _ _ _ _ _ _ t _ ht ia ib ic id ip iq ir is).mono ?_; rintro e w1 ⟨rfl, hb⟩)
  go_ret
  exact ⟨rfl, (belA (belA (Below.refl _ _) _) _).trans (hb.mono (by simp; omega))⟩

theorem contains_is (ao : Option Addr) (n cap : Nat) (l : List (Int × Int)) (p q : Int) (t : Bool) (w : World) (hn : l.length = n) (ht : Hid (decide (0 ≤ locE l p q) = t)) (h0 : 0 < l.length) (h12 : l.length ≤ 12) (hP : PRow w ao l) (ha : AllR2 l) (hp : InR p) (hq : InR q) :
    Calls Tryz.prog 101 #[.slice ao n cap, .agg #[.int .i64 p, .int .i64 q]] w fun e w' => e = .returned (.bool t) ∧ Below w.heap.size w w' := by
  obtain ⟨v, hv⟩ : ∃ v, locE l p q = v := ⟨_, rfl⟩
  have hv' := Lib.hid hv
  have ht2 := ht.out
  rw [hv] at ht2
  clear ht hv
  go_enter Tryz.func101, Tryz.ntmps101
  go_wp2_with (go_at_call 14; refine (locate_at ao n cap l p q v _ hn hv' h0 h12 (prow_alloc hP _) ha hp hq).mono ?_; rintro e w1 ⟨rfl, hb⟩)
  go_ret
  exact ⟨rfl, (belA (Below.refl _ _) _).trans (hb.mono (by simp))⟩
end Go.Proofs.YtalhkcmlacppjaaGreatDoor

namespace Go.Proofs.YtalhkcmlacppjaaGreatDoor
open Go.ChangeShapes Go.WideShapes Go.ChangeAt Go.RowKit
set_option linter.unusedVariables false
set_option linter.unusedSimpArgs false

/-- The first number for which p holds, or -1. -/
def firstI (p : Nat → Bool) (n : Nat) : Int := match (List.range n).find? p with
  | some i => i
  | none => -1
theorem firstI_some {p : Nat → Bool} {n k : Nat} (hk : k < n) (h0 : ∀ j, j < k → p j = false) (h1 : p k = true) : firstI p n = k := by
  unfold firstI
  have : (List.range n).find? p = some k := by
    rw [List.find?_range_eq_some]
    exact ⟨h1, List.mem_range.2 hk, fun j hj => by rw [h0 j hj]; rfl⟩
  rw [this]
theorem firstI_none {p : Nat → Bool} {n : Nat} (h : ∀ j, j < n → p j = false) : firstI p n = -1 := by
  unfold firstI
  have : (List.range n).find? p = none := by
    rw [List.find?_eq_none]
    intro j hj
    rw [h j (List.mem_range.1 hj)]
    simp
  rw [this]
theorem firstI_cases (p : Nat → Bool) (n : Nat) : (firstI p n = -1 ∧ ∀ j, j < n → p j = false) ∨ ∃ k, k < n ∧ firstI p n = k ∧ p k = true ∧ ∀ j, j < k → p j = false := by
  unfold firstI
  cases h : (List.range n).find? p with
  | none => exact .inl ⟨rfl, fun j hj => by have := List.find?_eq_none.1 h j (List.mem_range.2 hj); simpa using this⟩
  | some k =>
    obtain ⟨h1, h2, h3⟩ := List.find?_range_eq_some.1 h
    exact .inr ⟨k, List.mem_range.1 h2, rfl, h1, fun j hj => by simpa using h3 j hj⟩

theorem corclo_is (B : Nat) (bo : Option Addr) (m cb : Nat) (l : List (Int × Int)) (p q : Int) (t : Bool) (w : World) (hm : l.length = m) (ht : Hid (decide (0 ≤ locE l p q) = t)) (h0 : 0 < l.length) (h12 : l.length ≤ 12) (hP : PRow w bo l) (ha : AllR2 l) (hp : InR p) (hq : InR q)
    (hB : w.heap[B]? = some (.cells #[.slice bo m cb] 30 (0, 0))) :
    Calls Tryz.prog 100 #[.agg #[.int .i64 p, .int .i64 q], .pointer (some ⟨B, 0, none⟩)] w fun e w' => e = .returned (.bool t) ∧ Below w.heap.size w w' := by
  have cb' := cell_alloc (blk_cell hB 0 _ rfl) (.cells #[.int .i64 p, .int .i64 q] 23)
  go_enter Tryz.func100, Tryz.ntmps100
  go_wp2_with (go_at_call 101; refine (contains_is bo m cb l p q t _ hm ht h0 h12 (prow_alloc hP _) ha hp hq).mono ?_; rintro e w1 ⟨rfl, hb⟩)
  go_ret
  exact ⟨rfl, (belA (Below.refl _ _) _).trans (hb.mono (by simp))⟩

theorem corindex_is (ao bo : Option Addr) (n cap m cb B : Nat) (a l : List (Int × Int)) (r : Int) (w : World) (hn : a.length = n) (hm : l.length = m) (hr : Hid (firstI (inC a l) n = r)) (hle : n ≤ 1000000) (hA : PRow w ao a) (va : AllR2 a) (h0 : 0 < l.length) (h12 : l.length ≤ 12) (hP : PRow w bo l) (ha : AllR2 l)
    (hB : w.heap[B]? = some (.cells #[.slice bo m cb] 30 (0, 0))) :
    Calls Tryz.prog 96 #[.slice ao n cap, .func (.func 100) #[] #[.pointer (some ⟨B, 0, none⟩)]] w fun e w' => e = .returned (.int .i64 r) ∧ Below w.heap.size w w' := by
  subst hn
  go_enter Tryz.func96, Tryz.ntmps96
  go_wp2
  go_loopw [8] (fun i wr => ∃ k : Nat, k ≤ a.length ∧ i = .int .i64 k ∧ Hid (∀ j, j < k → inC a l j = false) ∧ Below w.heap.size w wr) (fun i _ => a.length - (intOf i).toNat)
  case atStart => exact ⟨0, Nat.zero_le _, rfl, Lib.hid (fun j hj => by omega), Below.refl _ _⟩
  case round =>
    obtain ⟨k, hk, rfl, hno, hb0⟩ := hrel
    by_cases hlt : k < a.length
    · obtain ⟨b, o, rfl, c1, c2⟩ := prow_at hA hlt
      obtain ⟨t, ht⟩ : ∃ t, inC a l k = t := ⟨_, rfl⟩
      have HT : Hid (decide (0 ≤ locE l (cx a k) (cy a k)) = t) := Lib.hid ht
      have HX := Lib.hid ht
      have d1 := (hb0.cell (World.block_lt_of_cell? w _ c1)).trans c1
      have d2 := (hb0.cell (World.block_lt_of_cell? w _ c2)).trans c2
      have hB' := blk_call hB hb0
      have hki : (k : Int) < a.length := by omega
      have v1 := (va k hlt).1
      have v2 := (va k hlt).2
      have hP' := prow_below hP hb0
      clear c1 c2 ht
      cases t
      · go_wp2_with (go_at_call 100; refine (corclo_is B bo m cb l _ _ false _ hm HT h0 h12 hP' ha v1 v2 hB').mono ?_; rintro e w1 ⟨rfl, hb⟩)
        go_roundw
        case rel => exact ⟨k + 1, by omega, by go_num, Lib.hid (fun j hj => by
          by_cases e : j = k
          · subst e; exact HX.out
          · exact hno.out j (by omega)), belT hb0 hb⟩
        case measure => simp [intOf]; omega
      · go_wp2_with (go_at_call 100; refine (corclo_is B bo m cb l _ _ true _ hm HT h0 h12 hP' ha v1 v2 hB').mono ?_; rintro e w1 ⟨rfl, hb⟩)
        go_ret
        exact ⟨ret_int (by rw [← hr.out, firstI_some hlt hno.out HX.out]), belT hb0 hb⟩
    · have e : k = a.length := by omega
      have HE : Hid (firstI (inC a l) a.length = -1) := Lib.hid (firstI_none fun j hj => hno.out j (by omega))
      clear hno e
      go_wp2
      go_ret
      exact ⟨ret_int (by rw [← hr.out, HE.out]), hb0⟩

theorem firstcorner_is (ao bo : Option Addr) (n cap m cb : Nat) (a l : List (Int × Int)) (r : Int) (w : World) (hn : a.length = n) (hm : l.length = m) (hr : Hid (firstI (inC a l) n = r)) (hle : n ≤ 1000000) (hA : PRow w ao a) (va : AllR2 a) (h0 : 0 < l.length) (h12 : l.length ≤ 12) (hP : PRow w bo l) (ha : AllR2 l) :
    Calls Tryz.prog 81 #[.slice ao n cap, .slice bo m cb] w fun e w' => e = .returned (.int .i64 r) ∧ Below w.heap.size w w' := by
  have hB : (w.alloc (.cells #[.slice bo m cb] 30)).heap[w.heap.size]? = some (.cells #[.slice bo m cb] 30 (0, 0)) := blk_new _ _ _ rfl
  go_enter Tryz.func81, Tryz.ntmps81
  go_wp2_with (go_at_call 96; refine (corindex_is ao bo n cap m cb w.heap.size a l r _ hn hm hr hle (prow_alloc hA _) va h0 h12 (prow_alloc hP _) ha hB).mono ?_; rintro e w1 ⟨rfl, hb⟩)
  go_ret
  exact ⟨rfl, (belA (Below.refl _ _) _).trans (hb.mono (by simp))⟩

end Go.Proofs.YtalhkcmlacppjaaGreatDoor

namespace Go.Proofs.YtalhkcmlacppjaaGreatDoor
open Go.ChangeShapes Go.WideShapes Go.ChangeAt Go.RowKit
attribute [local go_sem] Oper.semAt_some
set_option linter.unusedVariables false
set_option linter.unusedSimpArgs false

theorem iedges_is (ao : Option Addr) (n cap : Nat) (w : World) :
    Calls Tryz.prog 79 #[.slice ao n cap] w fun e w' => e = .returned (.func (.func 98) #[] #[.pointer (some ⟨w.heap.size, 0, none⟩)]) ∧ w' = w.alloc (.cells #[.slice ao n cap] 30) := by
  go_enter Tryz.func79, Tryz.ntmps79
  go_wp2
  go_ret
  exact ⟨rfl, rfl⟩

set_option maxRecDepth 100000 in
set_option maxHeartbeats 4000000 in
theorem iedges1_in (n : Nat) (hn : 1 ≤ n) (l Bs : Nat) (ao : Option Addr) (cap : Nat) (ps : List (Int × Int)) (w0 : World) (h0 : 0 < ps.length) (hle : ps.length ≤ 1000000) (hP : PRow w0 ao ps) (J Jx : List {i : Nat // i < ps.length} → World → Prop)
    (hJ : ∀ pre W W', J pre W → Below W.heap.size W W' → J pre W')
    (hY : ∀ pre x W, J pre W → pre.length < ps.length → YieldAt Fence.wide (n - 1) Tryz.prog l (encE ps x) W fun e W' =>
      (e = .returned (.bool true) ∧ J (pre ++ [x]) W' ∧ KpE w0.heap.size Bs W W') ∨ (e = .returned (.bool false) ∧ Jx (pre ++ [x]) W'))
    (W : World) (hW : Below w0.heap.size w0 W) (hBs : W.heap[Bs]? = some (.cells #[.slice ao ps.length cap] 30 (0, 0))) (hJ0 : J [] W) :
    CallsIn Fence.wide n Tryz.prog 98 #[.func (.yield l) #[] #[], .pointer (some ⟨Bs, 0, none⟩)] W fun e W' => (∃ v, e = .returned v) ∧
      ((∃ ys, ys = upE ps.length h0 ps.length ∧ J ys W') ∨ (∃ pre, (∃ k, k ≤ ps.length ∧ pre = upE ps.length h0 k) ∧ Jx pre W')) := by
  have cB := blk_cell hBs 0 _ rfl
  refine callsIn_of_wp Tryz.func98 rfl trivial ?_ rfl
  simp only [Tryz.ntmps98, List.size_toArray, List.length_cons, List.length_nil, Nat.reduceAdd, Nat.reduceSub, Array.replicate_succ, Array.replicate_zero, List.push_toArray, List.append_toArray, List.nil_append, List.cons_append]
  gi_wp2
  gi_loopw [6] (fun i wr => ∃ k : Nat, k ≤ ps.length ∧ i = .int .i64 k ∧ J (upE ps.length h0 k) wr ∧ Below w0.heap.size w0 wr ∧ wr.heap[Bs]? = some (.cells #[.slice ao ps.length cap] 30 (0, 0)))
    (fun i _ => ps.length - (intOf i).toNat)
  case atStart => exact ⟨0, Nat.zero_le _, rfl, hJ0, hW, hBs⟩
  case round =>
    obtain ⟨k, hk, rfl, hJs, hB, hbs⟩ := hrel
    by_cases hlt : k < ps.length
    · have cb := blk_cell hbs 0 _ rfl
      have hPr : PRow wr ao ps := fun i hi => by
        obtain ⟨b, o, e, c1, c2⟩ := prow_at hP hi
        exact ⟨b, o, e, (hB.cell (World.block_lt_of_cell? w0 _ c1)).trans c1, (hB.cell (World.block_lt_of_cell? w0 _ c2)).trans c2⟩
      have hY' := fun w2 hJ2 => hY (upE ps.length h0 k) ⟨k, hlt⟩ w2 hJ2 (by rw [upE_length]; exact hlt)
      unfold encE at hY'
      dsimp only at hY'
      have hEA := edgeAt_is ao ps.length cap k (k : Int) ps wr rfl rfl hlt hle hPr
      generalize cx ps k = a1 at *
      generalize cy ps k = a2 at *
      generalize cx ps (nx ps.length k) = e1 at *
      generalize cy ps (nx ps.length k) = e2 at *
      gi_wp2_with (refine ⟨trivial, ?_⟩; gi_at_call 99; refine (callsIn_wide.2 hEA).mono ?_; rintro e w2 ⟨rfl, hb⟩; have hJ2 := hJ _ _ _ hJs hb; have HB2 := Lib.hid (hB.trans (hb.mono hB.size)); have HBS := Lib.hid (blk_call hbs hb); obtain ⟨fn, tmps, assign, body, hy, hR⟩ := hY' w2 hJ2; clear hEA hPr cb hbs hJs hJ2 hb hB hP hW hBs cB)
      refine hR.mono ?_
      rintro e W3 (⟨rfl, hJ3, hk3⟩ | ⟨rfl, hJx3⟩)
      · gi_wp2
        go_roundw
        case rel => exact ⟨k + 1, by omega, by simp, by rw [upE_succ _ _ _ hlt]; exact hJ3, HB2.out.trans hk3.1, hk3.2.trans HBS.out⟩
        case measure => simp [intOf]; omega
      · gi_wp2
        refine bodyPost_ret (results_none rfl _ _ _) rfl ?_
        exact ⟨⟨_, rfl⟩, .inr ⟨_, ⟨k + 1, by omega, (upE_succ _ _ _ hlt).symm⟩, hJx3⟩⟩
    · obtain rfl : k = ps.length := by omega
      gi_wp2
      go_end0
      exact ⟨⟨_, rfl⟩, .inl ⟨_, rfl, hJs⟩⟩
theorem iedges_stops (n : Nat) (hn : 1 ≤ n) (Bs : Nat) (ao : Option Addr) (cap : Nat) (ps : List (Int × Int)) (w0 w : World) (h0 : 0 < ps.length) (hle : ps.length ≤ 1000000) (hP : PRow w0 ao ps) (hw : Below w0.heap.size w0 w) (hBs : w.heap[Bs]? = some (.cells #[.slice ao ps.length cap] 30 (0, 0))) :
    SeqStopsK Fence.wide n Tryz.prog 98 #[.pointer (some ⟨Bs, 0, none⟩)] (encE ps) (KpE w0.heap.size Bs) (fun ys => ys = upE ps.length h0 ps.length) (fun pre => ∃ k, k ≤ ps.length ∧ pre = upE ps.length h0 k) ps.length w := fun l J Jx W hW hJ _ hY hj0 =>
  iedges1_in n hn l Bs ao cap ps w0 h0 hle hP J Jx (fun pre W1 W2 h hb => hJ pre W1 W2 none h (grown_of_below hb) (fun r e => by cases e)) hY W (hw.trans (hW.mono hw.size)) (blk_call hBs hW) hj0
end Go.Proofs.YtalhkcmlacppjaaGreatDoor

namespace Go.Proofs.YtalhkcmlacppjaaGreatDoor
open Go.ChangeShapes Go.WideShapes Go.ChangeAt Go.RowKit
attribute [local go_sem] Oper.semAt_some
set_option linter.unusedVariables false
set_option linter.unusedSimpArgs false

theorem upE_last {n k : Nat} {h : 0 < n} {p : List {i : Nat // i < n}} {x : {i : Nat // i < n}} (hk : k ≤ n) (e : p ++ [x] = upE n h k) : vals p = List.range x.1 := by
  have e2 : vals p ++ [x.1] = List.range k := by rw [← vals_snoc, e]; exact upE_vals n h k hk
  match k with
  | 0 => simp at e2
  | k + 1 =>
    rw [List.range_succ] at e2
    obtain ⟨q1, q2⟩ := List.append_inj' e2 rfl
    have : x.1 = k := by simpa using q2
    rw [this]
    exact q1
theorem blk_keep {B b : Nat} {vs : Array Value} {T : TypeId} {X Y : World} {row : Option Nat} (h : X.heap[b]? = some (.cells vs T (0, 0))) (hg : X.grownBy Y row) (hr : ∀ r, row = some r → B ≤ r ∧ ∃ o : Obj, X.heap[r]? = some o ∧ o.isCells = false) : Y.heap[b]? = some (.cells vs T (0, 0)) :=
  (hg.block b (blk_lt h) (fun e => by obtain ⟨_, o, ho, hc⟩ := hr b e.symm; rw [h] at ho; cases ho; cases hc)).trans h

theorem blk_putO {W : World} {b D : Nat} {x : Obj} (h : W.heap[b]? = some x) (hne : D ≠ b) (o : Obj) : (W.putObj D o).heap[b]? = some x := (World.putObj_heap_other (fun e => hne (by omega))).trans h
end Go.Proofs.YtalhkcmlacppjaaGreatDoor

namespace Go.Proofs.YtalhkcmlacppjaaGreatDoor
open Go.ChangeShapes Go.WideShapes Go.ChangeAt Go.RowKit
attribute [local go_sem] Oper.semAt_some
set_option linter.unusedVariables false
set_option linter.unusedSimpArgs false

/-- Does edge i of a meet an edge of b? -/
def rowE (a b : List (Int × Int)) (i : Nat) : Bool := (List.range b.length).any (eeB a b i)
/-- What FindContact returns: kind, I, J, whether there is one. -/
def conT (a b : List (Int × Int)) : Int × Int × Int × Bool :=
  if 0 ≤ firstI (rowE a b) a.length then (1, firstI (rowE a b) a.length, firstI (eeB a b (firstI (rowE a b) a.length).toNat) b.length, true)
  else if 0 ≤ firstI (inC a b) a.length then (2, firstI (inC a b) a.length, 0, true)
  else if 0 ≤ firstI (inC b a) b.length then (3, 0, firstI (inC b a) b.length, true) else (0, 0, 0, false)
theorem rowE_no {a b : List (Int × Int)} {i : Nat} (h : ∀ j, j < b.length → eeB a b i j = false) : rowE a b i = false := by
  unfold rowE
  rw [List.any_eq_false]
  intro j hj
  rw [h j (List.mem_range.1 hj)]
  simp
theorem rowE_yes {a b : List (Int × Int)} {i j : Nat} (hj : j < b.length) (h : eeB a b i j = true) : rowE a b i = true := by
  unfold rowE
  rw [List.any_eq_true]
  exact ⟨j, List.mem_range.2 hj, h⟩
theorem four_set {w2 : World} {S T n B : Nat} {u0 u1 u2 b0 x0 x1 x2 y : Value} {TS TT : TypeId} (hS : w2.heap[S]? = some (.cells #[u0, u1, u2] TS (0, 0))) (hT : w2.heap[T]? = some (.cells #[b0] TT (0, 0))) (hne : T ≠ S) (h1 : n ≤ S) (h2 : n ≤ T) :
    ((((w2.setCell ⟨S, 0, none⟩ x0).setCell ⟨S, 1, none⟩ x1).setCell ⟨S, 2, none⟩ x2).setCell ⟨T, 0, none⟩ y).heap[S]? = some (.cells #[x0, x1, x2] TS (0, 0)) ∧ ((((w2.setCell ⟨S, 0, none⟩ x0).setCell ⟨S, 1, none⟩ x1).setCell ⟨S, 2, none⟩ x2).setCell ⟨T, 0, none⟩ y).heap[T]? = some (.cells #[y] TT (0, 0)) ∧
    Below n w2 ((((w2.setCell ⟨S, 0, none⟩ x0).setCell ⟨S, 1, none⟩ x1).setCell ⟨S, 2, none⟩ x2).setCell ⟨T, 0, none⟩ y) ∧ KeepsFrom B w2 ((((w2.setCell ⟨S, 0, none⟩ x0).setCell ⟨S, 1, none⟩ x1).setCell ⟨S, 2, none⟩ x2).setCell ⟨T, 0, none⟩ y) :=
  ⟨blk_other (blk_set (blk_set (blk_set hS x0) x1) x2) hne y, blk_set (blk_other (blk_other (blk_other hT (Ne.symm hne) _) (Ne.symm hne) _) (Ne.symm hne) _) y, ((((Below.refl _ _).setCell h1 _).setCell h1 _).setCell h1 _).setCell h2 _, ((KeepsOthers.setCell _ _ _).from _).trans (((KeepsOthers.setCell _ _ _).from _).trans (((KeepsOthers.setCell _ _ _).from _).trans ((KeepsOthers.setCell _ _ _).from _)))⟩
/-- The way out of the inner loop, and of the outer. -/
def InEx (a b : List (Int × Int)) (s x : Nat) (c : Code) (pre : List {i : Nat // i < b.length}) (W : World) : Prop :=
  c = .ret ∧ ∃ p y, pre = p ++ [y] ∧ (∀ j ∈ vals p, eeB a b x j = false) ∧ eeB a b x y.1 = true ∧ W.heap[s]? = some (.cells #[.int .i64 1, .int .i64 (x : Int), .int .i64 (y.1 : Int)] 76 (0, 0))
def OutEx (a b : List (Int × Int)) (s : Nat) (c : Code) (pre : List {i : Nat // i < a.length}) (W : World) : Prop :=
  c = .ret ∧ ∃ p x j, pre = p ++ [x] ∧ (∀ i ∈ vals p, rowE a b i = false) ∧ j < b.length ∧ (∀ k, k < j → eeB a b x.1 k = false) ∧ eeB a b x.1 j = true ∧ W.heap[s]? = some (.cells #[.int .i64 1, .int .i64 (x.1 : Int), .int .i64 (j : Int)] 76 (0, 0))
theorem inEx_own (B : Nat) (a b : List (Int × Int)) (s x : Nat) (c : Code) : OwnFrom B (InEx a b s x c) := by
  intro pre X Y row h hg hr
  obtain ⟨hc, p, y, h1, h2, h3, h4⟩ := h
  exact ⟨hc, p, y, h1, h2, h3, blk_keep h4 hg hr⟩
theorem outEx_own (B : Nat) (a b : List (Int × Int)) (s : Nat) (c : Code) : OwnFrom B (OutEx a b s c) := by
  intro pre X Y row h hg hr
  obtain ⟨hc, p, x, j, h1, h2, h3, h4, h5, h6⟩ := h
  exact ⟨hc, p, x, j, h1, h2, h3, h4, h5, blk_keep h6 hg hr⟩

set_option maxRecDepth 100000 in
set_option maxHeartbeats 16000000 in
theorem contact_any (ao bo : Option Addr) (ca cb : Nat) (a b : List (Int × Int)) (w : World) (h0 : 0 < a.length) (h0' : 0 < b.length) (hle : a.length ≤ 12) (hle' : b.length ≤ 12) (hA : PRow w ao a) (hB : PRow w bo b) (va : AllR2 a) (vb : AllR2 b) :
    Calls Tryz.prog 44 #[.slice ao a.length ca, .slice bo b.length cb] w fun e w' => e = .returned (.tuple #[.agg #[.int .i64 (conT a b).1, .int .i64 (conT a b).2.1, .int .i64 (conT a b).2.2.1], .bool (conT a b).2.2.2]) ∧ Below w.heap.size w w' := by
  refine (callsIn_wide (n := 9)).1 ?_
  refine callsIn_of_wp_marks Tryz.func44 rfl trivial ?_ rfl
  simp only [Tryz.ntmps44, List.size_toArray, List.length_cons, List.length_nil, Nat.reduceAdd, Nat.reduceSub, Array.replicate_succ, Array.replicate_zero, List.push_toArray, List.append_toArray, List.nil_append, List.cons_append]
  gi_wp2_with (refine ⟨trivial, ?_⟩; gi_at_call 79; refine (callsIn_wide.2 (iedges_is ao a.length ca _)).mono ?_; rintro e w' ⟨rfl, rfl⟩)
  obtain ⟨W0, hW0⟩ : ∃ W0, (((w.alloc (.cells #[.slice bo b.length cb] 30)).alloc (.cells #[.int .i64 0, .int .i64 0, .int .i64 0] 76)).alloc (.cells #[.bool false] 4)).alloc (.cells #[.slice ao a.length ca] 30) = W0 := ⟨_, rfl⟩
  have hB0 : W0.heap[w.heap.size]? = some (.cells #[.slice bo b.length cb] 30 (0, 0)) := by rw [← hW0]; exact blk_alloc (blk_alloc (blk_alloc (blk_new _ _ _ rfl) _) _) _
  have hS0 : W0.heap[w.heap.size + 1]? = some (.cells #[.int .i64 0, .int .i64 0, .int .i64 0] 76 (0, 0)) := by rw [← hW0]; exact blk_alloc (blk_alloc (blk_new _ _ _ (by simp)) _) _
  have hT0 : W0.heap[w.heap.size + 1 + 1]? = some (.cells #[.bool false] 4 (0, 0)) := by rw [← hW0]; exact blk_alloc (blk_new _ _ _ (by simp)) _
  have hN0 : W0.heap[w.heap.size + 1 + 1 + 1]? = some (.cells #[.slice ao a.length ca] 30 (0, 0)) := by rw [← hW0]; exact blk_new _ _ _ (by simp)
  have hb0 : Below w.heap.size w W0 := by rw [← hW0]; exact belA (belA (belA (belA (Below.refl _ _) _) _) _) _
  have hsz : w.heap.size + 1 + 1 + 1 < W0.heap.size := by rw [← hW0]; simp
  rw [hW0]
  clear hW0
  refine wpIn_rangeFunc_ownH rfl (by omega) (gf := 98) (lb := #[.pointer (some ⟨w.heap.size + 1 + 1 + 1, 0, none⟩)]) rfl trivial (enters_of Tryz.func98 (by kernel_rfl) rfl)
    (iedges_stops (9 - 1) (by omega) (w.heap.size + 1 + 1 + 1) ao ca a w W0 h0 (by omega) hA hb0 hN0) kpE_t (kpE_b (by omega) (by omega)) (Below.refl _ _) (fun _ => rfl)
    (fun pre W => (((((∀ i ∈ vals pre, rowE a b i = false) ∧ W.heap[w.heap.size]? = some (.cells #[.slice bo b.length cb] 30 (0, 0))) ∧ W.heap[w.heap.size + 1]? = some (.cells #[.int .i64 0, .int .i64 0, .int .i64 0] 76 (0, 0))) ∧ W.heap[w.heap.size + 1 + 1]? = some (.cells #[.bool false] 4 (0, 0))) ∧ W.heap[w.heap.size + 1 + 1 + 1]? = some (.cells #[.slice ao a.length ca] 30 (0, 0))) ∧ Below w.heap.size w W ∧ W0.heap.size ≤ W.heap.size)
    (fun c pre W => (OutEx a b (w.heap.size + 1) c pre W ∧ W.heap[w.heap.size + 1 + 1]? = some (.cells #[.bool true] 4 (0, 0))) ∧ Below w.heap.size w W)
    (OwnFrom.and (OwnFrom.and (OwnFrom.and (OwnFrom.and (OwnFrom.and (ownFrom_pure _ _) (Own.from (blk_own _ _ (fun _ => rfl)) _)) (Own.from (blk_own _ _ (fun _ => rfl)) _)) (Own.from (blk_own _ _ (fun _ => rfl)) _)) (Own.from (blk_own _ _ (fun _ => rfl)) _)) (OwnFrom.and (ownFrom_below (Nat.le_refl _) (by omega)) (own_size _ _)))
    (fun c => OwnFrom.and (OwnFrom.and (outEx_own _ a b (w.heap.size + 1) c) (Own.from (blk_own _ _ (fun _ => rfl)) _)) (ownFrom_below (Nat.le_refl _) (by omega)))
    ⟨⟨⟨⟨⟨by simp [vals], hB0⟩, hS0⟩, hT0⟩, hN0⟩, hb0, Nat.le_refl _⟩
    (fun x a' W => ∃ Bi Be, W.heap[Bi]? = some (.cells #[.int .i64 (x.1 : Int)] 3 (0, 0)) ∧ W.heap[Be]? = some (.cells #[.int .i64 (cx a x.1), .int .i64 (cy a x.1), .int .i64 (cx a (nx a.length x.1)), .int .i64 (cy a (nx a.length x.1))] 104 (0, 0)) ∧ a' = { tmps := #[.slice ao a.length ca, .slice bo b.length cb, undef, .pointer (some ⟨w.heap.size, 0, none⟩), .pointer (some ⟨w.heap.size + 1, 0, none⟩), .pointer (some ⟨w.heap.size + 1 + 1, 0, none⟩), .pointer (some ⟨Bi, 0, none⟩), .pointer (some ⟨Be, 0, none⟩), undef, undef, undef, undef, .slice ao a.length ca, .func (.func 98) #[] #[.pointer (some ⟨w.heap.size + 1 + 1 + 1, 0, none⟩)], .int .i64 (x.1 : Int), .agg #[.int .i64 (cx a x.1), .int .i64 (cy a x.1), .int .i64 (cx a (nx a.length x.1)), .int .i64 (cy a (nx a.length x.1))], undef, undef, undef, undef, undef, undef, undef, undef, undef, undef, undef, undef, undef, undef, undef, undef, undef, undef, undef, undef, undef, undef, undef, undef, undef], defers := [] })
    (fun x a' => fun _ X Y row ⟨Bi, Be, h1, h2, h3⟩ hg hr => ⟨Bi, Be, blk_keep h1 hg hr, blk_keep h2 hg hr, h3⟩)
    ?assign ?body ?done ?stop
  case assign =>
    rintro l pre x W K ⟨⟨⟨⟨⟨hp, hB1⟩, hS⟩, hT⟩, hN⟩, hb, hz⟩ hK
    rw [show encE a x = #[.int .i64 (x.1 : Int), .agg #[.int .i64 (cx a x.1), .int .i64 (cy a x.1), .int .i64 (cx a (nx a.length x.1)), .int .i64 (cy a (nx a.length x.1))]] from rfl]
    gi_wp2
    exact hK _ _ (((KeepsOthers.alloc _ _).trans (KeepsOthers.alloc _ _)).from _) (kpE_t (kpE_alloc _ hb.size (by omega)) (kpE_alloc _ (by have := hb.size; simp; omega) (by simp; omega))) ⟨⟨⟨⟨⟨hp, blk_alloc (blk_alloc hB1 _) _⟩, blk_alloc (blk_alloc hS _) _⟩, blk_alloc (blk_alloc hT _) _⟩, blk_alloc (blk_alloc hN _) _⟩, belA (belA hb _) _, by first | omega | (simp; omega)⟩ ⟨W.heap.size, W.heap.size + 1, blk_alloc (blk_new _ _ _ rfl) _, blk_new _ _ _ (by simp), rfl⟩
  case body =>
    rintro l pre x a' W hl ⟨rl, hrl⟩ ⟨⟨⟨⟨⟨hp, hB1⟩, hS⟩, hT⟩, hN⟩, hb, hz⟩ ⟨Bi, Be, hi, he, rfl⟩ hlen
    have hxl := x.2
    have kb := blk_cell hB1 0 _ rfl
    gi_wp2_with (refine ⟨trivial, ?_⟩; gi_at_call 79; refine (CallsIn.inRound l (callsIn_wide.2 (iedges_is bo b.length cb _))).mono ?_; rintro e w' ⟨rfl, rfl⟩)
    have hsW := hb.size
    have hr' : (W.alloc (.cells #[.slice bo b.length cb] 30)).heap[l]? = some (.loop rl) := blk_alloc hrl _
    refine wpIn_rangeFunc_ownN (l₀ := l) (r₀ := rl) rfl hr' (by omega) (gf := 98) (lb := #[.pointer (some ⟨W.heap.size, 0, none⟩)]) rfl trivial (enters_of Tryz.func98 (by kernel_rfl) rfl)
      ((iedges_stops (9 - 1 - 1 - 1) (by omega) W.heap.size bo cb b w (W.alloc (.cells #[.slice bo b.length cb] 30)) h0' (by omega) hB (belA hb _) (blk_new _ _ _ rfl)).inRound l) kpE_t (kpE_b (by first | omega | (simp; omega)) (by simp)) (Below.refl _ _) (fun _ => rfl)
      (fun pre' W' => (((((((∀ j ∈ vals pre', eeB a b x.1 j = false) ∧ W'.heap[w.heap.size]? = some (.cells #[.slice bo b.length cb] 30 (0, 0))) ∧ W'.heap[w.heap.size + 1]? = some (.cells #[.int .i64 0, .int .i64 0, .int .i64 0] 76 (0, 0))) ∧ W'.heap[w.heap.size + 1 + 1]? = some (.cells #[.bool false] 4 (0, 0))) ∧ W'.heap[w.heap.size + 1 + 1 + 1]? = some (.cells #[.slice ao a.length ca] 30 (0, 0))) ∧ W'.heap[Bi]? = some (.cells #[.int .i64 (x.1 : Int)] 3 (0, 0))) ∧ W'.heap[Be]? = some (.cells #[.int .i64 (cx a x.1), .int .i64 (cy a x.1), .int .i64 (cx a (nx a.length x.1)), .int .i64 (cy a (nx a.length x.1))] 104 (0, 0))) ∧ (Below w.heap.size W W' ∧ KeepsFrom W0.heap.size W W') ∧ W.heap.size + 1 ≤ W'.heap.size)
      (fun c pre' W' => (InEx a b (w.heap.size + 1) x.1 c pre' W' ∧ W'.heap[w.heap.size + 1 + 1]? = some (.cells #[.bool true] 4 (0, 0))) ∧ (Below w.heap.size W W' ∧ KeepsFrom W0.heap.size W W'))
      (OwnFrom.and (OwnFrom.and (OwnFrom.and (OwnFrom.and (OwnFrom.and (OwnFrom.and (OwnFrom.and (ownFrom_pure _ _) (Own.from (blk_own _ _ (fun _ => rfl)) _)) (Own.from (blk_own _ _ (fun _ => rfl)) _)) (Own.from (blk_own _ _ (fun _ => rfl)) _)) (Own.from (blk_own _ _ (fun _ => rfl)) _)) (Own.from (blk_own _ _ (fun _ => rfl)) _)) (Own.from (blk_own _ _ (fun _ => rfl)) _)) (OwnFrom.and (OwnFrom.and (ownFrom_below hsW (by first | omega | (simp; omega))) (ownFrom_keepsFrom (by simp))) (own_size _ _)))
      (fun c => OwnFrom.and (OwnFrom.and (inEx_own _ a b (w.heap.size + 1) x.1 c) (Own.from (blk_own _ _ (fun _ => rfl)) _)) (OwnFrom.and (ownFrom_below hsW (by first | omega | (simp; omega))) (ownFrom_keepsFrom (by simp))))
      ⟨⟨⟨⟨⟨⟨⟨by simp [vals], blk_alloc hB1 _⟩, blk_alloc hS _⟩, blk_alloc hT _⟩, blk_alloc hN _⟩, blk_alloc hi _⟩, blk_alloc he _⟩, ⟨(Below.refl _ W).alloc hsW _, (KeepsOthers.alloc _ _).from _⟩, by simp⟩
      (fun y a'' W' => ∃ Bf, W'.heap[Bf]? = some (.cells #[.int .i64 (cx b y.1), .int .i64 (cy b y.1), .int .i64 (cx b (nx b.length y.1)), .int .i64 (cy b (nx b.length y.1))] 104 (0, 0)) ∧ a'' = { tmps := #[.slice ao a.length ca, .slice bo b.length cb, undef, .pointer (some ⟨w.heap.size, 0, none⟩), .pointer (some ⟨w.heap.size + 1, 0, none⟩), .pointer (some ⟨w.heap.size + 1 + 1, 0, none⟩), .pointer (some ⟨Bi, 0, none⟩), .pointer (some ⟨Be, 0, none⟩), .int .i64 (y.1 : Int), .pointer (some ⟨Bf, 0, none⟩), undef, undef, .slice ao a.length ca, .func (.func 98) #[] #[.pointer (some ⟨w.heap.size + 1 + 1 + 1, 0, none⟩)], .int .i64 (x.1 : Int), .agg #[.int .i64 (cx a x.1), .int .i64 (cy a x.1), .int .i64 (cx a (nx a.length x.1)), .int .i64 (cy a (nx a.length x.1))], .slice bo b.length cb, .func (.func 98) #[] #[.pointer (some ⟨W.heap.size, 0, none⟩)], .int .i64 (y.1 : Int), .agg #[.int .i64 (cx b y.1), .int .i64 (cy b y.1), .int .i64 (cx b (nx b.length y.1)), .int .i64 (cy b (nx b.length y.1))], undef, undef, undef, undef, undef, undef, undef, undef, undef, undef, undef, undef, undef, undef, undef, undef, undef, undef, undef, undef, undef], defers := [] })
      (fun y a'' => fun _ X Y row ⟨Bf, h1, h3⟩ hg hr => ⟨Bf, blk_keep h1 hg hr, h3⟩)
      ?assign2 ?body2 ?done2 ?stop2
    case assign2 =>
      rintro l2 pre' y W1 K ⟨⟨⟨⟨⟨⟨⟨hq, hB2⟩, hS2⟩, hT2⟩, hN2⟩, hi1⟩, he1⟩, ⟨hBW, hKF⟩, hz1⟩ hK
      rw [show encE b y = #[.int .i64 (y.1 : Int), .agg #[.int .i64 (cx b y.1), .int .i64 (cy b y.1), .int .i64 (cx b (nx b.length y.1)), .int .i64 (cy b (nx b.length y.1))]] from rfl]
      gi_wp2
      exact hK _ _ ((KeepsOthers.alloc _ _).from _) ⟨(Below.refl _ _).alloc (by omega) _, Below.heap_alloc W1 _ _ (by omega)⟩ ⟨⟨⟨⟨⟨⟨⟨hq, blk_alloc hB2 _⟩, blk_alloc hS2 _⟩, blk_alloc hT2 _⟩, blk_alloc hN2 _⟩, blk_alloc hi1 _⟩, blk_alloc he1 _⟩, ⟨hBW.alloc (by omega) _, hKF.trans ((KeepsOthers.alloc _ _).from _)⟩, by first | omega | (simp; omega)⟩ ⟨W1.heap.size, blk_new _ _ _ rfl, rfl⟩
    case body2 =>
      rintro l2 pre' y a'' W1 hl2 ⟨rl2, hrl2⟩ ⟨⟨⟨⟨⟨⟨⟨hq, hB2⟩, hS2⟩, hT2⟩, hN2⟩, hi1⟩, he1⟩, ⟨hBW, hKF⟩, hz1⟩ ⟨Bf, hf1, rfl⟩ hlen2
      have hyl := y.2
      clear hB1 hS hT hN hi he kb hr' hlen hlen2
      have hsW1 := Nat.le_trans hb.size hBW.size
      obtain ⟨t, ht⟩ : ∃ t, eeB a b x.1 y.1 = t := ⟨_, rfl⟩
      have HT := Lib.hid ht
      have HQ := Lib.hid hq
      obtain ⟨i1, i2⟩ := va x.1 hxl
      obtain ⟨i3, i4⟩ := va _ (nx_lt' hxl)
      obtain ⟨i5, i6⟩ := vb y.1 hyl
      obtain ⟨i7, i8⟩ := vb _ (nx_lt' hyl)
      unfold eeB at ht
      have hi0 := blk_cell hi1 0 _ rfl
      clear hq
      generalize cx a x.1 = x1 at *
      generalize cy a x.1 = x2 at *
      generalize cx a (nx a.length x.1) = y1 at *
      generalize cy a (nx a.length x.1) = y2 at *
      generalize cx b y.1 = u1 at *
      generalize cy b y.1 = u2 at *
      generalize cx b (nx b.length y.1) = v1 at *
      generalize cy b (nx b.length y.1) = v2 at *
      have C := meets_is x1 x2 y1 y2 u1 u2 v1 v2 t W1 (Lib.hid ht) i1 i2 i3 i4 i5 i6 i7 i8
      have k0 := blk_cell he1 0 _ rfl
      have k1 := blk_cell he1 1 _ rfl
      have k2 := blk_cell he1 2 _ rfl
      have k3 := blk_cell he1 3 _ rfl
      have m0 := blk_cell hf1 0 _ rfl
      have m1 := blk_cell hf1 1 _ rfl
      have m2 := blk_cell hf1 2 _ rfl
      have m3 := blk_cell hf1 3 _ rfl
      clear ht
      cases t
      · gi_wp2_with (refine ⟨trivial, ?_⟩; gi_at_call 80; refine (CallsIn.inRound l2 (CallsIn.inRound l (callsIn_wide.2 C))).mono ?_; rintro e w3 ⟨rfl, hb3⟩)
        exact ⟨KeepsFrom.of_grownBy (grown_of_below hb3) (fun j e => by cases e), ⟨hb3.mono hsW1, hb3.block _ (by omega)⟩, ⟨⟨⟨⟨⟨⟨fun j hj => by
          rw [vals_snoc, List.mem_append, List.mem_singleton] at hj
          rcases hj with hj | rfl
          · exact HQ.out j hj
          · exact HT.out, blk_call hB2 hb3⟩, blk_call hS2 hb3⟩, blk_call hT2 hb3⟩, blk_call hN2 hb3⟩, blk_call hi1 hb3⟩, blk_call he1 hb3⟩, ⟨hBW.trans (hb3.mono hsW1), hKF.trans (KeepsFrom.of_grownBy (grown_of_below hb3) (fun j e => by cases e))⟩, Nat.le_trans hz1 hb3.size⟩
      · gi_wp2_with (refine ⟨trivial, ?_⟩; gi_at_call 80; refine (CallsIn.inRound l2 (CallsIn.inRound l (callsIn_wide.2 C))).mono ?_; rintro e w3 ⟨rfl, hb3⟩; have h3S := blk_call hS2 hb3; have h3T := blk_call hT2 hb3; have hi3 := blk_cell (blk_call hi1 hb3) 0 _ rfl; have s0 := blk_cell h3S 0 _ rfl; have s1 := blk_cell h3S 1 _ rfl; have s2 := blk_cell h3S 2 _ rfl; have t0 := blk_cell h3T 0 _ rfl; have f0 := blk_fz h3S 0; have f1 := blk_fz h3S 1; have f2 := blk_fz h3S 2; have f3 := blk_fz h3T 0)
        obtain ⟨z1, z2, z3, z4⟩ := four_set (n := w.heap.size) (B := (W.alloc (.cells #[.slice bo b.length cb] 30)).heap.size) (x0 := .int .i64 1) (x1 := .int .i64 (x.1 : Int)) (x2 := .int .i64 (y.1 : Int)) (y := .bool true) h3S h3T (by omega) (by omega) (by omega)
        obtain ⟨_, _, _, z5⟩ := four_set (n := w.heap.size) (B := W0.heap.size) (x0 := .int .i64 1) (x1 := .int .i64 (x.1 : Int)) (x2 := .int .i64 (y.1 : Int)) (y := .bool true) h3S h3T (by omega) (by omega) (by omega)
        have kf : ∀ B, KeepsFrom B W1 w3 := fun B => KeepsFrom.of_grownBy (grown_of_below hb3) (fun j e => by cases e)
        exact ⟨(kf _).trans z4, ⟨⟨rfl, pre', y, rfl, HQ.out, HT.out, z1⟩, z2⟩, hBW.trans ((hb3.mono hsW1).trans z3), hKF.trans ((kf _).trans z5)⟩
    case done2 =>
      rintro ys' W1 rfl ⟨⟨⟨⟨⟨⟨⟨hq, hB2⟩, hS2⟩, hT2⟩, hN2⟩, hi1⟩, he1⟩, ⟨hBW, hKF⟩, hz1⟩
      rw [vals_upE] at hq
      gi_wp2
      exact ⟨hKF, ⟨hBW, hN2.trans hN.symm⟩, ⟨⟨⟨⟨fun i hi => by
        rw [vals_snoc, List.mem_append, List.mem_singleton] at hi
        rcases hi with hi | rfl
        · exact hp i hi
        · exact rowE_no fun j hj => hq j (List.mem_range.2 hj), hB2⟩, hS2⟩, hT2⟩, hN2⟩, hb.trans hBW, by omega⟩
    case stop2 =>
      rintro c pre' W1 ⟨k, hk, hpre⟩ ⟨⟨hEx, hT2⟩, hBW, hKF⟩
      obtain ⟨rfl, p, y, hpx, h1, h2, hS2⟩ := hEx
      gi_wp2
      exact ⟨hKF, ⟨⟨rfl, pre, x, y.1, rfl, hp, y.2, fun j hj => h1 j (by rw [upE_last hk (hpx ▸ hpre)]; exact List.mem_range.2 hj), h2, hS2⟩, hT2⟩, hb.trans hBW⟩
  case done =>
    rintro D ys W hD rfl ⟨⟨⟨⟨⟨hp, hB1⟩, hS⟩, hT⟩, hN⟩, hb, hz⟩ hK
    rw [vals_upE] at hp
    have HN1 : Hid (firstI (rowE a b) a.length = -1) := Lib.hid (firstI_none fun j hj => hp j (List.mem_range.2 hj))
    have kb := blk_cell hB1 0 _ rfl
    obtain ⟨q1, e1⟩ : ∃ r, firstI (inC a b) a.length = r := ⟨_, rfl⟩
    obtain ⟨q2, e2⟩ : ∃ r, firstI (inC b a) b.length = r := ⟨_, rfl⟩
    have HR1 := Lib.hid e1
    have HR2 := Lib.hid e2
    have C1 := firstcorner_is ao bo a.length ca b.length cb a b q1 W rfl rfl HR1 (by omega) (prow_below hA hb) va h0' hle' (prow_below hB hb) vb
    clear hp e1 e2 hB0 hS0 hT0 hN0 hN
    by_cases g1 : 0 ≤ q1
    · have HE : Hid (conT a b = (2, q1, 0, true)) := Lib.hid (by unfold conT; rw [HN1.out, HR1.out, if_neg (by omega), if_pos g1])
      gi_wp2_with (refine ⟨trivial, ?_⟩; gi_at_call 81; refine (callsIn_wide.2 C1).mono ?_; rintro e w3 ⟨rfl, hb3⟩; have h3S := blk_call hS hb3; have h3T := blk_call hT hb3; have s0 := blk_cell h3S 0 _ rfl; have s1 := blk_cell h3S 1 _ rfl; have s2 := blk_cell h3S 2 _ rfl; have t0 := blk_cell h3T 0 _ rfl; have f0 := blk_fz h3S 0; have f1 := blk_fz h3S 1; have f2 := blk_fz h3S 2; have f3 := blk_fz h3T 0)
      have hSf := h3S
      have hTf := h3T
      have hKf := blk_call hK hb3
      have hbf := hb.trans (hb3.mono hb.size)
      obtain ⟨z1, z2, z3, _⟩ := four_set (n := w.heap.size) (B := w.heap.size) (x0 := .int .i64 2) (x1 := .int .i64 q1) (x2 := .int .i64 0) (y := .bool true) hSf hTf (by omega) (by omega) (by omega)
      have hKF := blk_other (blk_other (blk_other (blk_other hKf (c := w.heap.size + 1) (j := 0) (by omega) (.int .i64 2)) (c := w.heap.size + 1) (j := 1) (by omega) (.int .i64 q1)) (c := w.heap.size + 1) (j := 2) (by omega) (.int .i64 0)) (c := w.heap.size + 1 + 1) (j := 0) (by omega) (.bool true)
      have zb := hbf.trans z3
      clear z3
      generalize (((w3.setCell ⟨w.heap.size + 1, 0, none⟩ (.int .i64 2)).setCell ⟨w.heap.size + 1, 1, none⟩ (.int .i64 q1)).setCell ⟨w.heap.size + 1, 2, none⟩ (.int .i64 0)).setCell ⟨w.heap.size + 1 + 1, 0, none⟩ (.bool true) = WF at *
      refine ⟨by simp, .inl ⟨_, _, rfl, run_takeDeferred hKF, ?_⟩⟩
      have y1 := blk_putO z1 (show D ≠ w.heap.size + 1 by omega) (.deferred none)
      have y2 := blk_putO z2 (show D ≠ w.heap.size + 1 + 1 by omega) (.deferred none)
      have r0 := blk_cell y1 0 _ rfl
      have r1 := blk_cell y1 1 _ rfl
      have r2 := blk_cell y1 2 _ rfl
      have r3 := blk_cell y2 0 _ rfl
      refine ⟨.tuple #[.agg #[.int .i64 2, .int .i64 q1, .int .i64 0], .bool true], by simp [results, Tryz.f44, go_sem, r0, r1, r2, r3], by rw [HE.out], zb.trans (belowK_b (w := w) (Nat.le_refl _) _ D _ _ (by omega) hKF rfl rfl)⟩
    · by_cases g2 : 0 ≤ q2
      · have HE : Hid (conT a b = (3, 0, q2, true)) := Lib.hid (by unfold conT; rw [HN1.out, HR1.out, HR2.out, if_neg (by omega), if_neg g1, if_pos g2])
        gi_wp2_with (first | (refine ⟨trivial, ?_⟩; gi_at_call 81; refine (callsIn_wide.2 C1).mono ?_; rintro e w3 ⟨rfl, hb3⟩; clear C1; have kb3 := blk_cell (blk_call hB1 hb3) 0 _ rfl) | (refine ⟨trivial, ?_⟩; gi_at_call 81; refine (callsIn_wide.2 (firstcorner_is bo ao b.length cb a.length ca b a q2 w3 rfl rfl HR2 (by omega) (prow_below hB (hb.trans (hb3.mono hb.size))) vb h0 hle (prow_below hA (hb.trans (hb3.mono hb.size))) va)).mono ?_; rintro e w4 ⟨rfl, hb4⟩; have h4 := hb3.trans (hb4.mono hb3.size); have h4S := blk_call hS h4; have h4T := blk_call hT h4; have s0 := blk_cell h4S 0 _ rfl; have s1 := blk_cell h4S 1 _ rfl; have s2 := blk_cell h4S 2 _ rfl; have t0 := blk_cell h4T 0 _ rfl; have f0 := blk_fz h4S 0; have f1 := blk_fz h4S 1; have f2 := blk_fz h4S 2; have f3 := blk_fz h4T 0))
        have hSf := h4S
        have hTf := h4T
        have hKf := blk_call hK h4
        have hbf := hb.trans (h4.mono hb.size)
        obtain ⟨z1, z2, z3, _⟩ := four_set (n := w.heap.size) (B := w.heap.size) (x0 := .int .i64 3) (x1 := .int .i64 0) (x2 := .int .i64 q2) (y := .bool true) hSf hTf (by omega) (by omega) (by omega)
        have hKF := blk_other (blk_other (blk_other (blk_other hKf (c := w.heap.size + 1) (j := 0) (by omega) (.int .i64 3)) (c := w.heap.size + 1) (j := 1) (by omega) (.int .i64 0)) (c := w.heap.size + 1) (j := 2) (by omega) (.int .i64 q2)) (c := w.heap.size + 1 + 1) (j := 0) (by omega) (.bool true)
        have zb := hbf.trans z3
        clear z3
        generalize (((w4.setCell ⟨w.heap.size + 1, 0, none⟩ (.int .i64 3)).setCell ⟨w.heap.size + 1, 1, none⟩ (.int .i64 0)).setCell ⟨w.heap.size + 1, 2, none⟩ (.int .i64 q2)).setCell ⟨w.heap.size + 1 + 1, 0, none⟩ (.bool true) = WF at *
        refine ⟨by simp, .inl ⟨_, _, rfl, run_takeDeferred hKF, ?_⟩⟩
        have y1 := blk_putO z1 (show D ≠ w.heap.size + 1 by omega) (.deferred none)
        have y2 := blk_putO z2 (show D ≠ w.heap.size + 1 + 1 by omega) (.deferred none)
        have r0 := blk_cell y1 0 _ rfl
        have r1 := blk_cell y1 1 _ rfl
        have r2 := blk_cell y1 2 _ rfl
        have r3 := blk_cell y2 0 _ rfl
        refine ⟨.tuple #[.agg #[.int .i64 3, .int .i64 0, .int .i64 q2], .bool true], by simp [results, Tryz.f44, go_sem, r0, r1, r2, r3], by rw [HE.out], zb.trans (belowK_b (w := w) (Nat.le_refl _) _ D _ _ (by omega) hKF rfl rfl)⟩
      · have HE : Hid (conT a b = (0, 0, 0, false)) := Lib.hid (by unfold conT; rw [HN1.out, HR1.out, HR2.out, if_neg (by omega), if_neg g1, if_neg g2])
        gi_wp2_with (first | (refine ⟨trivial, ?_⟩; gi_at_call 81; refine (callsIn_wide.2 C1).mono ?_; rintro e w3 ⟨rfl, hb3⟩; clear C1; have kb3 := blk_cell (blk_call hB1 hb3) 0 _ rfl) | (refine ⟨trivial, ?_⟩; gi_at_call 81; refine (callsIn_wide.2 (firstcorner_is bo ao b.length cb a.length ca b a q2 w3 rfl rfl HR2 (by omega) (prow_below hB (hb.trans (hb3.mono hb.size))) vb h0 hle (prow_below hA (hb.trans (hb3.mono hb.size))) va)).mono ?_; rintro e w4 ⟨rfl, hb4⟩; have h4 := hb3.trans (hb4.mono hb3.size); have h4S := blk_call hS h4; have h4T := blk_call hT h4; have s0 := blk_cell h4S 0 _ rfl; have s1 := blk_cell h4S 1 _ rfl; have s2 := blk_cell h4S 2 _ rfl; have t0 := blk_cell h4T 0 _ rfl; have f0 := blk_fz h4S 0; have f1 := blk_fz h4S 1; have f2 := blk_fz h4S 2; have f3 := blk_fz h4T 0))
        have hSf := h4S
        have hTf := h4T
        have hKf := blk_call hK h4
        have hbf := hb.trans (h4.mono hb.size)
        obtain ⟨z1, z2, z3, _⟩ := four_set (n := w.heap.size) (B := w.heap.size) (x0 := .int .i64 0) (x1 := .int .i64 0) (x2 := .int .i64 0) (y := .bool false) hSf hTf (by omega) (by omega) (by omega)
        have hKF := blk_other (blk_other (blk_other (blk_other hKf (c := w.heap.size + 1) (j := 0) (by omega) (.int .i64 0)) (c := w.heap.size + 1) (j := 1) (by omega) (.int .i64 0)) (c := w.heap.size + 1) (j := 2) (by omega) (.int .i64 0)) (c := w.heap.size + 1 + 1) (j := 0) (by omega) (.bool false)
        have zb := hbf.trans z3
        clear z3
        generalize (((w4.setCell ⟨w.heap.size + 1, 0, none⟩ (.int .i64 0)).setCell ⟨w.heap.size + 1, 1, none⟩ (.int .i64 0)).setCell ⟨w.heap.size + 1, 2, none⟩ (.int .i64 0)).setCell ⟨w.heap.size + 1 + 1, 0, none⟩ (.bool false) = WF at *
        refine ⟨by simp, .inl ⟨_, _, rfl, run_takeDeferred hKF, ?_⟩⟩
        have y1 := blk_putO z1 (show D ≠ w.heap.size + 1 by omega) (.deferred none)
        have y2 := blk_putO z2 (show D ≠ w.heap.size + 1 + 1 by omega) (.deferred none)
        have r0 := blk_cell y1 0 _ rfl
        have r1 := blk_cell y1 1 _ rfl
        have r2 := blk_cell y1 2 _ rfl
        have r3 := blk_cell y2 0 _ rfl
        refine ⟨.tuple #[.agg #[.int .i64 0, .int .i64 0, .int .i64 0], .bool false], by simp [results, Tryz.f44, go_sem, r0, r1, r2, r3], by rw [HE.out], zb.trans (belowK_b (w := w) (Nat.le_refl _) _ D _ _ (by omega) hKF rfl rfl)⟩
  case stop =>
    rintro D c pre W hD ⟨k, hk, hpre⟩ ⟨⟨hEx, hT⟩, hb⟩ hK
    obtain ⟨rfl, p, x, j, hpx, h1, hj, h2, h3, hS⟩ := hEx
    have h1' : ∀ j, j < x.1 → rowE a b j = false := fun j hj => h1 j (by rw [upE_last hk (hpx ▸ hpre)]; exact List.mem_range.2 hj)
    have HE : Hid (conT a b = (1, (x.1 : Int), (j : Int), true)) := Lib.hid (by unfold conT; rw [firstI_some x.2 h1' (rowE_yes hj h3), if_pos (by omega), Int.toNat_natCast, firstI_some hj h2 h3])
    clear h1' h2 h1 h3 hpx hpre
    gi_wp2
    refine ⟨by simp, .inl ⟨_, _, rfl, run_takeDeferred hK, ?_⟩⟩
    have y1 := blk_putO hS (show D ≠ w.heap.size + 1 by omega) (.deferred none)
    have y2 := blk_putO hT (show D ≠ w.heap.size + 1 + 1 by omega) (.deferred none)
    have r0 := blk_cell y1 0 _ rfl
    have r1 := blk_cell y1 1 _ rfl
    have r2 := blk_cell y1 2 _ rfl
    have r3 := blk_cell y2 0 _ rfl
    refine ⟨.tuple #[.agg #[.int .i64 1, .int .i64 (x.1 : Int), .int .i64 (j : Int)], .bool true], by simp [results, Tryz.f44, go_sem, r0, r1, r2, r3], by rw [HE.out], hb.trans (belowK_b (w := w) (Nat.le_refl _) _ D _ _ (by omega) hK rfl rfl)⟩
end Go.Proofs.YtalhkcmlacppjaaGreatDoor

namespace Go.Proofs.YtalhkcmlacppjaaGreatDoor
open Go.ChangeShapes Go.WideShapes Go.ChangeAt Go.RowKit
set_option linter.unusedVariables false
set_option linter.unusedSimpArgs false

theorem conT_touch (a b : List (Int × Int)) : (conT a b).2.2.2 = touchB a b := by
  have f : ∀ (p : Nat → Bool) (n : Nat), decide (0 ≤ firstI p n) = (List.range n).any p := fun p n => by
    rcases firstI_cases p n with ⟨e, h⟩ | ⟨k, hk, e, h, _⟩
    · rw [e, List.any_eq_false.2 fun j hj => by rw [h j (List.mem_range.1 hj)]; simp]; rfl
    · rw [e, List.any_eq_true.2 ⟨k, List.mem_range.2 hk, h⟩, decide_eq_true (by omega)]
  have e1 : decide (0 ≤ firstI (rowE a b) a.length) = anyE a b := f _ _
  have e2 : decide (0 ≤ firstI (inC a b) a.length) = anyC a b := f _ _
  have e3 : decide (0 ≤ firstI (inC b a) b.length) = anyC b a := f _ _
  unfold touchB conT
  rw [← e1, ← e2, ← e3]
  by_cases g1 : 0 ≤ firstI (rowE a b) a.length
  · rw [if_pos g1, decide_eq_true g1]; rfl
  · rw [if_neg g1, decide_eq_false g1]
    by_cases g2 : 0 ≤ firstI (inC a b) a.length
    · rw [if_pos g2, decide_eq_true g2]; rfl
    · rw [if_neg g2, decide_eq_false g2]
      by_cases g3 : 0 ≤ firstI (inC b a) b.length
      · rw [if_pos g3, decide_eq_true g3]; rfl
      · rw [if_neg g3, decide_eq_false g3]; rfl
theorem contact_is (ao bo : Option Addr) (n m ca cb : Nat) (a b : List (Int × Int)) (k i j : Int) (t : Bool) (w : World) (hn : a.length = n) (hm : b.length = m) (hc : Hid (conT a b = (k, i, j, t))) (h0 : 0 < n) (h0' : 0 < m) (hle : n ≤ 12) (hle' : m ≤ 12) (hA : PRow w ao a) (hB : PRow w bo b) (va : AllR2 a) (vb : AllR2 b) :
    Calls Tryz.prog 44 #[.slice ao n ca, .slice bo m cb] w fun e w' => e = .returned (.tuple #[.agg #[.int .i64 k, .int .i64 i, .int .i64 j], .bool t]) ∧ Below w.heap.size w w' := by
  subst hn hm
  have := contact_any ao bo ca cb a b w h0 h0' hle hle' hA hB va vb
  rw [hc.out] at this
  exact this
theorem polygons_is (ao bo : Option Addr) (n m ca cb : Nat) (a b : List (Int × Int)) (t : Bool) (w : World) (hn : a.length = n) (hm : b.length = m) (ht : Hid (touchB a b = t)) (h0 : 0 < n) (h0' : 0 < m) (hle : n ≤ 12) (hle' : m ≤ 12) (hA : PRow w ao a) (hB : PRow w bo b) (va : AllR2 a) (vb : AllR2 b) :
    Calls Tryz.prog 15 #[.slice ao n ca, .slice bo m cb] w fun e w' => e = .returned (.bool t) ∧ Below w.heap.size w w' := by
  obtain ⟨k, i, j, s, hc⟩ : ∃ k i j s, conT a b = (k, i, j, s) := ⟨_, _, _, _, rfl⟩
  have hs : s = t := by rw [← ht.out, ← conT_touch, hc]
  subst hs
  have HC := Lib.hid hc
  clear hc ht
  go_enter Tryz.func15, Tryz.ntmps15
  go_wp2_with (go_at_call 44; refine (contact_is ao bo n m ca cb a b k i j s _ hn hm HC h0 h0' hle hle' hA hB va vb).mono ?_; rintro e w1 ⟨rfl, hb⟩)
  go_ret
  exact ⟨rfl, belA hb _⟩

theorem vparts {ps : List (Int × Int)} (h : validP ps = true) : 3 ≤ ps.length ∧ ps.length ≤ 12 ∧ AllV ps := by
  unfold validP at h
  rw [Bool.and_eq_true] at h
  exact (validC_iff ps).1 h.1
end Go.Proofs.YtalhkcmlacppjaaGreatDoor

