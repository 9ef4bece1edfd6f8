/- Contract of package intersect: SeparatingEdge. Conditions: the slices read as the lists say; the coordinates are in range. -/
import Derived.Test.YtojfonenpplahaaIxC
namespace Go.Proofs.Ytojfonenpplahaa
open Go.ChangeShapes Go.WideShapes Go.ChangeAt Go.RowKit
attribute [local go_sem] Oper.semAt_some
set_option linter.unusedVariables false
set_option linter.unusedSimpArgs false

/-- What SeparatingEdge returns: the polygon, the edge, whether there is one. -/
def sepT (a b : List (Int × Int)) : Int × Int × Bool := if 0 ≤ firstI (rightB a b) a.length then (0, firstI (rightB a b) a.length, true) else if 0 ≤ firstI (rightB b a) b.length then (1, firstI (rightB b a) b.length, true) else (0, 0, false)
theorem upE_last {n k : Nat} {h : 0 < n} {p : List {i : Nat // i < n}} {x : {i : Nat // i < n}} (hk : k ≤ n) (e : p ++ [x] = upE n h k) : vals p = List.range x.1 := by
  have e2 : vals p ++ [x.1] = List.range k := by rw [← vals_snoc, e]; exact upE_vals n h k hk
  match k with
  | 0 => simp at e2
  | k + 1 =>
    rw [List.range_succ] at e2
    obtain ⟨q1, q2⟩ := List.append_inj' e2 rfl
    have : x.1 = k := by simpa using q2
    rw [this]
    exact q1
theorem def_own {β : Type} {D B : Nat} (h : D < B) (o : Obj) : OwnFrom B (fun (_ : β) W => W.heap[D]? = some o) := fun s X Y row hs hg hr => (hg.block D (blk_lt hs) (fun e => by have := (hr D e.symm).1; omega)).trans hs

theorem blk_keep {B b : Nat} {vs : Array Value} {T : TypeId} {X Y : World} {row : Option Nat} (h : X.heap[b]? = some (.cells vs T (0, 0))) (hg : X.grownBy Y row) (hr : ∀ r, row = some r → B ≤ r ∧ ∃ o : Obj, X.heap[r]? = some o ∧ o.isCells = false) : Y.heap[b]? = some (.cells vs T (0, 0)) :=
  (hg.block b (blk_lt h) (fun e => by obtain ⟨_, o, ho, hc⟩ := hr b e.symm; rw [h] at ho; cases ho; cases hc)).trans h

theorem three_set {w2 : World} {S T n B : Nat} {u0 u1 b0 x0 x1 y : Value} {TS TT : TypeId} (hS : w2.heap[S]? = some (.cells #[u0, u1] TS (0, 0))) (hT : w2.heap[T]? = some (.cells #[b0] TT (0, 0))) (hne : T ≠ S) (h1 : n ≤ S) (h2 : n ≤ T) :
    (((w2.setCell ⟨S, 0, none⟩ x0).setCell ⟨S, 1, none⟩ x1).setCell ⟨T, 0, none⟩ y).heap[S]? = some (.cells #[x0, x1] TS (0, 0)) ∧ (((w2.setCell ⟨S, 0, none⟩ x0).setCell ⟨S, 1, none⟩ x1).setCell ⟨T, 0, none⟩ y).heap[T]? = some (.cells #[y] TT (0, 0)) ∧
    Below n w2 (((w2.setCell ⟨S, 0, none⟩ x0).setCell ⟨S, 1, none⟩ x1).setCell ⟨T, 0, none⟩ y) ∧ KeepsFrom B w2 (((w2.setCell ⟨S, 0, none⟩ x0).setCell ⟨S, 1, none⟩ x1).setCell ⟨T, 0, none⟩ y) :=
  ⟨blk_other (blk_set (blk_set hS x0) x1) hne y, blk_set (blk_other (blk_other hT (Ne.symm hne) _) (Ne.symm hne) _) y, (((Below.refl _ _).setCell h1 _).setCell h1 _).setCell h2 _, ((KeepsOthers.setCell _ _ _).from _).trans (((KeepsOthers.setCell _ _ _).from _).trans ((KeepsOthers.setCell _ _ _).from _))⟩
theorem blk_putO {W : World} {b D : Nat} {x : Obj} (h : W.heap[b]? = some x) (hne : D ≠ b) (o : Obj) : (W.putObj D o).heap[b]? = some x := (World.putObj_heap_other (fun e => hne (by omega))).trans h
theorem two_marks {fn : Func} {tmps : Array Value} {R : Ending → World → Prop} {P : Program} {F : Fence} {n : Nat} {W : World} {D1 D2 : Nat} (h2 : W.heap[D2]? = some (.deferred (some []))) (h1 : W.heap[D1]? = some (.deferred (some []))) (hne : D2 ≠ D1) (hR : LeavesIn F n P fn tmps R [] .returning ((W.putObj D2 (.deferred none)).putObj D1 (.deferred none))) :
    LeavesInM F n P fn tmps R [{ target := .collected D2, args := #[] }, { target := .collected D1, args := #[] }] .returning W :=
  ⟨by simp, .inl ⟨D2, _, rfl, run_takeDeferred h2, by simp, .inl ⟨D1, _, rfl, run_takeDeferred (blk_putO h1 hne _), hR⟩⟩⟩

/-- The way out: the first edge with the other polygon on its right. -/
def SepEx (a b : List (Int × Int)) (s : Nat) (o : Int) (c : Code) (pre : List {i : Nat // i < a.length}) (W : World) : Prop :=
  c = .ret ∧ ∃ p x, pre = p ++ [x] ∧ (∀ i ∈ vals p, rightB a b i = false) ∧ rightB a b x.1 = true ∧ W.heap[s]? = some (.cells #[.int .i64 o, .int .i64 (x.1 : Int)] 35 (0, 0))
theorem sepEx_own (B : Nat) (a b : List (Int × Int)) (s : Nat) (o : Int) (c : Code) : OwnFrom B (SepEx a b s o c) := by
  intro pre X Y row h hg hr
  obtain ⟨hc, p, x, h1, h2, h3, h4⟩ := h
  exact ⟨hc, p, x, h1, h2, h3, blk_keep h4 hg hr⟩

set_option maxRecDepth 100000 in
set_option maxHeartbeats 16000000 in
theorem sepedge_any (ao bo : Option Addr) (ca cb : Nat) (a b : List (Int × Int)) (w : World) (h0 : 0 < a.length) (h0' : 0 < b.length) (hle : a.length ≤ 1000000) (hle' : b.length ≤ 1000000) (hA : PRow w ao a) (hB : PRow w bo b) (va : AllR2 a) (vb : AllR2 b) :
    Calls Try.prog 34 #[.slice ao a.length ca, .slice bo b.length cb] w fun e w' => e = .returned (.tuple #[.agg #[.int .i64 (sepT a b).1, .int .i64 (sepT a b).2.1], .bool (sepT a b).2.2]) ∧ Below w.heap.size w w' := by
  refine (callsIn_wide (n := 5)).1 ?_
  refine callsIn_of_wp_marks Try.func34 rfl trivial ?_ rfl
  simp only [Try.ntmps34, List.size_toArray, List.length_cons, List.length_nil, Nat.reduceAdd, Nat.reduceSub, Array.replicate_succ, Array.replicate_zero, List.push_toArray, List.append_toArray, List.nil_append, List.cons_append]
  gi_wp2_with (refine ⟨trivial, ?_⟩; gi_at_call 60; refine (callsIn_wide.2 (iedges_is ao a.length ca _)).mono ?_; rintro e w' ⟨rfl, rfl⟩)
  obtain ⟨W0, hW0⟩ : ∃ W0, ((((w.alloc (.cells #[.slice ao a.length ca] 23)).alloc (.cells #[.slice bo b.length cb] 23)).alloc (.cells #[.int .i64 0, .int .i64 0] 35)).alloc (.cells #[.bool false] 4)).alloc (.cells #[.slice ao a.length ca] 23) = W0 := ⟨_, rfl⟩
  have hA0 : W0.heap[w.heap.size]? = some (.cells #[.slice ao a.length ca] 23 (0, 0)) := by rw [← hW0]; exact blk_alloc (blk_alloc (blk_alloc (blk_alloc (blk_new _ _ _ rfl) _) _) _) _
  have hB0 : W0.heap[w.heap.size + 1]? = some (.cells #[.slice bo b.length cb] 23 (0, 0)) := by rw [← hW0]; exact blk_alloc (blk_alloc (blk_alloc (blk_new _ _ _ (by simp)) _) _) _
  have hS0 : W0.heap[w.heap.size + 1 + 1]? = some (.cells #[.int .i64 0, .int .i64 0] 35 (0, 0)) := by rw [← hW0]; exact blk_alloc (blk_alloc (blk_new _ _ _ (by simp)) _) _
  have hT0 : W0.heap[w.heap.size + 1 + 1 + 1]? = some (.cells #[.bool false] 4 (0, 0)) := by rw [← hW0]; exact blk_alloc (blk_new _ _ _ (by simp)) _
  have hN0 : W0.heap[w.heap.size + 1 + 1 + 1 + 1]? = some (.cells #[.slice ao a.length ca] 23 (0, 0)) := by rw [← hW0]; exact blk_new _ _ _ (by simp)
  have hb0 : Below w.heap.size w W0 := by rw [← hW0]; exact belA (belA (belA (belA (belA (Below.refl _ _) _) _) _) _) _
  have hsz : w.heap.size + 1 + 1 + 1 + 1 < W0.heap.size := by rw [← hW0]; simp
  rw [hW0]
  clear hW0
  refine wpIn_rangeFunc_ownH rfl (by omega) (gf := 104) (lb := #[.pointer (some ⟨w.heap.size + 1 + 1 + 1 + 1, 0, none⟩)]) rfl trivial (enters_of Try.func104 (by kernel_rfl) rfl)
    (iedges_stops (5 - 1) (by omega) (w.heap.size + 1 + 1 + 1 + 1) ao ca a w W0 h0 hle hA hb0 hN0) kpE_t (kpE_b (by omega) (by omega)) (Below.refl _ _) (fun _ => rfl)
    (fun pre W => (((((∀ i ∈ vals pre, rightB a b i = false) ∧ W.heap[w.heap.size]? = some (.cells #[.slice ao a.length ca] 23 (0, 0))) ∧ W.heap[w.heap.size + 1]? = some (.cells #[.slice bo b.length cb] 23 (0, 0))) ∧ W.heap[w.heap.size + 1 + 1]? = some (.cells #[.int .i64 0, .int .i64 0] 35 (0, 0))) ∧ W.heap[w.heap.size + 1 + 1 + 1]? = some (.cells #[.bool false] 4 (0, 0))) ∧ Below w.heap.size w W ∧ W0.heap.size ≤ W.heap.size)
    (fun c pre W => (SepEx a b (w.heap.size + 1 + 1) 0 c pre W ∧ W.heap[w.heap.size + 1 + 1 + 1]? = some (.cells #[.bool true] 4 (0, 0))) ∧ Below w.heap.size w W)
    (OwnFrom.and (OwnFrom.and (OwnFrom.and (OwnFrom.and (OwnFrom.and (ownFrom_pure _ _) (Own.from (blk_own _ _ (fun _ => rfl)) _)) (Own.from (blk_own _ _ (fun _ => rfl)) _)) (Own.from (blk_own _ _ (fun _ => rfl)) _)) (Own.from (blk_own _ _ (fun _ => rfl)) _)) (OwnFrom.and (ownFrom_below (Nat.le_refl _) (by omega)) (own_size _ _)))
    (fun c => OwnFrom.and (OwnFrom.and (sepEx_own _ a b (w.heap.size + 1 + 1) 0 c) (Own.from (blk_own _ _ (fun _ => rfl)) _)) (ownFrom_below (Nat.le_refl _) (by omega)))
    ⟨⟨⟨⟨⟨by simp [vals], hA0⟩, hB0⟩, hS0⟩, hT0⟩, hb0, Nat.le_refl _⟩
    (fun x a' W => ∃ Bx, W0.heap.size ≤ Bx ∧ W.heap[Bx]? = some (.cells #[.int .i64 (cx a x.1), .int .i64 (cy a x.1), .int .i64 (cx a (nx a.length x.1)), .int .i64 (cy a (nx a.length x.1))] 72 (0, 0)) ∧ a' = { tmps := #[.slice ao a.length ca, .slice bo b.length cb, .pointer (some ⟨w.heap.size, 0, none⟩), .pointer (some ⟨w.heap.size + 1, 0, none⟩), .pointer (some ⟨w.heap.size + 1 + 1, 0, none⟩), .pointer (some ⟨w.heap.size + 1 + 1 + 1, 0, none⟩), .int .i64 (x.1 : Int), .pointer (some ⟨Bx, 0, none⟩), undef, undef, .slice ao a.length ca, .func (.func 104) #[] #[.pointer (some ⟨w.heap.size + 1 + 1 + 1 + 1, 0, none⟩)], .int .i64 (x.1 : Int), .agg #[.int .i64 (cx a x.1), .int .i64 (cy a x.1), .int .i64 (cx a (nx a.length x.1)), .int .i64 (cy a (nx a.length x.1))], undef, undef, undef, undef, undef, undef, undef, undef, undef, undef, undef, undef, undef, undef, undef], defers := [] })
    (fun x a' => fun _ X Y row ⟨Bx, h1, h2, h3⟩ hg hr => ⟨Bx, h1, (blk_own Bx (fun (_ : Unit) => .cells #[.int .i64 (cx a x.1), .int .i64 (cy a x.1), .int .i64 (cx a (nx a.length x.1)), .int .i64 (cy a (nx a.length x.1))] 72 (0, 0)) (fun _ => rfl)).from _ () X Y row h2 hg hr, h3⟩)
    ?assign ?body ?done ?stop
  case assign =>
    rintro l pre x W K ⟨⟨⟨⟨⟨hp, hA1⟩, hB1⟩, hS⟩, hT⟩, hb, hz⟩ hK
    rw [show encE a x = #[.int .i64 (x.1 : Int), .agg #[.int .i64 (cx a x.1), .int .i64 (cy a x.1), .int .i64 (cx a (nx a.length x.1)), .int .i64 (cy a (nx a.length x.1))]] from rfl]
    gi_wp2
    exact hK _ _ ((KeepsOthers.alloc _ _).from _) (kpE_alloc _ hb.size (by omega)) ⟨⟨⟨⟨⟨hp, blk_alloc hA1 _⟩, blk_alloc hB1 _⟩, blk_alloc hS _⟩, blk_alloc hT _⟩, belA hb _, by simp; omega⟩ ⟨W.heap.size, hz, blk_new _ _ _ rfl, rfl⟩
  case body =>
    rintro l pre x a' W hl ⟨rl, hrl⟩ ⟨⟨⟨⟨⟨hp, hA1⟩, hB1⟩, hS⟩, hT⟩, hb, hz⟩ ⟨Bx, hBx, hx, rfl⟩ hlen
    have hxl := x.2
    obtain ⟨t, ht⟩ : ∃ t, rightB a b x.1 = t := ⟨_, rfl⟩
    have HT := Lib.hid ht
    have HP := Lib.hid hp
    have hB' := prow_below hB hb
    obtain ⟨x1, q1⟩ : ∃ v, cx a x.1 = v := ⟨_, rfl⟩
    obtain ⟨x2, q2⟩ : ∃ v, cy a x.1 = v := ⟨_, rfl⟩
    obtain ⟨y1, q3⟩ : ∃ v, cx a (nx a.length x.1) = v := ⟨_, rfl⟩
    obtain ⟨y2, q4⟩ : ∃ v, cy a (nx a.length x.1) = v := ⟨_, rfl⟩
    have C := onright_is bo b.length cb x.1 a b x1 x2 y1 y2 t W rfl hxl (Lib.hid q1) (Lib.hid q2) (Lib.hid q3) (Lib.hid q4) HT hle' hB' vb va
    rw [q1, q2, q3, q4] at hx ⊢
    clear q1 q2 q3 q4
    have k0 := blk_cell hx 0 _ rfl
    have k1 := blk_cell hx 1 _ rfl
    have k2 := blk_cell hx 2 _ rfl
    have k3 := blk_cell hx 3 _ rfl
    have kb := blk_cell hB1 0 _ rfl
    clear ht hp hB'
    cases t
    · gi_wp2_with (refine ⟨trivial, ?_⟩; gi_at_call 65; refine (CallsIn.inRound l (callsIn_wide.2 C)).mono ?_; rintro e w2 ⟨rfl, hb2⟩)
      exact ⟨KeepsFrom.of_grownBy (grown_of_below hb2) (fun j e => by cases e), ⟨hb2.mono hb.size, hb2.block _ (by omega)⟩, ⟨⟨⟨⟨fun i hi => by
        rw [vals_snoc, List.mem_append, List.mem_singleton] at hi
        rcases hi with hi | rfl
        · exact HP.out i hi
        · exact HT.out, blk_call hA1 hb2⟩, blk_call hB1 hb2⟩, blk_call hS hb2⟩, blk_call hT hb2⟩, hb.trans (hb2.mono hb.size), Nat.le_trans hz hb2.size⟩
    · gi_wp2_with (refine ⟨trivial, ?_⟩; gi_at_call 65; refine (CallsIn.inRound l (callsIn_wide.2 C)).mono ?_; rintro e w2 ⟨rfl, hb2⟩; have hS2 := blk_call hS hb2; have hT2 := blk_call hT hb2; have s0 := blk_cell hS2 0 _ rfl; have s1 := blk_cell hS2 1 _ rfl; have t0 := blk_cell hT2 0 _ rfl; have f0 := blk_fz hS2 0; have f1 := blk_fz hS2 1; have f2 := blk_fz hT2 0)
      obtain ⟨z1, z2, z3, z4⟩ := three_set (n := w.heap.size) (B := W0.heap.size) (x0 := .int .i64 0) (x1 := .int .i64 (x.1 : Int)) (y := .bool true) hS2 hT2 (by omega) (by omega) (by omega)
      exact ⟨(KeepsFrom.of_grownBy (grown_of_below hb2) (fun j e => by cases e)).trans z4, ⟨⟨rfl, pre, x, rfl, HP.out, HT.out, z1⟩, z2⟩, (hb.trans (hb2.mono hb.size)).trans z3⟩
  case done =>
    rintro D ys W1 hD rfl ⟨⟨⟨⟨⟨hp, hA1⟩, hB1⟩, hS⟩, hT⟩, hb, hz⟩ hK
    rw [vals_upE] at hp
    have HN1 : Hid (firstI (rightB a b) a.length = -1) := Lib.hid (firstI_none fun j hj => hp j (List.mem_range.2 hj))
    clear hp hA0 hB0 hS0 hT0 hN0
    have kb := blk_cell hB1 0 _ rfl
    have hD1 := blk_lt hK
    gi_wp2_with (refine ⟨trivial, ?_⟩; gi_at_call 60; refine (callsIn_wide.2 (iedges_is bo b.length cb _)).mono ?_; rintro e w' ⟨rfl, rfl⟩)
    obtain ⟨W2, hW2⟩ : ∃ W2, W1.alloc (.cells #[.slice bo b.length cb] 23) = W2 := ⟨_, rfl⟩
    have hA2 : W2.heap[w.heap.size]? = some (.cells #[.slice ao a.length ca] 23 (0, 0)) := by rw [← hW2]; exact blk_alloc hA1 _
    have hS2 : W2.heap[w.heap.size + 1 + 1]? = some (.cells #[.int .i64 0, .int .i64 0] 35 (0, 0)) := by rw [← hW2]; exact blk_alloc hS _
    have hT2 : W2.heap[w.heap.size + 1 + 1 + 1]? = some (.cells #[.bool false] 4 (0, 0)) := by rw [← hW2]; exact blk_alloc hT _
    have hN2 : W2.heap[W1.heap.size]? = some (.cells #[.slice bo b.length cb] 23 (0, 0)) := by rw [← hW2]; exact blk_new _ _ _ rfl
    have hK2 : W2.heap[D]? = some (.deferred (some [])) := by rw [← hW2]; exact blk_alloc hK _
    have hb2 : Below w.heap.size w W2 := by rw [← hW2]; exact belA hb _
    have hsz2 : W1.heap.size < W2.heap.size := by rw [← hW2]; simp
    rw [hW2]
    clear hW2 hS hT hK hA1 hB1 kb hb
    refine wpIn_rangeFunc_ownH rfl (by omega) (gf := 104) (lb := #[.pointer (some ⟨W1.heap.size, 0, none⟩)]) rfl trivial (enters_of Try.func104 (by kernel_rfl) rfl)
      (iedges_stops (5 - 1) (by omega) W1.heap.size bo cb b w W2 h0' hle' hB hb2 hN2) kpE_t (kpE_b (by omega) (by omega)) (Below.refl _ _) (fun _ => rfl)
      (fun pre W => (((((∀ i ∈ vals pre, rightB b a i = false) ∧ W.heap[w.heap.size]? = some (.cells #[.slice ao a.length ca] 23 (0, 0))) ∧ W.heap[w.heap.size + 1 + 1]? = some (.cells #[.int .i64 0, .int .i64 0] 35 (0, 0))) ∧ W.heap[w.heap.size + 1 + 1 + 1]? = some (.cells #[.bool false] 4 (0, 0))) ∧ W.heap[D]? = some (.deferred (some []))) ∧ Below w.heap.size w W ∧ W2.heap.size ≤ W.heap.size)
      (fun c pre W => ((SepEx b a (w.heap.size + 1 + 1) 1 c pre W ∧ W.heap[w.heap.size + 1 + 1 + 1]? = some (.cells #[.bool true] 4 (0, 0))) ∧ W.heap[D]? = some (.deferred (some []))) ∧ Below w.heap.size w W)
      (OwnFrom.and (OwnFrom.and (OwnFrom.and (OwnFrom.and (OwnFrom.and (ownFrom_pure _ _) (Own.from (blk_own _ _ (fun _ => rfl)) _)) (Own.from (blk_own _ _ (fun _ => rfl)) _)) (Own.from (blk_own _ _ (fun _ => rfl)) _)) (def_own (by omega) _)) (OwnFrom.and (ownFrom_below (Nat.le_refl _) (by omega)) (own_size _ _)))
      (fun c => OwnFrom.and (OwnFrom.and (OwnFrom.and (sepEx_own _ b a (w.heap.size + 1 + 1) 1 c) (Own.from (blk_own _ _ (fun _ => rfl)) _)) (def_own (by omega) _)) (ownFrom_below (Nat.le_refl _) (by omega)))
      ⟨⟨⟨⟨⟨by simp [vals], hA2⟩, hS2⟩, hT2⟩, hK2⟩, hb2, Nat.le_refl _⟩
      (fun x a' W => ∃ Bx, W2.heap.size ≤ Bx ∧ W.heap[Bx]? = some (.cells #[.int .i64 (cx b x.1), .int .i64 (cy b x.1), .int .i64 (cx b (nx b.length x.1)), .int .i64 (cy b (nx b.length x.1))] 72 (0, 0)) ∧ a' = { tmps := #[.slice ao a.length ca, .slice bo b.length cb, .pointer (some ⟨w.heap.size, 0, none⟩), .pointer (some ⟨w.heap.size + 1, 0, none⟩), .pointer (some ⟨w.heap.size + 1 + 1, 0, none⟩), .pointer (some ⟨w.heap.size + 1 + 1 + 1, 0, none⟩), undef, undef, .int .i64 (x.1 : Int), .pointer (some ⟨Bx, 0, none⟩), .slice ao a.length ca, .func (.func 104) #[] #[.pointer (some ⟨w.heap.size + 1 + 1 + 1 + 1, 0, none⟩)], undef, undef, undef, undef, undef, undef, undef, .slice bo b.length cb, .func (.func 104) #[] #[.pointer (some ⟨W1.heap.size, 0, none⟩)], .int .i64 (x.1 : Int), .agg #[.int .i64 (cx b x.1), .int .i64 (cy b x.1), .int .i64 (cx b (nx b.length x.1)), .int .i64 (cy b (nx b.length x.1))], undef, undef, undef, undef, undef, undef], defers := [] })
      (fun x a' => fun _ X Y row ⟨Bx, h1, h2, h3⟩ hg hr => ⟨Bx, h1, blk_keep h2 hg hr, h3⟩)
      ?assign2 ?body2 ?done2 ?stop2
    case assign2 =>
      rintro l pre x W K ⟨⟨⟨⟨⟨hp, hA1⟩, hS⟩, hT⟩, hK1⟩, hb, hz2⟩ hK
      rw [show encE b x = #[.int .i64 (x.1 : Int), .agg #[.int .i64 (cx b x.1), .int .i64 (cy b x.1), .int .i64 (cx b (nx b.length x.1)), .int .i64 (cy b (nx b.length x.1))]] from rfl]
      gi_wp2
      exact hK _ _ ((KeepsOthers.alloc _ _).from _) (kpE_alloc _ hb.size (by omega)) ⟨⟨⟨⟨⟨hp, blk_alloc hA1 _⟩, blk_alloc hS _⟩, blk_alloc hT _⟩, blk_alloc hK1 _⟩, belA hb _, by simp; omega⟩ ⟨W.heap.size, hz2, blk_new _ _ _ rfl, rfl⟩
    case body2 =>
      rintro l pre x a' W hl ⟨rl, hrl⟩ ⟨⟨⟨⟨⟨hp, hA1⟩, hS⟩, hT⟩, hK1⟩, hb, hz2⟩ ⟨Bx, hBx, hx, rfl⟩ hlen
      have hxl := x.2
      obtain ⟨t, ht⟩ : ∃ t, rightB b a x.1 = t := ⟨_, rfl⟩
      have HT := Lib.hid ht
      have HP := Lib.hid hp
      have hA' := prow_below hA hb
      obtain ⟨x1, q1⟩ : ∃ v, cx b x.1 = v := ⟨_, rfl⟩
      obtain ⟨x2, q2⟩ : ∃ v, cy b x.1 = v := ⟨_, rfl⟩
      obtain ⟨y1, q3⟩ : ∃ v, cx b (nx b.length x.1) = v := ⟨_, rfl⟩
      obtain ⟨y2, q4⟩ : ∃ v, cy b (nx b.length x.1) = v := ⟨_, rfl⟩
      have C := onright_is ao a.length ca x.1 b a x1 x2 y1 y2 t W rfl hxl (Lib.hid q1) (Lib.hid q2) (Lib.hid q3) (Lib.hid q4) HT hle hA' va vb
      rw [q1, q2, q3, q4] at hx ⊢
      clear q1 q2 q3 q4
      have k0 := blk_cell hx 0 _ rfl
      have k1 := blk_cell hx 1 _ rfl
      have k2 := blk_cell hx 2 _ rfl
      have k3 := blk_cell hx 3 _ rfl
      have kb := blk_cell hA1 0 _ rfl
      clear ht hp hA'
      cases t
      · gi_wp2_with (refine ⟨trivial, ?_⟩; gi_at_call 65; refine (CallsIn.inRound l (callsIn_wide.2 C)).mono ?_; rintro e w2 ⟨rfl, hb3⟩)
        exact ⟨KeepsFrom.of_grownBy (grown_of_below hb3) (fun j e => by cases e), ⟨hb3.mono hb.size, hb3.block _ (by omega)⟩, ⟨⟨⟨⟨fun i hi => by
          rw [vals_snoc, List.mem_append, List.mem_singleton] at hi
          rcases hi with hi | rfl
          · exact HP.out i hi
          · exact HT.out, blk_call hA1 hb3⟩, blk_call hS hb3⟩, blk_call hT hb3⟩, blk_call hK1 hb3⟩, hb.trans (hb3.mono hb.size), Nat.le_trans hz2 hb3.size⟩
      · gi_wp2_with (refine ⟨trivial, ?_⟩; gi_at_call 65; refine (CallsIn.inRound l (callsIn_wide.2 C)).mono ?_; rintro e w2 ⟨rfl, hb3⟩; have hS3 := blk_call hS hb3; have hT3 := blk_call hT hb3; have s0 := blk_cell hS3 0 _ rfl; have s1 := blk_cell hS3 1 _ rfl; have t0 := blk_cell hT3 0 _ rfl; have f0 := blk_fz hS3 0; have f1 := blk_fz hS3 1; have f2 := blk_fz hT3 0)
        obtain ⟨z1, z2, z3, z4⟩ := three_set (n := w.heap.size) (B := W2.heap.size) (x0 := .int .i64 1) (x1 := .int .i64 (x.1 : Int)) (y := .bool true) hS3 hT3 (by omega) (by omega) (by omega)
        have hK3 := blk_other (blk_other (blk_other (blk_call hK1 hb3) (c := w.heap.size + 1 + 1) (j := 0) (by omega) (.int .i64 1)) (c := w.heap.size + 1 + 1) (j := 1) (by omega) (.int .i64 (x.1 : Int))) (c := w.heap.size + 1 + 1 + 1) (j := 0) (by omega) (.bool true)
        exact ⟨(KeepsFrom.of_grownBy (grown_of_below hb3) (fun j e => by cases e)).trans z4, ⟨⟨⟨rfl, pre, x, rfl, HP.out, HT.out, z1⟩, z2⟩, hK3⟩, (hb.trans (hb3.mono hb.size)).trans z3⟩
    case done2 =>
      rintro D2 ys W hD2 rfl ⟨⟨⟨⟨⟨hp, hA1⟩, hS⟩, hT⟩, hK1⟩, hb, hz2⟩ hK
      rw [vals_upE] at hp
      have HN2 : Hid (firstI (rightB b a) b.length = -1) := Lib.hid (firstI_none fun j hj => hp j (List.mem_range.2 hj))
      have HE : Hid (sepT a b = (0, 0, false)) := Lib.hid (by unfold sepT; rw [HN1.out, HN2.out]; rfl)
      have s0 := blk_cell hS 0 _ rfl
      have s1 := blk_cell hS 1 _ rfl
      have t0 := blk_cell hT 0 _ rfl
      have f0 := blk_fz hS 0
      have f1 := blk_fz hS 1
      have f2 := blk_fz hT 0
      clear hp
      gi_wp2
      obtain ⟨z1, z2, z3, z4⟩ := three_set (n := w.heap.size) (B := W2.heap.size) (x0 := .int .i64 0) (x1 := .int .i64 0) (y := .bool false) hS hT (by omega) (by omega) (by omega)
      have hKF2 := blk_other (blk_other (blk_other hK (c := w.heap.size + 1 + 1) (j := 0) (by omega) (.int .i64 0)) (c := w.heap.size + 1 + 1) (j := 1) (by omega) (.int .i64 0)) (c := w.heap.size + 1 + 1 + 1) (j := 0) (by omega) (.bool false)
      have hKF1 := blk_other (blk_other (blk_other hK1 (c := w.heap.size + 1 + 1) (j := 0) (by omega) (.int .i64 0)) (c := w.heap.size + 1 + 1) (j := 1) (by omega) (.int .i64 0)) (c := w.heap.size + 1 + 1 + 1) (j := 0) (by omega) (.bool false)
      have zb := hb.trans z3
      clear z4 z3
      generalize ((W.setCell ⟨w.heap.size + 1 + 1, 0, none⟩ (.int .i64 0)).setCell ⟨w.heap.size + 1 + 1, 1, none⟩ (.int .i64 0)).setCell ⟨w.heap.size + 1 + 1 + 1, 0, none⟩ (.bool false) = WF at *
      refine two_marks hKF2 hKF1 (by omega) ?_
      have y1 := blk_putO (blk_putO z1 (show D2 ≠ w.heap.size + 1 + 1 by omega) (.deferred none)) (show D ≠ w.heap.size + 1 + 1 by omega) (.deferred none)
      have y2 := blk_putO (blk_putO z2 (show D2 ≠ w.heap.size + 1 + 1 + 1 by omega) (.deferred none)) (show D ≠ w.heap.size + 1 + 1 + 1 by omega) (.deferred none)
      have r0 := blk_cell y1 0 _ rfl
      have r1 := blk_cell y1 1 _ rfl
      have r2 := blk_cell y2 0 _ rfl
      refine ⟨.tuple #[.agg #[.int .i64 0, .int .i64 0], .bool false], by simp [results, Try.f34, go_sem, r0, r1, r2], by rw [HE.out], (zb.trans (belowK_b (w := w) (Nat.le_refl _) _ D2 _ _ (by omega) hKF2 rfl rfl)).trans (belowK_b (w := w) (Nat.le_refl _) _ D _ _ (by omega) (blk_putO hKF1 (by omega) _) rfl rfl)⟩
    case stop2 =>
      rintro D2 c pre W hD2 ⟨k, hk, hpre⟩ ⟨⟨⟨hEx, hT⟩, hK1⟩, hb⟩ hK
      obtain ⟨rfl, p, x, hpx, h1, h2, z1⟩ := hEx
      have z2 := hT
      have h1' : ∀ j, j < x.1 → rightB b a j = false := fun j hj => h1 j (by rw [upE_last hk (hpx ▸ hpre)]; exact List.mem_range.2 hj)
      have HE : Hid (sepT a b = (1, (x.1 : Int), true)) := Lib.hid (by unfold sepT; rw [HN1.out, firstI_some x.2 h1' h2, if_neg (by omega), if_pos (by omega)])
      have hKF2 := hK
      have hKF1 := hK1
      have zb := hb
      clear h1' h2 h1 hpx hpre
      gi_wp2
      refine two_marks hKF2 hKF1 (by omega) ?_
      have y1 := blk_putO (blk_putO z1 (show D2 ≠ w.heap.size + 1 + 1 by omega) (.deferred none)) (show D ≠ w.heap.size + 1 + 1 by omega) (.deferred none)
      have y2 := blk_putO (blk_putO z2 (show D2 ≠ w.heap.size + 1 + 1 + 1 by omega) (.deferred none)) (show D ≠ w.heap.size + 1 + 1 + 1 by omega) (.deferred none)
      have r0 := blk_cell y1 0 _ rfl
      have r1 := blk_cell y1 1 _ rfl
      have r2 := blk_cell y2 0 _ rfl
      refine ⟨.tuple #[.agg #[.int .i64 1, .int .i64 (x.1 : Int)], .bool true], by simp [results, Try.f34, go_sem, r0, r1, r2], by rw [HE.out], (zb.trans (belowK_b (w := w) (Nat.le_refl _) _ D2 _ _ (by omega) hKF2 rfl rfl)).trans (belowK_b (w := w) (Nat.le_refl _) _ D _ _ (by omega) (blk_putO hKF1 (by omega) _) rfl rfl)⟩
  case stop =>
    rintro D c pre W hD ⟨k, hk, hpre⟩ ⟨⟨hEx, hT⟩, hb⟩ hK
    obtain ⟨rfl, p, x, hpx, h1, h2, hS⟩ := hEx
    have h1' : ∀ j, j < x.1 → rightB a b j = false := fun j hj => h1 j (by rw [upE_last hk (hpx ▸ hpre)]; exact List.mem_range.2 hj)
    have HE : Hid (sepT a b = (0, (x.1 : Int), true)) := Lib.hid (by unfold sepT; rw [firstI_some x.2 h1' h2, if_pos (by omega)])
    clear h1' h2 h1 hpx hpre
    gi_wp2
    refine ⟨by simp, .inl ⟨_, _, rfl, run_takeDeferred hK, ?_⟩⟩
    have y1 := blk_putO hS (show D ≠ w.heap.size + 1 + 1 by omega) (.deferred none)
    have y2 := blk_putO hT (show D ≠ w.heap.size + 1 + 1 + 1 by omega) (.deferred none)
    have r0 := blk_cell y1 0 _ rfl
    have r1 := blk_cell y1 1 _ rfl
    have r2 := blk_cell y2 0 _ rfl
    refine ⟨.tuple #[.agg #[.int .i64 0, .int .i64 (x.1 : Int)], .bool true], by simp [results, Try.f34, go_sem, r0, r1, r2], by rw [HE.out], hb.trans (belowK_b (w := w) (Nat.le_refl _) _ D _ _ (by omega) hK rfl rfl)⟩
end Go.Proofs.Ytojfonenpplahaa
