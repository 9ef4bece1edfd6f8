/- Helpers: what the law reaches. -/
import Derived.Test.YtalhkcmlacppjaaGreatDoorZlHlB
import Derived.Test.YtalhkcmlacppjaaGreatDoorZlHlL
import Derived.Test.YtalhkcmlacppjaaGreatDoorZlHuC
namespace Go.Proofs.YtalhkcmlacppjaaGreatDoor
open Go.ChangeShapes Go.WideShapes Go.ChangeAt Go.RowKit
attribute [local go_sem] Oper.semAt_some
set_option linter.unusedVariables false
set_option linter.unusedSimpArgs false

theorem values_is (ao : Option Addr) (n cap : Nat) (w : World) :
    Calls Tryz.prog 46 #[.slice ao n cap] w fun e w' => e = .returned (.func (.func 84) #[] #[.pointer (some ⟨w.heap.size, 0, none⟩)]) ∧ w' = w.alloc (.cells #[.slice ao n cap] 29) := by
  go_enter Tryz.func46, Tryz.ntmps46
  go_wp2
  go_ret
  exact ⟨rfl, rfl⟩

/-- What yield is handed. -/
def encY (x : Int × Int) : Array Value := #[.agg #[.int .i64 x.1, .int .i64 x.2]]
theorem take_gp (ps : List (Int × Int)) (k : Nat) (h : k < ps.length) : ps.take (k + 1) = ps.take k ++ [(cx ps k, cy ps k)] := by
  rw [List.take_succ_eq_append_getElem h]
  congr 2
  show ps[k] = (_, _)
  unfold cx cy
  rw [List.getD_eq_getElem?_getD, List.getElem?_eq_getElem h]
  rfl

set_option maxRecDepth 100000 in
set_option maxHeartbeats 4000000 in
theorem values1_in (n : Nat) (hn : 1 ≤ n) (l Bs : Nat) (ao : Option Addr) (cap : Nat) (ps : List (Int × Int)) (w0 : World) (hle : ps.length ≤ 1000000) (hP : PRow w0 ao ps) (J Jx : List (Int × Int) → World → Prop)
    (hJ : ∀ pre W W', J pre W → Below W.heap.size W W' → J pre W')
    (hY : ∀ pre x W, J pre W → pre.length < ps.length → YieldAt Fence.wide (n - 1) Tryz.prog l (encY x) W fun e W' =>
      (e = .returned (.bool true) ∧ J (pre ++ [x]) W' ∧ KpE w0.heap.size Bs W W') ∨ (e = .returned (.bool false) ∧ Jx (pre ++ [x]) W'))
    (W : World) (hW : Below w0.heap.size w0 W) (hBs : W.heap[Bs]? = some (.cells #[.slice ao ps.length cap] 29 (0, 0))) (hJ0 : J [] W) :
    CallsIn Fence.wide n Tryz.prog 84 #[.func (.yield l) #[] #[], .pointer (some ⟨Bs, 0, none⟩)] W fun e W' => (∃ v, e = .returned v) ∧
      ((∃ ys, ys = ps ∧ J ys W') ∨ (∃ pre, (∃ k, k ≤ ps.length ∧ pre = ps.take k) ∧ Jx pre W')) := by
  have cB := blk_cell hBs 0 _ rfl
  refine callsIn_of_wp Tryz.func84 rfl trivial ?_ rfl
  simp only [Tryz.ntmps84, List.size_toArray, List.length_cons, List.length_nil, Nat.reduceAdd, Nat.reduceSub, Array.replicate_succ, Array.replicate_zero, List.push_toArray, List.append_toArray, List.nil_append, List.cons_append]
  gi_wp2
  gi_loopw [7] (fun i wr => ∃ k : Nat, k ≤ ps.length ∧ i = .int .i64 k ∧ J (ps.take k) wr ∧ Below w0.heap.size w0 wr ∧ wr.heap[Bs]? = some (.cells #[.slice ao ps.length cap] 29 (0, 0)))
    (fun i _ => ps.length - (intOf i).toNat)
  case atStart => exact ⟨0, Nat.zero_le _, rfl, hJ0, hW, hBs⟩
  case round =>
    obtain ⟨k, hk, rfl, hJs, hB, hbs⟩ := hrel
    by_cases hlt : k < ps.length
    · obtain ⟨b, o, rfl, c1, c2⟩ := prow_at hP hlt
      have E := Lib.hid (take_gp ps k hlt)
      generalize cx ps k = a1 at *
      generalize cy ps k = a2 at *
      have d1 := (hB.cell (World.block_lt_of_cell? w0 _ c1)).trans c1
      have d2 := (hB.cell (World.block_lt_of_cell? w0 _ c2)).trans c2
      have hJ1 := hJ _ _ _ hJs (belA (Below.refl _ _) (.cells #[.int .i64 a1, .int .i64 a2] 23))
      have hB1 := belA hB (.cells #[.int .i64 a1, .int .i64 a2] 23)
      have hbs1 := blk_alloc hbs (.cells #[.int .i64 a1, .int .i64 a2] 23)
      obtain ⟨fn, tmps, assign, body, hy, hR⟩ := hY _ (a1, a2) _ hJ1 (by rw [List.length_take]; omega)
      have hkl : (k : Int) < ps.length := by omega
      have HB1 := Lib.hid hB1
      have HBS := Lib.hid hbs1
      clear c1 c2 hJs hJ1 hB hB1 hbs1 hP hW hBs cB
      unfold encY at hy
      dsimp only at hy
      gi_wp2
      refine hR.mono ?_
      rintro e W3 (⟨rfl, hJ3, hk3⟩ | ⟨rfl, hJx3⟩)
      · gi_wp2
        go_roundw
        case rel => exact ⟨k + 1, by omega, by go_num, by rw [E.out]; exact hJ3, HB1.out.trans hk3.1, hk3.2.trans HBS.out⟩
        case measure => simp [intOf]; omega
      · gi_wp2
        refine bodyPost_ret (results_none rfl _ _ _) rfl ?_
        exact ⟨⟨_, rfl⟩, .inr ⟨_, ⟨k + 1, by omega, E.out.symm⟩, hJx3⟩⟩
    · have E := Lib.hid (List.take_of_length_le (show ps.length ≤ k by omega))
      have hkl : ¬ (k : Int) < ps.length := by omega
      gi_wp2
      go_end0
      exact ⟨⟨_, rfl⟩, .inl (by rw [E.out] at hJs; exact hJs)⟩

theorem values_stops (n : Nat) (hn : 1 ≤ n) (Bs : Nat) (ao : Option Addr) (cap : Nat) (ps : List (Int × Int)) (w0 w : World) (hle : ps.length ≤ 1000000) (hP : PRow w0 ao ps) (hw : Below w0.heap.size w0 w) (hBs : w.heap[Bs]? = some (.cells #[.slice ao ps.length cap] 29 (0, 0))) :
    SeqStopsK Fence.wide n Tryz.prog 84 #[.pointer (some ⟨Bs, 0, none⟩)] encY (KpE w0.heap.size Bs) (fun ys => ys = ps) (fun pre => ∃ k, k ≤ ps.length ∧ pre = ps.take k) ps.length w := fun l J Jx W hW hJ _ hY hj0 =>
  values1_in n hn l Bs ao cap ps w0 hle hP J Jx (fun pre W1 W2 h hb => hJ pre W1 W2 none h (grown_of_below hb) (fun r e => by cases e)) hY W (hw.trans (hW.mono hw.size)) (blk_call hBs hW) hj0

set_option maxRecDepth 100000 in
set_option maxHeartbeats 4000000 in
theorem appendSeq_is (Bv : Nat) (ao : Option Addr) (cap : Nat) (ps : List (Int × Int)) (w : World) (hle : ps.length ≤ 1000000) (hP : PRow w ao ps) (hBv : w.heap[Bv]? = some (.cells #[.slice ao ps.length cap] 29 (0, 0))) :
    Calls Tryz.prog 102 #[.slice none 0 0, .func (.func 84) #[] #[.pointer (some ⟨Bv, 0, none⟩)]] w fun e w' => (∃ v, e = .returned v ∧ w'.ownsRow w.heap.size 23 2 v ps.length (flat ps)) ∧ Below w.heap.size w w' := by
  obtain ⟨i0, hi, hz0, hz1', hz2⟩ := info_parts infoP
  refine (callsIn_wide (n := 3)).1 ?_
  refine callsIn_of_wp_marks Tryz.func102 rfl trivial ?_ rfl
  simp only [Tryz.ntmps102, List.size_toArray, List.length_cons, List.length_nil, Nat.reduceAdd, Nat.reduceSub, Array.replicate_succ, Array.replicate_zero, List.push_toArray, List.append_toArray, List.nil_append, List.cons_append]
  gi_wp2
  obtain ⟨W0, hW0⟩ : ∃ W0, w.alloc (.cells #[.slice none 0 0] 29) = W0 := ⟨_, rfl⟩
  have hS0 : Boxed W0 w.heap.size 29 (.slice none 0 0) := by rw [← hW0]; exact Boxed.new _ _ _
  have hB0 : Below w.heap.size w W0 := by rw [← hW0]; exact belA (Below.refl _ _) _
  have hsz : W0.heap.size = w.heap.size + 1 := by rw [← hW0]; simp
  have hBv0 : W0.heap[Bv]? = some (.cells #[.slice ao ps.length cap] 29 (0, 0)) := by rw [← hW0]; exact blk_alloc hBv _
  have hBvl := blk_lt hBv
  rw [hW0]
  clear hW0 hBv
  refine wpIn_rangeFunc_ownH rfl (by omega) (gf := 84) (lb := #[.pointer (some ⟨Bv, 0, none⟩)]) rfl trivial (enters_of Tryz.func84 (by kernel_rfl) rfl)
    (values_stops (3 - 1) (by omega) Bv ao cap ps w W0 hle hP hB0 hBv0) kpE_t (kpE_b (by omega) (by omega)) (Below.refl _ _) (fun _ => rfl)
    (fun pre W => (∃ v, Boxed W w.heap.size 29 v ∧ W.ownsRow w.heap.size 23 2 v pre.length (flat pre) ∧ True) ∧ Below w.heap.size w W ∧ W0.heap.size ≤ W.heap.size)
    (fun _ _ _ => False)
    (OwnFrom.and (Own.from (holdsRow_own w.heap.size w.heap.size 29 23 2 (fun pre => pre.length) (fun pre => flat pre) (fun _ _ => True)) _) (OwnFrom.and (ownFrom_below (Nat.le_refl _) (by omega)) (own_size _ _)))
    (fun _ _ _ _ _ hs _ _ => hs)
    ⟨⟨.slice none 0 0, hS0, ⟨rfl, .inl ⟨rfl, rfl⟩⟩, trivial⟩, hB0, Nat.le_refl _⟩
    (fun x a' W => ∃ Bx, W0.heap.size ≤ Bx ∧ W.heap[Bx]? = some (.cells #[.int .i64 x.1, .int .i64 x.2] 23 (0, 0)) ∧ a' = { tmps := #[.slice none 0 0, .func (.func 84) #[] #[.pointer (some ⟨Bv, 0, none⟩)], .pointer (some ⟨w.heap.size, 0, none⟩), undef, .slice none 0 0, .pointer (some ⟨Bx, 0, none⟩), .func (.func 84) #[] #[.pointer (some ⟨Bv, 0, none⟩)], .agg #[.int .i64 x.1, .int .i64 x.2], undef, undef, undef, undef, undef], defers := [] })
    (fun x a' => fun _ X Y row ⟨Bx, h1, h2, h3⟩ hg hr => ⟨Bx, h1, (blk_own Bx (fun (_ : Unit) => .cells #[.int .i64 x.1, .int .i64 x.2] 23 (0, 0)) (fun _ => rfl)).from _ () X Y row h2 hg hr, h3⟩)
    ?assign ?body ?done ?stop
  case assign =>
    rintro l pre x W K ⟨⟨v, hS, hr, _⟩, hB, hz⟩ hK
    rw [show encY x = #[.agg #[.int .i64 x.1, .int .i64 x.2]] from rfl]
    gi_wp2
    exact hK _ _ ((KeepsOthers.alloc _ _).from _) ⟨(Below.refl _ _).alloc hB.size _, Below.heap_alloc W _ _ (by omega)⟩ ⟨⟨v, hS.alloc _, hr.alloc _, trivial⟩, belA hB _, by simp; omega⟩ ⟨W.heap.size, hz, blk_new _ _ _ rfl, rfl⟩
  case body =>
    rintro l pre x a' W hl ⟨r, hr⟩ ⟨⟨v, hS, hrow, _⟩, hB, hz⟩ ⟨Bx, hBx, hx, rfl⟩ hlen
    have c0 := blk_cell hx 0 _ rfl
    have c1 := blk_cell hx 1 _ rfl
    have cS := hS.cell
    have fS := hS.frozen
    have E := Lib.hid (show flat (pre ++ [x]) = flat pre ++ [.int .i64 x.1, .int .i64 x.2] by rw [flat_app]; rfl)
    gi_wp2_with (gi_at_builtin; refine wpListIn_append_own _ rfl _ _ 29 rfl w.heap.size 23 i0 (.agg #[.int .i64 0, .int .i64 0]) 2 16 Tryz.underlying29 hi hz0 hz1' hz2 rfl (by decide) _ _ _ rfl (hrow.alloc _) ⟨W.heap.size, 0, none⟩ 1 1 [.int .i64 x.1, .int .i64 x.2] rfl rfl ?c1 ?c2 ?c3 ?c4 ?c5 ?_)
    case c1 =>
      intro j u hj
      match j, hj with
      | 0, hj => simp at hj; subst hj; exact cbx' _ _ _ _ 0 _ rfl rfl
      | 1, hj => simp at hj; subst hj; exact cbx' _ _ _ _ 1 _ rfl rfl
    case c2 => intro u hu; simp at hu; rcases hu with rfl | rfl <;> rfl
    case c3 => unfold maxLen; omega
    case c4 => omega
    case c5 => have := hB.size; simp; omega
    intro v' w1 hown' hgrow _
    obtain ⟨g', cap', rfl⟩ := ownsRow_succ hown'
    obtain ⟨hv1, hv2, hr2, hk2, hb2⟩ := hS.appended (by decide) hrow hB.size (Nat.le_refl _) hown' hgrow
    have hc1 := hv1.cell
    have hf1 := hv1.frozen
    gi_wp2
    exact ⟨hk2.from _, ⟨hb2, hb2.block Bv hBvl⟩, ⟨⟨_, hv2, by rw [E.out, List.length_append]; exact hr2, trivial⟩, hB.trans hb2, Nat.le_trans hz hb2.size⟩⟩
  case done =>
    rintro D ys W hD rfl ⟨⟨v, hS, hrow, _⟩, hB, hz⟩ hK
    have cS := hS.cell
    gi_wp2
    refine ⟨by simp, .inl ⟨_, _, rfl, run_takeDeferred hK, ?_⟩⟩
    refine ⟨_, results_tmp rfl _ _ _, ⟨⟨_, rfl, ownsRow_putObj hrow _ hK rfl⟩, hB.trans (belowK_b (w := w) (Nat.le_refl _) W D _ _ (by omega) hK rfl rfl)⟩⟩
  case stop =>
    rintro D c pre W _ _ h _
    exact h.elim

theorem collect_is (Bv : Nat) (ao : Option Addr) (cap : Nat) (ps : List (Int × Int)) (w : World) (hle : ps.length ≤ 1000000) (hP : PRow w ao ps) (hBv : w.heap[Bv]? = some (.cells #[.slice ao ps.length cap] 29 (0, 0))) :
    Calls Tryz.prog 82 #[.func (.func 84) #[] #[.pointer (some ⟨Bv, 0, none⟩)]] w fun e w' => (∃ v, e = .returned v ∧ w'.ownsRow w.heap.size 23 2 v ps.length (flat ps)) ∧ Below w.heap.size w w' := by
  have C := Lib.hid (appendSeq_is Bv ao cap ps w hle hP hBv)
  clear hP hBv
  go_enter Tryz.func82, Tryz.ntmps82
  go_wp2_with (go_at_call 102; refine C.out.mono ?_; rintro e w1 ⟨⟨v, rfl, hr⟩, hb⟩)
  go_ret
  exact ⟨⟨_, rfl, hr⟩, hb⟩

/-- A slice of the call's own that holds l, whose block can be written; or nil. -/
def OwnP (w : World) (base : Nat) (v : Value) (l : List (Int × Int)) : Prop :=
  (v = .slice none 0 0 ∧ l = []) ∨ ∃ g c, v = .slice (some ⟨g, 0, none⟩) l.length c ∧ base ≤ g ∧ g < w.heap.size ∧ Sort.HoldsK encP 2 w g 0 l.toArray
theorem flatK_encP (l : List (Int × Int)) (t : Nat) (h : t < l.length * 2) : (Sort.flatK encP 2 l.toArray)[t]! = if t % 2 = 0 then .int .i64 (cx l (t / 2)) else .int .i64 (cy l (t / 2)) := by
  rw [Sort.get_flatK encP 2 l.toArray t (by simpa using h)]
  have h2 : t / 2 < l.length := by omega
  have e : l.toArray[t / 2]! = (cx l (t / 2), cy l (t / 2)) := by
    rw [getElem!_pos l.toArray (t / 2) (by simpa using h2)]
    unfold cx cy
    rw [List.getD_eq_getElem?_getD, List.getElem?_eq_getElem h2]
    simp
  rw [e]
  unfold encP
  rcases Nat.mod_two_eq_zero_or_one t with g | g <;> rw [g] <;> simp
theorem holdsP_iff (w : World) (g : Nat) (l : List (Int × Int)) : Sort.HoldsK encP 2 w g 0 l.toArray ↔ ∀ i, i < l.length → w.cell? ⟨g, i * 2, none⟩ = some (.int .i64 (cx l i)) ∧ w.cell? ⟨g, i * 2 + 1, none⟩ = some (.int .i64 (cy l i)) ∧ w.frozen? ⟨g, i * 2, none⟩ = false ∧ w.frozen? ⟨g, i * 2 + 1, none⟩ = false := by
  have sz : (Sort.flatK encP 2 l.toArray).size = l.length * 2 := by rw [Sort.size_flatK]; simp
  constructor
  · intro h i hi
    have a := h (i * 2) (by rw [sz]; omega)
    have b := h (i * 2 + 1) (by rw [sz]; omega)
    rw [flatK_encP l _ (by omega), if_pos (by omega), show i * 2 / 2 = i by omega, Nat.zero_add] at a
    rw [flatK_encP l _ (by omega), if_neg (by omega), show (i * 2 + 1) / 2 = i by omega, Nat.zero_add] at b
    exact ⟨a.1, b.1, a.2, b.2⟩
  · intro h t ht
    rw [sz] at ht
    obtain ⟨a, b, c, d⟩ := h (t / 2) (by omega)
    rw [flatK_encP l t ht, Nat.zero_add]
    by_cases e : t % 2 = 0
    · rw [if_pos e]
      rw [show t / 2 * 2 = t by omega] at a c
      exact ⟨a, c⟩
    · rw [if_neg e]
      rw [show t / 2 * 2 + 1 = t by omega] at b d
      exact ⟨b, d⟩
theorem OwnP.row {w : World} {base : Nat} {v : Value} {l : List (Int × Int)} (h : OwnP w base v l) : ∃ ao c, v = .slice ao l.length c ∧ PRow w ao l := by
  rcases h with ⟨rfl, rfl⟩ | ⟨g, c, rfl, _, _, h⟩
  · exact ⟨none, 0, rfl, fun i hi => by simp at hi⟩
  · refine ⟨_, c, rfl, fun i hi => ?_⟩
    obtain ⟨a, b, _, _⟩ := (holdsP_iff w g l).1 h i hi
    exact ⟨g, 0, rfl, by rw [Nat.zero_add]; exact a, by rw [Nat.zero_add]; exact b⟩
theorem OwnP.below {w w' : World} {base : Nat} {v : Value} {l : List (Int × Int)} (h : OwnP w base v l) (hb : Below w.heap.size w w') : OwnP w' base v l := by
  rcases h with h | ⟨g, c, rfl, h1, h2, h⟩
  · exact .inl h
  · refine .inr ⟨g, c, rfl, h1, Nat.lt_of_lt_of_le h2 hb.size, (holdsP_iff w' g l).2 fun i hi => ?_⟩
    obtain ⟨a, b, c, d⟩ := (holdsP_iff w g l).1 h i hi
    exact ⟨(hb.cell (p := ⟨g, _, none⟩) h2).trans a, (hb.cell (p := ⟨g, _, none⟩) h2).trans b, (hb.frozen (p := ⟨g, _, none⟩) h2).trans c, (hb.frozen (p := ⟨g, _, none⟩) h2).trans d⟩
theorem ownP_row {w : World} {base : Nat} {v : Value} {l : List (Int × Int)} (h : w.ownsRow base 23 2 v l.length (flat l)) : OwnP w base v l := by
  have h0 := h
  obtain ⟨hlen, ⟨rfl, hn⟩ | ⟨g, cap, cur, rfl, h1, h2, h3, h4, h5, h6⟩⟩ := h
  · exact .inl ⟨rfl, List.length_eq_zero_iff.1 hn⟩
  · refine .inr ⟨g, cap, rfl, h1, blk_lt h2, (holdsP_iff w g l).2 fun i hi => ?_⟩
    have f := flat_get l i hi
    refine ⟨?_, ?_, by simp [World.frozen?, h2], by simp [World.frozen?, h2]⟩
    · rw [h0.cellAt (i * 2) (by omega)]; exact f.1
    · rw [h0.cellAt (i * 2 + 1) (by omega)]; exact f.2

/-- The points in order. -/
def srt (l : List (Int × Int)) : List (Int × Int) := l.mergeSort fun x y => !ltOf cmpP y x
theorem srt_perm (l : List (Int × Int)) : (srt l).Perm l := List.mergeSort_perm _ _
theorem srt_mem (l : List (Int × Int)) (q : Int × Int) : q ∈ srt l ↔ q ∈ l := (srt_perm l).mem_iff
theorem srt_len (l : List (Int × Int)) : (srt l).length = l.length := (srt_perm l).length_eq
theorem leP (x y : Int × Int) : (!ltOf cmpP y x) = true ↔ lle x y := by
  rw [ltP, Bool.not_eq_true', decide_eq_false_iff_not]
  unfold lle
  omega
theorem srt_sorted (l : List (Int × Int)) : (srt l).Pairwise lle := by
  have := List.pairwise_mergeSort (le := fun x y => !ltOf cmpP y x) (fun a b c h1 h2 => (leP a c).2 (lle_trans ((leP a b).1 h1) ((leP b c).1 h2))) (fun a b => by
    rcases lle_total a b with h | h
    · rw [(leP a b).2 h]; rfl
    · rw [(leP b a).2 h, Bool.or_true]) l
  exact this.imp fun h => (leP _ _).1 h
theorem below_putK {w : World} {base g : Nat} (hg : base ≤ g) (hgl : g < w.heap.size) (n : Nat) (d : Array (Int × Int)) (os : Array Obj) : Below base w (sortWorldK encP 2 w g 0 n d os) :=
  ⟨rfl, rfl, rfl, size_sortWorldK_c _ _ _ _ _ _ _ _, fun k hk => by
    unfold sortWorldK
    rw [Sort.heap_grow_old _ _ (by rw [Sort.size_putRowK]; show k < w.heap.size; omega)]
    show (w.heap.modify g _)[k]? = _
    rw [Array.getElem?_modify, if_neg (by omega)]⟩

set_option maxHeartbeats 2000000 in
theorem sorted_is (Bv : Nat) (ao : Option Addr) (cap : Nat) (ps us : List (Int × Int)) (w : World) (hu : Hid (srt ps = us)) (hle : ps.length ≤ 1000000) (hP : PRow w ao ps) (hBv : w.heap[Bv]? = some (.cells #[.slice ao ps.length cap] 29 (0, 0))) :
    Calls Tryz.prog 45 #[.func (.func 84) #[] #[.pointer (some ⟨Bv, 0, none⟩)], .func (.func 47) #[] #[]] w fun e w' => (∃ v, e = .returned v ∧ OwnP w' w.heap.size v us) ∧ Below w.heap.size w w' := by
  have C := Lib.hid (collect_is Bv ao cap ps w hle hP hBv)
  clear hP hBv
  go_enter Tryz.func45, Tryz.ntmps45
  go_wp2_with (go_at_call 82; refine C.out.mono ?_; rintro e w1 ⟨⟨v, rfl, hr⟩, hb⟩)
  have hO := ownP_row hr
  have Hb := Lib.hid hb
  clear hr hb C
  rcases hO with ⟨rfl, rfl⟩ | ⟨g, c, rfl, h1, h2, h3⟩
  · have hn := Lib.hid (AnyF.slices_SortFunc_none sortL none 0 (.func (.func 47) #[] #[]) w1)
    have E : Hid (us = []) := Lib.hid (by rw [← hu.out]; exact List.length_eq_zero_iff.1 (srt_len []))
    go_wp2_with (go_at_call 83; refine Calls.mono hn.out ?_; rintro e w2 ⟨rfl, rfl⟩)
    go_ret
    exact ⟨⟨_, rfl, .inl ⟨rfl, E.out⟩⟩, Hb.out⟩
  · have eg : ∀ args w, (callFunc 47 args).run Tryz.prog w = .ok (.enter 47 args) w := enters_of Tryz.func47 (by kernel_rfl) rfl
    have hcon := AnyQ.slices_SortFunc_total sortL 2 Tryz.isAgg23 Tryz.sizeOf23 encP (fun _ => rfl) (fun x v hv => by simp [encP] at hv; rcases hv with rfl | rfl <;> rfl) cmpP swoP 47 #[] g 0 c ps.toArray w1 eg (compareLays g 0 _ w1) h3 h2 (by simp; omega) totP
    change Calls Tryz.prog 83 _ _ _ at hcon
    have es : ((ps.toArray).toList.mergeSort fun x y => !ltOf cmpP y x) = us := by rw [← hu.out]; rfl
    rw [es] at hcon
    rw [List.size_toArray] at hcon
    have hcon := Lib.hid hcon
    have H3 := Lib.hid h3
    clear es h3
    go_wp2_with (go_at_call 83; refine Calls.mono hcon.out ?_; rintro e w2 ⟨rfl, n, os, rfl⟩)
    go_ret
    have hl : us.length = ps.length := by rw [← hu.out, srt_len]
    exact ⟨⟨_, rfl, .inr ⟨g, c, by rw [hl]; rfl, h1, lt_sortWorldK _ _ _ _ _ _ _ _ h2, holdsK_sortWorldK encP 2 w1 g 0 n ps.toArray us.toArray os h2 H3.out (by simp [hl])⟩⟩, Hb.out.trans (below_putK h1 h2 n _ os)⟩
end Go.Proofs.YtalhkcmlacppjaaGreatDoor

