/- Contracts of package polygon: transform at the two closures, and the closures. Condition: the slice reads as the list says. -/
import Derived.Test.YthmcejeeohlafaaDoorPolG
import Derived.Test.YthmcejeeohlafaaDoorRotC
import Derived.OwnWalk
import Derived.Laws.OwnMore
import Derived.Laws.MakeOwn
import Derived.Deep.AppendLies
namespace Go.Proofs.YthmcejeeohlafaaDoor
open Go.ChangeShapes Go.WideShapes Go.ChangeAt Go.RowKit
set_option linter.unusedVariables false
set_option linter.unusedSimpArgs false

def flat (l : List (Int × Int)) : List Value := l.flatMap fun p => [.int .i64 p.1, .int .i64 p.2]
theorem flat_len (l : List (Int × Int)) : (flat l).length = l.length * 2 := by
  induction l with
  | nil => rfl
  | cons p r ih => simp [flat] at ih ⊢; omega
theorem flat_app (l m : List (Int × Int)) : flat (l ++ m) = flat l ++ flat m := by simp [flat]
theorem flat_get (l : List (Int × Int)) : ∀ i, i < l.length → (flat l)[i * 2]? = some (.int .i64 (l.getD i (0, 0)).1) ∧ (flat l)[i * 2 + 1]? = some (.int .i64 (l.getD i (0, 0)).2) := by
  induction l with
  | nil => intro i h; simp at h
  | cons p r ih =>
    intro i h
    cases i with
    | zero => simp [flat]
    | succ i =>
      have := ih i (by simpa using h)
      rw [show (i + 1) * 2 = i * 2 + 2 by omega]
      simpa [flat] using this
theorem own_below {w w1 : World} {base n : Nat} {e : TypeId} {size : Nat} {v : Value} {xs : List Value} (h : w.ownsRow base e size v n xs) (hb : Below w.heap.size w w1) : w1.ownsRow base e size v n xs := by
  obtain ⟨h0, h1 | ⟨g, cap, cur, h2, h3, h4, h5⟩⟩ := h
  · exact ⟨h0, .inl h1⟩
  · exact ⟨h0, .inr ⟨g, cap, cur, h2, h3, blk_call h4 hb, h5⟩⟩
theorem prow_own {w : World} {base : Nat} {e : TypeId} {v : Value} {l : List (Int × Int)} (h : w.ownsRow base e 2 v l.length (flat l)) : ∃ ao cap, v = .slice ao l.length cap ∧ PRow w ao l := by
  have h0 := h
  obtain ⟨_, ⟨rfl, hn⟩ | ⟨g, cap, cur, rfl, _⟩⟩ := h
  · exact ⟨none, 0, by rw [hn], fun i hi => absurd hi (by omega)⟩
  · refine ⟨some ⟨g, 0, none⟩, cap, rfl, fun i hi => ⟨g, 0, rfl, ?_, ?_⟩⟩
    · rw [Nat.zero_add, h0.cellAt (i * 2) (by omega)]; exact (flat_get l i hi).1
    · rw [Nat.zero_add, h0.cellAt (i * 2 + 1) (by omega)]; exact (flat_get l i hi).2
theorem prow_own1 {w : World} {base : Nat} {e : TypeId} {v : Value} {l : List (Int × Int)} (hl : 0 < l.length) (h : w.ownsRow base e 2 v l.length (flat l)) : ∃ g cap, v = .slice (some ⟨g, 0, none⟩) l.length cap ∧ PRow w (some ⟨g, 0, none⟩) l := by
  have h0 := h
  obtain ⟨_, ⟨rfl, hn⟩ | ⟨g, cap, cur, rfl, _⟩⟩ := h
  · omega
  · refine ⟨g, cap, rfl, fun i hi => ⟨g, 0, rfl, ?_, ?_⟩⟩
    · rw [Nat.zero_add, h0.cellAt (i * 2) (by omega)]; exact (flat_get l i hi).1
    · rw [Nat.zero_add, h0.cellAt (i * 2 + 1) (by omega)]; exact (flat_get l i hi).2
theorem cbx' (w : World) (vs : Array Value) (T : TypeId) (n j : Nat) (v : Value) (h : w.heap.size = n) (hj : vs[j]? = some v) : (w.alloc (.cells vs T)).cell? ⟨n, j, none⟩ = some v := cbx w vs T n j v h hj
theorem ret_v {a b : Value} (h : a = b) : Ending.returned a = .returned b := by rw [h]
theorem infoP : (Tryd.prog.info? 25).map (fun i => (i.zero, i.size, i.bytes)) = some (some (.agg #[.int .i64 0, .int .i64 0]), 2, 16) := by kernel_rfl
theorem flat_take (us : List (Int × Int)) (k : Nat) (h : k < us.length) : flat (us.take (k + 1)) = flat (us.take k) ++ [.int .i64 (cx us k), .int .i64 (cy us k)] := by
  rw [List.take_succ_eq_append_getElem h, flat_app]
  unfold cx cy
  rw [List.getD_eq_getElem?_getD, List.getElem?_eq_getElem h]
  rfl

theorem tcl_any (x y a b : Int) (C : Nat) (w : World) (c0 : w.cell? ⟨C, 0, none⟩ = some (.int .i64 a)) (c1 : w.cell? ⟨C, 1, none⟩ = some (.int .i64 b)) (hx : InR x) (hy : InR y) (ha : InR a) (hb : InR b) :
    Calls Tryd.prog 33 #[.agg #[.int .i64 x, .int .i64 y], .pointer (some ⟨C, 0, none⟩)] w fun e w' => e = .returned (.tuple #[.agg #[.int .i64 (x + a), .int .i64 (y + b)], .bool true]) ∧ Below w.heap.size w w' := by
  unfold InR at hx hy ha hb
  have zC := World.block_lt_of_cell? w _ c0
  go_enter Tryd.func33, Tryd.ntmps33
  go_wp2_with (go_at_call 20; refine (add_in x y a b _ (by omega) (by omega)).mono ?_; rintro e w1 ⟨rfl, hb1⟩; obtain ⟨hc, hf⟩ := bcell hb1; have hz := hb1.size; (try simp at hz); have hz1 : w.heap.size + 1 < w1.heap.size := (by omega))
  refine bodyPost_ret (v := .tuple #[.agg #[.int .i64 (x + a), .int .i64 (y + b)], .bool true]) (by simp [results, Tryd.f33, go_sem, hc]) rfl ?_
  exact ⟨rfl, by first | (exact belS (belS (belT (belA (belA (Below.refl _ _) _) _) hb1) (by simp) _) (by simp) _) | go_grown⟩

set_option maxHeartbeats 2000000 in
theorem trT_ok (ao : Option Addr) (cap C : Nat) (ps us : List (Int × Int)) (w : World) (h0 : 0 < ps.length) (hlen : us.length = ps.length) (hle : ps.length ≤ 1000000) (hP : PRow w ao ps)
    (hcb : Hid (∀ i, i < ps.length → ∀ W, Below w.heap.size w W → Calls Tryd.prog 33 #[.agg #[.int .i64 (cx ps i), .int .i64 (cy ps i)], .pointer (some ⟨C, 0, none⟩)] W fun e W' => e = .returned (.tuple #[.agg #[.int .i64 (cx us i), .int .i64 (cy us i)], .bool true]) ∧ Below W.heap.size W W')) :
    Calls Tryd.prog 32 #[.slice ao ps.length cap, .func (.func 33) #[] #[.pointer (some ⟨C, 0, none⟩)]] w fun e w' => (∃ g' c' : Nat, e = .returned (.tuple #[.slice (some ⟨g', 0, none⟩) us.length c', .bool true]) ∧ PRow w' (some ⟨g', 0, none⟩) us) ∧ Below w.heap.size w w' := by
  obtain ⟨i0, hi, hz0, hz1', hz2⟩ := info_parts infoP
  have HLEN := Lib.hid hlen
  clear hlen
  go_enter Tryd.func32, Tryd.ntmps32
  go_wp2_with (at_make; refine wpList_make_own _ rfl _ _ 22 rfl w.heap.size 25 i0 (.agg #[.int .i64 0, .int .i64 0]) 2 Tryd.underlying22 hi hz0 hz1' .i64 .i64 _ ps.length rfl rfl rfl (by rw [hz2]; omega) (by unfold maxLen; omega) (Nat.le_refl _) ?_; intro w1 hown0 hgrow0)
  have hB0 : Below w.heap.size w w1 := below_of_grown hgrow0
  clear hgrow0
  go_loopw [6, 16] (fun v i wr => ∃ k : Nat, k ≤ ps.length ∧ i = .int .i64 k ∧ wr.ownsRow w.heap.size 25 2 v k (flat (us.take k)) ∧ Below w.heap.size w wr) (fun _ i _ => ps.length - (intOf i).toNat)
  case atStart => exact ⟨0, Nat.zero_le _, rfl, hown0, hB0⟩
  case round =>
    obtain ⟨k, hk, rfl, hown, hB⟩ := hrel
    by_cases hlt : k < ps.length
    · obtain ⟨b, o, rfl, c1, c2⟩ := prow_at hP hlt
      have d1 := (hB.cell (World.block_lt_of_cell? w _ c1)).trans c1
      have d2 := (hB.cell (World.block_lt_of_cell? w _ c2)).trans c2
      have E : Hid (flat (us.take (k + 1)) = flat (us.take k) ++ [.int .i64 (cx us k), .int .i64 (cy us k)]) := Lib.hid (flat_take us k (by rw [HLEN.out]; exact hlt))
      have hki : (k : Int) < ps.length := by omega
      have HC := Lib.hid (hcb.out k hlt)
      clear c1 c2 hown0
      generalize cx us k = A at *
      generalize cy us k = B at *
      generalize cx ps k = x at *
      generalize cy ps k = y at *
      go_wp2_with fail
      refine (HC.out _ (belA hB _)).mono ?_; rintro e w2 ⟨rfl, hb⟩
      replace hown := own_below (hown.alloc (.cells #[.int .i64 x, .int .i64 y] 25)) hb
      replace hB := belT (belA hB _) hb
      have hz1 := hB.size
      clear d1 d2 hb HC
      go_wp2_with (at_builtin; refine wpList_append_own _ rfl (.tmp 28) (.tmp 30) 22 rfl w.heap.size 25 i0 (.agg #[.int .i64 0, .int .i64 0]) 2 16 Tryd.underlying22 hi hz0 hz1' hz2 rfl (by decide) _ _ _ rfl ((hown.alloc _).alloc _) ⟨w2.heap.size + 1, 0, none⟩ 1 1 [.int .i64 A, .int .i64 B] rfl rfl ?c1 ?c2 ?c3 ?c4 ?c5 ?_)
      case c1 =>
        intro j u hj
        match j, hj with
        | 0, hj => simp at hj; subst hj; exact cbx' _ _ _ _ 0 _ (by simp) rfl
        | 1, hj => simp at hj; subst hj; exact cbx' _ _ _ _ 1 _ (by simp) rfl
      case c2 => intro u hu; simp at hu; rcases hu with rfl | rfl <;> rfl
      case c3 => unfold maxLen; omega
      case c4 => omega
      case c5 => simp; omega
      · intro v' w3 hown' hgrow _
        have hB2 : Below w.heap.size w w3 := (belA (belA hB _) _).grown hgrow (by simp; omega) (fun g hg => (hown.lt g hg).1)
        rw [← E.out] at hown'
        clear hgrow hown hB
        go_wp2
        go_roundw
        case rel => exact ⟨k + 1, by omega, by go_num, hown', hB2⟩
        case measure => simp [intOf]; omega
    · have E : Hid (us.take k = us) := Lib.hid (List.take_of_length_le (by rw [HLEN.out]; omega))
      have R := prow_own1 (l := us) (by rw [HLEN.out]; exact h0) (by have := hown; rw [E.out, show k = us.length by rw [HLEN.out]; omega] at this; exact this)
      obtain ⟨a', c', rfl, hR⟩ := R
      clear hown0 hown
      go_wp2
      go_ret2
      exact ⟨⟨a', c', rfl, hR⟩, hB⟩

set_option maxHeartbeats 2000000 in
theorem trR_ok (ao : Option Addr) (cap C : Nat) (ps us : List (Int × Int)) (w : World) (h0 : 0 < ps.length) (hlen : us.length = ps.length) (hle : ps.length ≤ 1000000) (hP : PRow w ao ps)
    (hcb : Hid (∀ i, i < ps.length → ∀ W, Below w.heap.size w W → Calls Tryd.prog 35 #[.agg #[.int .i64 (cx ps i), .int .i64 (cy ps i)], .pointer (some ⟨C, 0, none⟩)] W fun e W' => e = .returned (.tuple #[.agg #[.int .i64 (cx us i), .int .i64 (cy us i)], .bool true]) ∧ Below W.heap.size W W')) :
    Calls Tryd.prog 32 #[.slice ao ps.length cap, .func (.func 35) #[] #[.pointer (some ⟨C, 0, none⟩)]] w fun e w' => (∃ g' c' : Nat, e = .returned (.tuple #[.slice (some ⟨g', 0, none⟩) us.length c', .bool true]) ∧ PRow w' (some ⟨g', 0, none⟩) us) ∧ Below w.heap.size w w' := by
  obtain ⟨i0, hi, hz0, hz1', hz2⟩ := info_parts infoP
  have HLEN := Lib.hid hlen
  clear hlen
  go_enter Tryd.func32, Tryd.ntmps32
  go_wp2_with (at_make; refine wpList_make_own _ rfl _ _ 22 rfl w.heap.size 25 i0 (.agg #[.int .i64 0, .int .i64 0]) 2 Tryd.underlying22 hi hz0 hz1' .i64 .i64 _ ps.length rfl rfl rfl (by rw [hz2]; omega) (by unfold maxLen; omega) (Nat.le_refl _) ?_; intro w1 hown0 hgrow0)
  have hB0 : Below w.heap.size w w1 := below_of_grown hgrow0
  clear hgrow0
  go_loopw [6, 16] (fun v i wr => ∃ k : Nat, k ≤ ps.length ∧ i = .int .i64 k ∧ wr.ownsRow w.heap.size 25 2 v k (flat (us.take k)) ∧ Below w.heap.size w wr) (fun _ i _ => ps.length - (intOf i).toNat)
  case atStart => exact ⟨0, Nat.zero_le _, rfl, hown0, hB0⟩
  case round =>
    obtain ⟨k, hk, rfl, hown, hB⟩ := hrel
    by_cases hlt : k < ps.length
    · obtain ⟨b, o, rfl, c1, c2⟩ := prow_at hP hlt
      have d1 := (hB.cell (World.block_lt_of_cell? w _ c1)).trans c1
      have d2 := (hB.cell (World.block_lt_of_cell? w _ c2)).trans c2
      have E : Hid (flat (us.take (k + 1)) = flat (us.take k) ++ [.int .i64 (cx us k), .int .i64 (cy us k)]) := Lib.hid (flat_take us k (by rw [HLEN.out]; exact hlt))
      have hki : (k : Int) < ps.length := by omega
      have HC := Lib.hid (hcb.out k hlt)
      clear c1 c2 hown0
      generalize cx us k = A at *
      generalize cy us k = B at *
      generalize cx ps k = x at *
      generalize cy ps k = y at *
      go_wp2_with fail
      refine (HC.out _ (belA hB _)).mono ?_; rintro e w2 ⟨rfl, hb⟩
      replace hown := own_below (hown.alloc (.cells #[.int .i64 x, .int .i64 y] 25)) hb
      replace hB := belT (belA hB _) hb
      have hz1 := hB.size
      clear d1 d2 hb HC
      go_wp2_with (at_builtin; refine wpList_append_own _ rfl (.tmp 28) (.tmp 30) 22 rfl w.heap.size 25 i0 (.agg #[.int .i64 0, .int .i64 0]) 2 16 Tryd.underlying22 hi hz0 hz1' hz2 rfl (by decide) _ _ _ rfl ((hown.alloc _).alloc _) ⟨w2.heap.size + 1, 0, none⟩ 1 1 [.int .i64 A, .int .i64 B] rfl rfl ?c1 ?c2 ?c3 ?c4 ?c5 ?_)
      case c1 =>
        intro j u hj
        match j, hj with
        | 0, hj => simp at hj; subst hj; exact cbx' _ _ _ _ 0 _ (by simp) rfl
        | 1, hj => simp at hj; subst hj; exact cbx' _ _ _ _ 1 _ (by simp) rfl
      case c2 => intro u hu; simp at hu; rcases hu with rfl | rfl <;> rfl
      case c3 => unfold maxLen; omega
      case c4 => omega
      case c5 => simp; omega
      · intro v' w3 hown' hgrow _
        have hB2 : Below w.heap.size w w3 := (belA (belA hB _) _).grown hgrow (by simp; omega) (fun g hg => (hown.lt g hg).1)
        rw [← E.out] at hown'
        clear hgrow hown hB
        go_wp2
        go_roundw
        case rel => exact ⟨k + 1, by omega, by go_num, hown', hB2⟩
        case measure => simp [intOf]; omega
    · have E : Hid (us.take k = us) := Lib.hid (List.take_of_length_le (by rw [HLEN.out]; omega))
      have R := prow_own1 (l := us) (by rw [HLEN.out]; exact h0) (by have := hown; rw [E.out, show k = us.length by rw [HLEN.out]; omega] at this; exact this)
      obtain ⟨a', c', rfl, hR⟩ := R
      clear hown0 hown
      go_wp2
      go_ret2
      exact ⟨⟨a', c', rfl, hR⟩, hB⟩

set_option maxHeartbeats 2000000 in
theorem trR_no (ao : Option Addr) (cap C : Nat) (ps us : List (Int × Int)) (w : World) (h0 : 0 < ps.length) (hlen : us.length = ps.length) (m : Nat) (hm : m < ps.length) (hle : ps.length ≤ 1000000) (hP : PRow w ao ps)
    (hcb : Hid (∀ i, i < m → ∀ W, Below w.heap.size w W → Calls Tryd.prog 35 #[.agg #[.int .i64 (cx ps i), .int .i64 (cy ps i)], .pointer (some ⟨C, 0, none⟩)] W fun e W' => e = .returned (.tuple #[.agg #[.int .i64 (cx us i), .int .i64 (cy us i)], .bool true]) ∧ Below W.heap.size W W'))
    (hno : Hid (∀ W, Below w.heap.size w W → Calls Tryd.prog 35 #[.agg #[.int .i64 (cx ps m), .int .i64 (cy ps m)], .pointer (some ⟨C, 0, none⟩)] W fun e W' => e = .returned (.tuple #[.agg #[.int .i64 0, .int .i64 0], .bool false]) ∧ Below W.heap.size W W')) :
    Calls Tryd.prog 32 #[.slice ao ps.length cap, .func (.func 35) #[] #[.pointer (some ⟨C, 0, none⟩)]] w fun e w' => e = .returned (.tuple #[.slice none 0 0, .bool false]) ∧ Below w.heap.size w w' := by
  obtain ⟨i0, hi, hz0, hz1', hz2⟩ := info_parts infoP
  have HLEN := Lib.hid hlen
  clear hlen
  go_enter Tryd.func32, Tryd.ntmps32
  go_wp2_with (at_make; refine wpList_make_own _ rfl _ _ 22 rfl w.heap.size 25 i0 (.agg #[.int .i64 0, .int .i64 0]) 2 Tryd.underlying22 hi hz0 hz1' .i64 .i64 _ ps.length rfl rfl rfl (by rw [hz2]; omega) (by unfold maxLen; omega) (Nat.le_refl _) ?_; intro w1 hown0 hgrow0)
  have hB0 : Below w.heap.size w w1 := below_of_grown hgrow0
  clear hgrow0
  go_loopw [6, 16] (fun v i wr => ∃ k : Nat, k ≤ m ∧ i = .int .i64 k ∧ wr.ownsRow w.heap.size 25 2 v k (flat (us.take k)) ∧ Below w.heap.size w wr) (fun _ i _ => ps.length - (intOf i).toNat)
  case atStart => exact ⟨0, Nat.zero_le _, rfl, hown0, hB0⟩
  case round =>
    obtain ⟨k, hk, rfl, hown, hB⟩ := hrel
    have hlt : k < ps.length := by omega
    by_cases hkm : k < m
    · obtain ⟨b, o, rfl, c1, c2⟩ := prow_at hP hlt
      have d1 := (hB.cell (World.block_lt_of_cell? w _ c1)).trans c1
      have d2 := (hB.cell (World.block_lt_of_cell? w _ c2)).trans c2
      have E : Hid (flat (us.take (k + 1)) = flat (us.take k) ++ [.int .i64 (cx us k), .int .i64 (cy us k)]) := Lib.hid (flat_take us k (by rw [HLEN.out]; exact hlt))
      have hki : (k : Int) < ps.length := by omega
      have HC := Lib.hid (hcb.out k hkm)
      clear c1 c2 hown0
      generalize cx us k = A at *
      generalize cy us k = B at *
      generalize cx ps k = x at *
      generalize cy ps k = y at *
      go_wp2_with fail
      refine (HC.out _ (belA hB _)).mono ?_; rintro e w2 ⟨rfl, hb⟩
      replace hown := own_below (hown.alloc (.cells #[.int .i64 x, .int .i64 y] 25)) hb
      replace hB := belT (belA hB _) hb
      have hz1 := hB.size
      clear d1 d2 hb HC
      go_wp2_with (at_builtin; refine wpList_append_own _ rfl (.tmp 28) (.tmp 30) 22 rfl w.heap.size 25 i0 (.agg #[.int .i64 0, .int .i64 0]) 2 16 Tryd.underlying22 hi hz0 hz1' hz2 rfl (by decide) _ _ _ rfl ((hown.alloc _).alloc _) ⟨w2.heap.size + 1, 0, none⟩ 1 1 [.int .i64 A, .int .i64 B] rfl rfl ?c1 ?c2 ?c3 ?c4 ?c5 ?_)
      case c1 =>
        intro j u hj
        match j, hj with
        | 0, hj => simp at hj; subst hj; exact cbx' _ _ _ _ 0 _ (by simp) rfl
        | 1, hj => simp at hj; subst hj; exact cbx' _ _ _ _ 1 _ (by simp) rfl
      case c2 => intro u hu; simp at hu; rcases hu with rfl | rfl <;> rfl
      case c3 => unfold maxLen; omega
      case c4 => omega
      case c5 => simp; omega
      · intro v' w3 hown' hgrow _
        have hB2 : Below w.heap.size w w3 := (belA (belA hB _) _).grown hgrow (by simp; omega) (fun g hg => (hown.lt g hg).1)
        rw [← E.out] at hown'
        clear hgrow hown hB
        go_wp2
        go_roundw
        case rel => exact ⟨k + 1, by omega, by go_num, hown', hB2⟩
        case measure => simp [intOf]; omega
    · obtain rfl : k = m := by omega
      obtain ⟨b, o, rfl, c1, c2⟩ := prow_at hP hlt
      have d1 := (hB.cell (World.block_lt_of_cell? w _ c1)).trans c1
      have d2 := (hB.cell (World.block_lt_of_cell? w _ c2)).trans c2
      have hki : (k : Int) < ps.length := by omega
      have HC := Lib.hid hno.out
      clear c1 c2 hown0 hown
      generalize cx ps k = x at *
      generalize cy ps k = y at *
      go_wp2_with fail
      refine (HC.out _ (belA hB _)).mono ?_; rintro e w2 ⟨rfl, hb⟩
      replace hB := belT (belA hB _) hb
      clear d1 d2 hb HC
      go_wp2_with fail
      go_ret2
      exact ⟨rfl, belA hB _⟩

set_option maxHeartbeats 1000000 in
theorem rcl_ok (x y q : Int) (A B U V : Int) (C : Nat) (w : World) (hT : Rot.Tab w) (c0 : w.cell? ⟨C, 0, none⟩ = some (.int .i64 q)) (hx : InR x) (hy : InR y) (hq : -9223372036854775808 ≤ q ∧ q ≤ 9223372036854775807)
    (hU : Hid (x * (Rot.csF (q % 36).toNat).1 - y * (Rot.csF (q % 36).toNat).2 = U)) (hV : Hid (x * (Rot.csF (q % 36).toNat).2 + y * (Rot.csF (q % 36).toNat).1 = V)) (g1 : Hid (U = 65 * A)) (g2 : Hid (V = 65 * B)) (hA : -1000000000000 ≤ A ∧ A ≤ 1000000000000) (hB : -1000000000000 ≤ B ∧ B ≤ 1000000000000) :
    Calls Tryd.prog 35 #[.agg #[.int .i64 x, .int .i64 y], .pointer (some ⟨C, 0, none⟩)] w fun e w' => e = .returned (.tuple #[.agg #[.int .i64 A, .int .i64 B], .bool true]) ∧ Below w.heap.size w w' := by
  have zC := World.block_lt_of_cell? w _ c0
  have hx' : -1000000000000 ≤ x ∧ x ≤ 1000000000000 := by unfold InR at hx; omega
  have hy' : -1000000000000 ≤ y ∧ y ≤ 1000000000000 := by unfold InR at hy; omega
  have HC := Lib.hid (fun w hT => Rot.rotate_ok x y q A B U V w hT hx' hy' hq hU hV g1 g2 hA hB)
  have HT := Lib.hid hT
  clear hx hy hq hx' hy'
  go_enter Tryd.func35, Tryd.ntmps35
  go_wp2_with (go_at_call 36; refine (HC.out _ (Rot.Tab.alloc (Rot.Tab.alloc HT.out _) _)).mono ?_; rintro e w1 ⟨rfl, hb1⟩; obtain ⟨hc, hf⟩ := bcell hb1; have hz := hb1.size; (try simp at hz); have hz1 : w.heap.size + 1 < w1.heap.size := (by omega))
  refine bodyPost_ret (v := .tuple #[.agg #[.int .i64 A, .int .i64 B], .bool true]) (by simp [results, Tryd.f35, go_sem, hc]) rfl ?_
  exact ⟨rfl, by first | (exact belS (belS (belT (belA (belA (Below.refl _ _) _) _) hb1) (by simp) _) (by simp) _) | go_grown⟩

set_option maxHeartbeats 1000000 in
theorem rcl_no (x y q : Int) (U V : Int) (C : Nat) (w : World) (hT : Rot.Tab w) (c0 : w.cell? ⟨C, 0, none⟩ = some (.int .i64 q)) (hx : InR x) (hy : InR y) (hq : -9223372036854775808 ≤ q ∧ q ≤ 9223372036854775807)
    (hU : Hid (x * (Rot.csF (q % 36).toNat).1 - y * (Rot.csF (q % 36).toNat).2 = U)) (hV : Hid (x * (Rot.csF (q % 36).toNat).2 + y * (Rot.csF (q % 36).toNat).1 = V)) (g : ¬ (U % 65 = 0 ∧ V % 65 = 0)) :
    Calls Tryd.prog 35 #[.agg #[.int .i64 x, .int .i64 y], .pointer (some ⟨C, 0, none⟩)] w fun e w' => e = .returned (.tuple #[.agg #[.int .i64 0, .int .i64 0], .bool false]) ∧ Below w.heap.size w w' := by
  have zC := World.block_lt_of_cell? w _ c0
  have hx' : -1000000000000 ≤ x ∧ x ≤ 1000000000000 := by unfold InR at hx; omega
  have hy' : -1000000000000 ≤ y ∧ y ≤ 1000000000000 := by unfold InR at hy; omega
  have HC := Lib.hid (fun w hT => Rot.rotate_no x y q U V w hT hx' hy' hq hU hV g)
  have HT := Lib.hid hT
  clear hx hy hq hx' hy'
  go_enter Tryd.func35, Tryd.ntmps35
  go_wp2_with (go_at_call 36; refine (HC.out _ (Rot.Tab.alloc (Rot.Tab.alloc HT.out _) _)).mono ?_; rintro e w1 ⟨rfl, hb1⟩; obtain ⟨hc, hf⟩ := bcell hb1; have hz := hb1.size; (try simp at hz); have hz1 : w.heap.size + 1 < w1.heap.size := (by omega))
  refine bodyPost_ret (v := .tuple #[.agg #[.int .i64 0, .int .i64 0], .bool false]) (by simp [results, Tryd.f35, go_sem, hc]) rfl ?_
  exact ⟨rfl, by first | (exact belS (belS (belT (belA (belA (Below.refl _ _) _) _) hb1) (by simp) _) (by simp) _) | go_grown⟩

end Go.Proofs.YthmcejeeohlafaaDoor
