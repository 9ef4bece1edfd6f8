/- Contracts of package polygon: transform at the two closures, Translate, Rotate, Equal. Condition: the slice reads as the list says. -/
import Derived.Test.YtalhkcmlacppjaaDoorHp
import Derived.Test.YtalhkcmlacppjaaDoorAmI
import Derived.OwnWalk
import Derived.Laws.OwnMore
import Derived.Laws.MakeOwn
import Derived.Deep.AppendLies
namespace Go.Proofs.YtalhkcmlacppjaaDoor
open Go.ChangeShapes Go.WideShapes Go.ChangeAt Go.RowKit
set_option linter.unusedVariables false
set_option linter.unusedSimpArgs false
set_option maxRecDepth 100000
theorem tcl_any (x y a b : Int) (C : Nat) (w : World) (c0 : w.cell? ⟨C, 0, none⟩ = some (.int .i64 a)) (c1 : w.cell? ⟨C, 1, none⟩ = some (.int .i64 b)) (hx : InR x) (hy : InR y) (ha : InR a) (hb : InR b) :
    Calls Tryd.prog 80 #[.agg #[.int .i64 x, .int .i64 y], .pointer (some ⟨C, 0, none⟩)] w fun e w' => e = .returned (.tuple #[.agg #[.int .i64 (x + a), .int .i64 (y + b)], .bool true]) ∧ Below w.heap.size w w' := by
  unfold InR at hx hy ha hb
  have zC := World.block_lt_of_cell? w _ c0
  go_enter Tryd.func80, Tryd.ntmps80
  go_wp2_with (go_at_call 62; refine (add_in x y a b _ (by omega) (by omega)).mono ?_; rintro e w1 ⟨rfl, hb1⟩; obtain ⟨hc, hf⟩ := bcell hb1; have hz := hb1.size; (try simp at hz); have hz1 : w.heap.size + 1 < w1.heap.size := (by omega))
  refine bodyPost_ret (v := .tuple #[.agg #[.int .i64 (x + a), .int .i64 (y + b)], .bool true]) (by simp [results, Tryd.f80, go_sem, hc]) rfl ?_
  exact ⟨rfl, by first | (exact belS (belS (belT (belA (belA (Below.refl _ _) _) _) hb1) (by simp) _) (by simp) _) | go_grown⟩

set_option maxHeartbeats 2000000 in
theorem trT_ok (ao : Option Addr) (cap C : Nat) (ps us : List (Int × Int)) (w : World) (h0 : 0 < ps.length) (hlen : us.length = ps.length) (hle : ps.length ≤ 1000000) (hP : PRow w ao ps)
    (hcb : Hid (∀ i, i < ps.length → ∀ W, Below w.heap.size w W → Calls Tryd.prog 80 #[.agg #[.int .i64 (cx ps i), .int .i64 (cy ps i)], .pointer (some ⟨C, 0, none⟩)] W fun e W' => e = .returned (.tuple #[.agg #[.int .i64 (cx us i), .int .i64 (cy us i)], .bool true]) ∧ Below W.heap.size W W')) :
    Calls Tryd.prog 77 #[.slice ao ps.length cap, .func (.func 80) #[] #[.pointer (some ⟨C, 0, none⟩)]] w fun e w' => (∃ g' c' : Nat, e = .returned (.tuple #[.slice (some ⟨g', 0, none⟩) us.length c', .bool true]) ∧ PRow w' (some ⟨g', 0, none⟩) us) ∧ Below w.heap.size w w' := by
  obtain ⟨i0, hi, hz0, hz1', hz2⟩ := info_parts infoP
  have HLEN := Lib.hid hlen
  clear hlen
  go_enter Tryd.func77, Tryd.ntmps77
  go_wp2_with (at_make; refine wpList_make_own _ rfl _ _ 33 rfl w.heap.size 23 i0 (.agg #[.int .i64 0, .int .i64 0]) 2 Tryd.underlying33 hi hz0 hz1' .i64 .i64 _ ps.length rfl rfl rfl (by rw [hz2]; omega) (by unfold maxLen; omega) (Nat.le_refl _) ?_; intro w1 hown0 hgrow0)
  have hB0 : Below w.heap.size w w1 := below_of_grown hgrow0
  clear hgrow0
  go_loopw [6, 16] (fun v i wr => ∃ k : Nat, k ≤ ps.length ∧ i = .int .i64 k ∧ wr.ownsRow w.heap.size 23 2 v k (flat (us.take k)) ∧ Below w.heap.size w wr) (fun _ i _ => ps.length - (intOf i).toNat)
  case atStart => exact ⟨0, Nat.zero_le _, rfl, hown0, hB0⟩
  case round =>
    obtain ⟨k, hk, rfl, hown, hB⟩ := hrel
    by_cases hlt : k < ps.length
    · obtain ⟨b, o, rfl, c1, c2⟩ := prow_at hP hlt
      have d1 := (hB.cell (World.block_lt_of_cell? w _ c1)).trans c1
      have d2 := (hB.cell (World.block_lt_of_cell? w _ c2)).trans c2
      have E : Hid (flat (us.take (k + 1)) = flat (us.take k) ++ [.int .i64 (cx us k), .int .i64 (cy us k)]) := Lib.hid (flat_take us k (by rw [HLEN.out]; exact hlt))
      have hki : (k : Int) < ps.length := by omega
      have HC := Lib.hid (hcb.out k hlt)
      clear c1 c2 hown0
      generalize cx us k = A at *
      generalize cy us k = B at *
      generalize cx ps k = x at *
      generalize cy ps k = y at *
      go_wp2_with fail
      refine (HC.out _ (belA hB _)).mono ?_; rintro e w2 ⟨rfl, hb⟩
      replace hown := own_below (hown.alloc (.cells #[.int .i64 x, .int .i64 y] 23)) hb
      replace hB := belT (belA hB _) hb
      have hz1 := hB.size
      clear d1 d2 hb HC
      go_wp2_with (at_builtin; refine wpList_append_own _ rfl (.tmp 28) (.tmp 30) 33 rfl w.heap.size 23 i0 (.agg #[.int .i64 0, .int .i64 0]) 2 16 Tryd.underlying33 hi hz0 hz1' hz2 rfl (by decide) _ _ _ rfl ((hown.alloc _).alloc _) ⟨w2.heap.size + 1, 0, none⟩ 1 1 [.int .i64 A, .int .i64 B] rfl rfl ?c1 ?c2 ?c3 ?c4 ?c5 ?_)
      case c1 =>
        intro j u hj
        match j, hj with
        | 0, hj => simp at hj; subst hj; exact cbx' _ _ _ _ 0 _ (by simp) rfl
        | 1, hj => simp at hj; subst hj; exact cbx' _ _ _ _ 1 _ (by simp) rfl
      case c2 => intro u hu; simp at hu; rcases hu with rfl | rfl <;> rfl
      case c3 => unfold maxLen; omega
      case c4 => omega
      case c5 => simp; omega
      · intro v' w3 hown' hgrow _
        have hB2 : Below w.heap.size w w3 := (belA (belA hB _) _).grown hgrow (by simp; omega) (fun g hg => (hown.lt g hg).1)
        rw [← E.out] at hown'
        clear hgrow hown hB
        go_wp2
        go_roundw
        case rel => exact ⟨k + 1, by omega, by go_num, hown', hB2⟩
        case measure => simp [intOf]; omega
    · have E : Hid (us.take k = us) := Lib.hid (List.take_of_length_le (by rw [HLEN.out]; omega))
      have R := prow_own1 (l := us) (by rw [HLEN.out]; exact h0) (by have := hown; rw [E.out, show k = us.length by rw [HLEN.out]; omega] at this; exact this)
      obtain ⟨a', c', rfl, hR⟩ := R
      clear hown0 hown
      go_wp2
      go_ret2
      exact ⟨⟨a', c', rfl, hR⟩, hB⟩

set_option maxHeartbeats 2000000 in
theorem trR_ok (ao : Option Addr) (cap C : Nat) (ps us : List (Int × Int)) (w : World) (h0 : 0 < ps.length) (hlen : us.length = ps.length) (hle : ps.length ≤ 1000000) (hP : PRow w ao ps)
    (hcb : Hid (∀ i, i < ps.length → ∀ W, Below w.heap.size w W → Calls Tryd.prog 78 #[.agg #[.int .i64 (cx ps i), .int .i64 (cy ps i)], .pointer (some ⟨C, 0, none⟩)] W fun e W' => e = .returned (.tuple #[.agg #[.int .i64 (cx us i), .int .i64 (cy us i)], .bool true]) ∧ Below W.heap.size W W')) :
    Calls Tryd.prog 77 #[.slice ao ps.length cap, .func (.func 78) #[] #[.pointer (some ⟨C, 0, none⟩)]] w fun e w' => (∃ g' c' : Nat, e = .returned (.tuple #[.slice (some ⟨g', 0, none⟩) us.length c', .bool true]) ∧ PRow w' (some ⟨g', 0, none⟩) us) ∧ Below w.heap.size w w' := by
  obtain ⟨i0, hi, hz0, hz1', hz2⟩ := info_parts infoP
  have HLEN := Lib.hid hlen
  clear hlen
  go_enter Tryd.func77, Tryd.ntmps77
  go_wp2_with (at_make; refine wpList_make_own _ rfl _ _ 33 rfl w.heap.size 23 i0 (.agg #[.int .i64 0, .int .i64 0]) 2 Tryd.underlying33 hi hz0 hz1' .i64 .i64 _ ps.length rfl rfl rfl (by rw [hz2]; omega) (by unfold maxLen; omega) (Nat.le_refl _) ?_; intro w1 hown0 hgrow0)
  have hB0 : Below w.heap.size w w1 := below_of_grown hgrow0
  clear hgrow0
  go_loopw [6, 16] (fun v i wr => ∃ k : Nat, k ≤ ps.length ∧ i = .int .i64 k ∧ wr.ownsRow w.heap.size 23 2 v k (flat (us.take k)) ∧ Below w.heap.size w wr) (fun _ i _ => ps.length - (intOf i).toNat)
  case atStart => exact ⟨0, Nat.zero_le _, rfl, hown0, hB0⟩
  case round =>
    obtain ⟨k, hk, rfl, hown, hB⟩ := hrel
    by_cases hlt : k < ps.length
    · obtain ⟨b, o, rfl, c1, c2⟩ := prow_at hP hlt
      have d1 := (hB.cell (World.block_lt_of_cell? w _ c1)).trans c1
      have d2 := (hB.cell (World.block_lt_of_cell? w _ c2)).trans c2
      have E : Hid (flat (us.take (k + 1)) = flat (us.take k) ++ [.int .i64 (cx us k), .int .i64 (cy us k)]) := Lib.hid (flat_take us k (by rw [HLEN.out]; exact hlt))
      have hki : (k : Int) < ps.length := by omega
      have HC := Lib.hid (hcb.out k hlt)
      clear c1 c2 hown0
      generalize cx us k = A at *
      generalize cy us k = B at *
      generalize cx ps k = x at *
      generalize cy ps k = y at *
      go_wp2_with fail
      refine (HC.out _ (belA hB _)).mono ?_; rintro e w2 ⟨rfl, hb⟩
      replace hown := own_below (hown.alloc (.cells #[.int .i64 x, .int .i64 y] 23)) hb
      replace hB := belT (belA hB _) hb
      have hz1 := hB.size
      clear d1 d2 hb HC
      go_wp2_with (at_builtin; refine wpList_append_own _ rfl (.tmp 28) (.tmp 30) 33 rfl w.heap.size 23 i0 (.agg #[.int .i64 0, .int .i64 0]) 2 16 Tryd.underlying33 hi hz0 hz1' hz2 rfl (by decide) _ _ _ rfl ((hown.alloc _).alloc _) ⟨w2.heap.size + 1, 0, none⟩ 1 1 [.int .i64 A, .int .i64 B] rfl rfl ?c1 ?c2 ?c3 ?c4 ?c5 ?_)
      case c1 =>
        intro j u hj
        match j, hj with
        | 0, hj => simp at hj; subst hj; exact cbx' _ _ _ _ 0 _ (by simp) rfl
        | 1, hj => simp at hj; subst hj; exact cbx' _ _ _ _ 1 _ (by simp) rfl
      case c2 => intro u hu; simp at hu; rcases hu with rfl | rfl <;> rfl
      case c3 => unfold maxLen; omega
      case c4 => omega
      case c5 => simp; omega
      · intro v' w3 hown' hgrow _
        have hB2 : Below w.heap.size w w3 := (belA (belA hB _) _).grown hgrow (by simp; omega) (fun g hg => (hown.lt g hg).1)
        rw [← E.out] at hown'
        clear hgrow hown hB
        go_wp2
        go_roundw
        case rel => exact ⟨k + 1, by omega, by go_num, hown', hB2⟩
        case measure => simp [intOf]; omega
    · have E : Hid (us.take k = us) := Lib.hid (List.take_of_length_le (by rw [HLEN.out]; omega))
      have R := prow_own1 (l := us) (by rw [HLEN.out]; exact h0) (by have := hown; rw [E.out, show k = us.length by rw [HLEN.out]; omega] at this; exact this)
      obtain ⟨a', c', rfl, hR⟩ := R
      clear hown0 hown
      go_wp2
      go_ret2
      exact ⟨⟨a', c', rfl, hR⟩, hB⟩

set_option maxHeartbeats 2000000 in
theorem trR_no (ao : Option Addr) (cap C : Nat) (ps us : List (Int × Int)) (w : World) (h0 : 0 < ps.length) (hlen : us.length = ps.length) (m : Nat) (hm : m < ps.length) (hle : ps.length ≤ 1000000) (hP : PRow w ao ps)
    (hcb : Hid (∀ i, i < m → ∀ W, Below w.heap.size w W → Calls Tryd.prog 78 #[.agg #[.int .i64 (cx ps i), .int .i64 (cy ps i)], .pointer (some ⟨C, 0, none⟩)] W fun e W' => e = .returned (.tuple #[.agg #[.int .i64 (cx us i), .int .i64 (cy us i)], .bool true]) ∧ Below W.heap.size W W'))
    (hno : Hid (∀ W, Below w.heap.size w W → Calls Tryd.prog 78 #[.agg #[.int .i64 (cx ps m), .int .i64 (cy ps m)], .pointer (some ⟨C, 0, none⟩)] W fun e W' => e = .returned (.tuple #[.agg #[.int .i64 0, .int .i64 0], .bool false]) ∧ Below W.heap.size W W')) :
    Calls Tryd.prog 77 #[.slice ao ps.length cap, .func (.func 78) #[] #[.pointer (some ⟨C, 0, none⟩)]] w fun e w' => e = .returned (.tuple #[.slice none 0 0, .bool false]) ∧ Below w.heap.size w w' := by
  obtain ⟨i0, hi, hz0, hz1', hz2⟩ := info_parts infoP
  have HLEN := Lib.hid hlen
  clear hlen
  go_enter Tryd.func77, Tryd.ntmps77
  go_wp2_with (at_make; refine wpList_make_own _ rfl _ _ 33 rfl w.heap.size 23 i0 (.agg #[.int .i64 0, .int .i64 0]) 2 Tryd.underlying33 hi hz0 hz1' .i64 .i64 _ ps.length rfl rfl rfl (by rw [hz2]; omega) (by unfold maxLen; omega) (Nat.le_refl _) ?_; intro w1 hown0 hgrow0)
  have hB0 : Below w.heap.size w w1 := below_of_grown hgrow0
  clear hgrow0
  go_loopw [6, 16] (fun v i wr => ∃ k : Nat, k ≤ m ∧ i = .int .i64 k ∧ wr.ownsRow w.heap.size 23 2 v k (flat (us.take k)) ∧ Below w.heap.size w wr) (fun _ i _ => ps.length - (intOf i).toNat)
  case atStart => exact ⟨0, Nat.zero_le _, rfl, hown0, hB0⟩
  case round =>
    obtain ⟨k, hk, rfl, hown, hB⟩ := hrel
    have hlt : k < ps.length := by omega
    by_cases hkm : k < m
    · obtain ⟨b, o, rfl, c1, c2⟩ := prow_at hP hlt
      have d1 := (hB.cell (World.block_lt_of_cell? w _ c1)).trans c1
      have d2 := (hB.cell (World.block_lt_of_cell? w _ c2)).trans c2
      have E : Hid (flat (us.take (k + 1)) = flat (us.take k) ++ [.int .i64 (cx us k), .int .i64 (cy us k)]) := Lib.hid (flat_take us k (by rw [HLEN.out]; exact hlt))
      have hki : (k : Int) < ps.length := by omega
      have HC := Lib.hid (hcb.out k hkm)
      clear c1 c2 hown0
      generalize cx us k = A at *
      generalize cy us k = B at *
      generalize cx ps k = x at *
      generalize cy ps k = y at *
      go_wp2_with fail
      refine (HC.out _ (belA hB _)).mono ?_; rintro e w2 ⟨rfl, hb⟩
      replace hown := own_below (hown.alloc (.cells #[.int .i64 x, .int .i64 y] 23)) hb
      replace hB := belT (belA hB _) hb
      have hz1 := hB.size
      clear d1 d2 hb HC
      go_wp2_with (at_builtin; refine wpList_append_own _ rfl (.tmp 28) (.tmp 30) 33 rfl w.heap.size 23 i0 (.agg #[.int .i64 0, .int .i64 0]) 2 16 Tryd.underlying33 hi hz0 hz1' hz2 rfl (by decide) _ _ _ rfl ((hown.alloc _).alloc _) ⟨w2.heap.size + 1, 0, none⟩ 1 1 [.int .i64 A, .int .i64 B] rfl rfl ?c1 ?c2 ?c3 ?c4 ?c5 ?_)
      case c1 =>
        intro j u hj
        match j, hj with
        | 0, hj => simp at hj; subst hj; exact cbx' _ _ _ _ 0 _ (by simp) rfl
        | 1, hj => simp at hj; subst hj; exact cbx' _ _ _ _ 1 _ (by simp) rfl
      case c2 => intro u hu; simp at hu; rcases hu with rfl | rfl <;> rfl
      case c3 => unfold maxLen; omega
      case c4 => omega
      case c5 => simp; omega
      · intro v' w3 hown' hgrow _
        have hB2 : Below w.heap.size w w3 := (belA (belA hB _) _).grown hgrow (by simp; omega) (fun g hg => (hown.lt g hg).1)
        rw [← E.out] at hown'
        clear hgrow hown hB
        go_wp2
        go_roundw
        case rel => exact ⟨k + 1, by omega, by go_num, hown', hB2⟩
        case measure => simp [intOf]; omega
    · obtain rfl : k = m := by omega
      obtain ⟨b, o, rfl, c1, c2⟩ := prow_at hP hlt
      have d1 := (hB.cell (World.block_lt_of_cell? w _ c1)).trans c1
      have d2 := (hB.cell (World.block_lt_of_cell? w _ c2)).trans c2
      have hki : (k : Int) < ps.length := by omega
      have HC := Lib.hid hno.out
      clear c1 c2 hown0 hown
      generalize cx ps k = x at *
      generalize cy ps k = y at *
      go_wp2_with fail
      refine (HC.out _ (belA hB _)).mono ?_; rintro e w2 ⟨rfl, hb⟩
      replace hB := belT (belA hB _) hb
      clear d1 d2 hb HC
      go_wp2_with fail
      go_ret2
      exact ⟨rfl, belA hB _⟩

set_option maxHeartbeats 1000000 in
theorem rcl_ok (x y q : Int) (A B U V : Int) (C : Nat) (w : World) (hT : Tab w) (c0 : w.cell? ⟨C, 0, none⟩ = some (.int .i64 q)) (hx : InR x) (hy : InR y) (hq : -9223372036854775808 ≤ q ∧ q ≤ 9223372036854775807)
    (hU : Hid (x * (csF (q % 36).toNat).1 - y * (csF (q % 36).toNat).2 = U)) (hV : Hid (x * (csF (q % 36).toNat).2 + y * (csF (q % 36).toNat).1 = V)) (g1 : Hid (U = 65 * A)) (g2 : Hid (V = 65 * B)) (hA : -1000000000000 ≤ A ∧ A ≤ 1000000000000) (hB : -1000000000000 ≤ B ∧ B ≤ 1000000000000) :
    Calls Tryd.prog 78 #[.agg #[.int .i64 x, .int .i64 y], .pointer (some ⟨C, 0, none⟩)] w fun e w' => e = .returned (.tuple #[.agg #[.int .i64 A, .int .i64 B], .bool true]) ∧ Below w.heap.size w w' := by
  have zC := World.block_lt_of_cell? w _ c0
  have hx' : -1000000000000 ≤ x ∧ x ≤ 1000000000000 := by unfold InR at hx; omega
  have hy' : -1000000000000 ≤ y ∧ y ≤ 1000000000000 := by unfold InR at hy; omega
  have HC := Lib.hid (fun w hT => rotate_ok x y q A B U V w hT hx' hy' hq hU hV g1 g2 hA hB)
  have HT := Lib.hid hT
  clear hx hy hq hx' hy'
  go_enter Tryd.func78, Tryd.ntmps78
  go_wp2_with (go_at_call 79; refine (HC.out _ (Tab.alloc (Tab.alloc HT.out _) _)).mono ?_; rintro e w1 ⟨rfl, hb1⟩; obtain ⟨hc, hf⟩ := bcell hb1; have hz := hb1.size; (try simp at hz); have hz1 : w.heap.size + 1 < w1.heap.size := (by omega))
  refine bodyPost_ret (v := .tuple #[.agg #[.int .i64 A, .int .i64 B], .bool true]) (by simp [results, Tryd.f78, go_sem, hc]) rfl ?_
  exact ⟨rfl, by first | (exact belS (belS (belT (belA (belA (Below.refl _ _) _) _) hb1) (by simp) _) (by simp) _) | go_grown⟩

set_option maxHeartbeats 1000000 in
theorem rcl_no (x y q : Int) (U V : Int) (C : Nat) (w : World) (hT : Tab w) (c0 : w.cell? ⟨C, 0, none⟩ = some (.int .i64 q)) (hx : InR x) (hy : InR y) (hq : -9223372036854775808 ≤ q ∧ q ≤ 9223372036854775807)
    (hU : Hid (x * (csF (q % 36).toNat).1 - y * (csF (q % 36).toNat).2 = U)) (hV : Hid (x * (csF (q % 36).toNat).2 + y * (csF (q % 36).toNat).1 = V)) (g : ¬ (U % 65 = 0 ∧ V % 65 = 0)) :
    Calls Tryd.prog 78 #[.agg #[.int .i64 x, .int .i64 y], .pointer (some ⟨C, 0, none⟩)] w fun e w' => e = .returned (.tuple #[.agg #[.int .i64 0, .int .i64 0], .bool false]) ∧ Below w.heap.size w w' := by
  have zC := World.block_lt_of_cell? w _ c0
  have hx' : -1000000000000 ≤ x ∧ x ≤ 1000000000000 := by unfold InR at hx; omega
  have hy' : -1000000000000 ≤ y ∧ y ≤ 1000000000000 := by unfold InR at hy; omega
  have HC := Lib.hid (fun w hT => rotate_no x y q U V w hT hx' hy' hq hU hV g)
  have HT := Lib.hid hT
  clear hx hy hq hx' hy'
  go_enter Tryd.func78, Tryd.ntmps78
  go_wp2_with (go_at_call 79; refine (HC.out _ (Tab.alloc (Tab.alloc HT.out _) _)).mono ?_; rintro e w1 ⟨rfl, hb1⟩; obtain ⟨hc, hf⟩ := bcell hb1; have hz := hb1.size; (try simp at hz); have hz1 : w.heap.size + 1 < w1.heap.size := (by omega))
  refine bodyPost_ret (v := .tuple #[.agg #[.int .i64 0, .int .i64 0], .bool false]) (by simp [results, Tryd.f78, go_sem, hc]) rfl ?_
  exact ⟨rfl, by first | (exact belS (belS (belT (belA (belA (Below.refl _ _) _) _) hb1) (by simp) _) (by simp) _) | go_grown⟩

theorem translate_is (ao : Option Addr) (n cap : Nat) (ps us : List (Int × Int)) (a b : Int) (w : World) (h0 : 0 < ps.length) (hn : ps.length = n) (hu : Hid (movL ps a b = us)) (hle : ps.length ≤ 1000000) (hP : PRow w ao ps) (hv : AllR2 ps) (ia : InR a) (ib : InR b) :
    Calls Tryd.prog 56 #[.slice ao n cap, .agg #[.int .i64 a, .int .i64 b]] w fun e w' => (∃ g' c' : Nat, e = .returned (.slice (some ⟨g', 0, none⟩) us.length c') ∧ PRow w' (some ⟨g', 0, none⟩) us) ∧ Below w.heap.size w w' := by
  subst hn
  have C := fun (u : Unit) hP hcb => trT_ok ao cap w.heap.size ps (movL ps a b) (w.alloc (.cells #[.int .i64 a, .int .i64 b] 23)) h0 (movL_len ps a b) hle hP hcb
  have D : PRow (w.alloc (.cells #[.int .i64 a, .int .i64 b] 23)) ao ps := prow_alloc hP _
  have E : Hid (∀ i, i < ps.length → ∀ W, Below (w.alloc (.cells #[.int .i64 a, .int .i64 b] 23)).heap.size (w.alloc (.cells #[.int .i64 a, .int .i64 b] 23)) W → Calls Tryd.prog 80 #[.agg #[.int .i64 (cx ps i), .int .i64 (cy ps i)], .pointer (some ⟨w.heap.size, 0, none⟩)] W fun e W' => e = .returned (.tuple #[.agg #[.int .i64 (cx (movL ps a b) i), .int .i64 (cy (movL ps a b) i)], .bool true]) ∧ Below W.heap.size W W') := Lib.hid (fun i hi W hW => by
    obtain ⟨e1, e2⟩ := movL_at ps a b hi
    rw [e1, e2]
    exact tcl_any _ _ a b _ W (cell_call (cbx _ _ _ _ 0 _ rfl rfl) hW) (cell_call (cbx _ _ _ _ 1 _ rfl rfl) hW) (hv i hi).1 (hv i hi).2 ia ib)
  have F := C () D E
  rw [hu.out] at F
  have G := Lib.hid F
  clear C D E F hu hP hv
  go_enter Tryd.func56, Tryd.ntmps56
  go_wp2_with fail
  refine G.out.mono ?_; rintro e w1 ⟨⟨a', c', rfl, hR⟩, hb⟩
  go_wp2_with fail
  go_ret
  exact ⟨⟨a', c', rfl, hR⟩, (belA (Below.refl _ _) _).trans (hb.mono (by simp))⟩

/-- us is ps turned by q, exactly. -/
def Turned (q : Int) (x y A B : Int) : Prop := x * (csF (q % 36).toNat).1 - y * (csF (q % 36).toNat).2 = 65 * A ∧ x * (csF (q % 36).toNat).2 + y * (csF (q % 36).toNat).1 = 65 * B
theorem rotate_yes (ao : Option Addr) (n cap : Nat) (ps us : List (Int × Int)) (q : Int) (w : World) (hT : Tab w) (h0 : 0 < ps.length) (hn : ps.length = n) (hlen : us.length = ps.length) (hle : ps.length ≤ 1000000) (hP : PRow w ao ps) (hv : AllR2 ps) (hq : -9223372036854775808 ≤ q ∧ q ≤ 9223372036854775807)
    (hu : ∀ i, i < ps.length → Turned q (cx ps i) (cy ps i) (cx us i) (cy us i)) (hub : ∀ i, i < ps.length → (-1000000000000 ≤ cx us i ∧ cx us i ≤ 1000000000000) ∧ -1000000000000 ≤ cy us i ∧ cy us i ≤ 1000000000000) :
    Calls Tryd.prog 55 #[.slice ao n cap, .int .i64 q] w fun e w' => (∃ g' c' : Nat, e = .returned (.tuple #[.slice (some ⟨g', 0, none⟩) us.length c', .bool true]) ∧ PRow w' (some ⟨g', 0, none⟩) us) ∧ Below w.heap.size w w' := by
  subst hn
  have E : Hid (∀ i, i < ps.length → ∀ W, Below (w.alloc (.cells #[.int .i64 q] 3)).heap.size (w.alloc (.cells #[.int .i64 q] 3)) W → Calls Tryd.prog 78 #[.agg #[.int .i64 (cx ps i), .int .i64 (cy ps i)], .pointer (some ⟨w.heap.size, 0, none⟩)] W fun e W' => e = .returned (.tuple #[.agg #[.int .i64 (cx us i), .int .i64 (cy us i)], .bool true]) ∧ Below W.heap.size W W') := Lib.hid (fun i hi W hW => rcl_ok (cx ps i) (cy ps i) q (cx us i) (cy us i) _ _ _ W ((hT.alloc _).below hW) (cell_call (cbx _ _ _ _ 0 _ rfl rfl) hW) (hv i hi).1 (hv i hi).2 hq (Lib.hid rfl) (Lib.hid rfl) (Lib.hid (hu i hi).1) (Lib.hid (hu i hi).2) (hub i hi).1 (hub i hi).2)
  have G := Lib.hid (trR_ok ao cap w.heap.size ps us (w.alloc (.cells #[.int .i64 q] 3)) h0 hlen hle (prow_alloc hP _) E)
  clear E hu hub hP hv hT hlen hq
  go_enter Tryd.func55, Tryd.ntmps55
  go_wp2_with fail
  refine G.out.mono ?_; rintro e w1 ⟨⟨a', c', rfl, hR⟩, hb⟩
  go_wp2_with fail
  go_ret2
  exact ⟨⟨a', c', rfl, hR⟩, (belA (Below.refl _ _) _).trans (hb.mono (by simp))⟩
theorem rotate_not (ao : Option Addr) (n cap : Nat) (ps us : List (Int × Int)) (q : Int) (w : World) (hT : Tab w) (hn : ps.length = n) (hlen : us.length = ps.length) (m : Nat) (hm : m < ps.length) (hle : ps.length ≤ 1000000) (hP : PRow w ao ps) (hv : AllR2 ps) (hq : -9223372036854775808 ≤ q ∧ q ≤ 9223372036854775807)
    (hu : ∀ i, i < m → Turned q (cx ps i) (cy ps i) (cx us i) (cy us i)) (hub : ∀ i, i < m → (-1000000000000 ≤ cx us i ∧ cx us i ≤ 1000000000000) ∧ -1000000000000 ≤ cy us i ∧ cy us i ≤ 1000000000000)
    (hno : ¬ ((cx ps m * (csF (q % 36).toNat).1 - cy ps m * (csF (q % 36).toNat).2) % 65 = 0 ∧ (cx ps m * (csF (q % 36).toNat).2 + cy ps m * (csF (q % 36).toNat).1) % 65 = 0)) :
    Calls Tryd.prog 55 #[.slice ao n cap, .int .i64 q] w fun e w' => e = .returned (.tuple #[.slice none 0 0, .bool false]) ∧ Below w.heap.size w w' := by
  subst hn
  have E : Hid (∀ i, i < m → ∀ W, Below (w.alloc (.cells #[.int .i64 q] 3)).heap.size (w.alloc (.cells #[.int .i64 q] 3)) W → Calls Tryd.prog 78 #[.agg #[.int .i64 (cx ps i), .int .i64 (cy ps i)], .pointer (some ⟨w.heap.size, 0, none⟩)] W fun e W' => e = .returned (.tuple #[.agg #[.int .i64 (cx us i), .int .i64 (cy us i)], .bool true]) ∧ Below W.heap.size W W') := Lib.hid (fun i hi W hW => rcl_ok (cx ps i) (cy ps i) q (cx us i) (cy us i) _ _ _ W ((hT.alloc _).below hW) (cell_call (cbx _ _ _ _ 0 _ rfl rfl) hW) (hv i (by omega)).1 (hv i (by omega)).2 hq (Lib.hid rfl) (Lib.hid rfl) (Lib.hid (hu i hi).1) (Lib.hid (hu i hi).2) (hub i hi).1 (hub i hi).2)
  have E2 : Hid (∀ W, Below (w.alloc (.cells #[.int .i64 q] 3)).heap.size (w.alloc (.cells #[.int .i64 q] 3)) W → Calls Tryd.prog 78 #[.agg #[.int .i64 (cx ps m), .int .i64 (cy ps m)], .pointer (some ⟨w.heap.size, 0, none⟩)] W fun e W' => e = .returned (.tuple #[.agg #[.int .i64 0, .int .i64 0], .bool false]) ∧ Below W.heap.size W W') := Lib.hid (fun W hW => rcl_no (cx ps m) (cy ps m) q _ _ _ W ((hT.alloc _).below hW) (cell_call (cbx _ _ _ _ 0 _ rfl rfl) hW) (hv m hm).1 (hv m hm).2 hq (Lib.hid rfl) (Lib.hid rfl) hno)
  have G := Lib.hid (trR_no ao cap w.heap.size ps us (w.alloc (.cells #[.int .i64 q] 3)) (by omega) hlen m hm hle (prow_alloc hP _) E E2)
  clear E E2 hu hub hP hv hT hlen hq hno hm
  go_enter Tryd.func55, Tryd.ntmps55
  go_wp2_with fail
  refine G.out.mono ?_; rintro e w1 ⟨rfl, hb⟩
  go_wp2_with fail
  go_ret2
  exact ⟨rfl, (belA (Below.refl _ _) _).trans (hb.mono (by simp))⟩

set_option maxHeartbeats 2000000 in
theorem sequal_any (ao bo : Option Addr) (ca cb : Nat) (l m : List (Int × Int)) (w : World) (hl : l.length ≤ 9223372036854775807) (hm : m.length ≤ 9223372036854775807) (hP : PRow w ao l) (hQ : PRow w bo m) :
    Calls Tryd.prog 58 #[.slice ao l.length ca, .slice bo m.length cb] w fun e w' => e = .returned (.bool (decide (l = m))) ∧ Below w.heap.size w w' := by
  by_cases hlm : l.length = m.length
  · have hne : (((l.length : Int) != (m.length : Int))) = false := by rw [hlm]; simp
    go_enter Tryd.func58, Tryd.ntmps58
    go_wp2
    go_loopw [13] (fun i wr => ∃ k : Nat, k ≤ l.length ∧ i = .int .i64 k ∧ Hid (eqTo l m k) ∧ Below w.heap.size w wr) (fun i _ => l.length - (intOf i).toNat)
    case atStart => exact ⟨0, Nat.zero_le _, rfl, Lib.hid (fun i hi => by omega), Below.refl _ _⟩
    case round =>
      obtain ⟨k, hk, rfl, hE, hB⟩ := hrel
      by_cases hlt : k < l.length
      · obtain ⟨b, o, rfl, c1, c2⟩ := prow_at hP hlt
        obtain ⟨b', o', rfl, c3, c4⟩ := prow_at hQ (hlm ▸ hlt)
        have d1 := (hB.cell (World.block_lt_of_cell? w _ c1)).trans c1
        have d2 := (hB.cell (World.block_lt_of_cell? w _ c2)).trans c2
        have d3 := (hB.cell (World.block_lt_of_cell? w _ c3)).trans c3
        have d4 := (hB.cell (World.block_lt_of_cell? w _ c4)).trans c4
        have hki : (k : Int) < l.length := by omega
        have hki2 : (k : Int) < m.length := by omega
        clear c1 c2 c3 c4
        have HEK := Lib.hid (fun (h1 : cx l k = cx m k) (h2 : cy l k = cy m k) => (fun i hi => by
          by_cases e : i = k
          · subst e; exact ⟨h1, h2⟩
          · exact hE.out i (by omega) : eqTo l m (k + 1)))
        have HNE := Lib.hid (fun (h : ¬ (cx l k = cx m k ∧ cy l k = cy m k)) => (fun e => h (by rw [e]; exact ⟨rfl, rfl⟩) : ¬ l = m))
        generalize cx l k = x at *
        generalize cy l k = y at *
        generalize cx m k = x' at *
        generalize cy m k = y' at *
        go_upto_region 6 with fail
        by_cases hx : x = x'
        · subst hx
          by_cases hy : y = y'
          · subst hy
            go_region
            all_goals
              go_wp2
              exact ⟨⟨k + 1, by omega, by go_num, Lib.hid (HEK.out rfl rfl), hB.drew⟩, by simp [intOf]; omega⟩
          · have HN := Lib.hid (HNE.out (fun h => hy h.2))
            go_region
            all_goals
              go_wp2
              go_ret
              exact ⟨ret_bool (decide_eq_false HN.out).symm, hB.drew⟩
        · have HN := Lib.hid (HNE.out (fun h => hx h.1))
          go_region
          all_goals
            go_wp2
            go_ret
            exact ⟨ret_bool (decide_eq_false HN.out).symm, hB.drew⟩
      · have HE : Hid (decide (l = m) = true) := Lib.hid (decide_eq_true (eq_of_to hlm (fun i hi => hE.out i (by omega))))
        clear hE
        go_wp2
        go_ret
        exact ⟨ret_bool HE.out.symm, hB⟩
  · have hne : (((l.length : Int) != (m.length : Int))) = true := by rw [bne_iff_ne]; omega
    have HE : Hid (decide (l = m) = false) := Lib.hid (decide_eq_false (fun e => hlm (by rw [e])))
    go_enter Tryd.func58, Tryd.ntmps58
    go_wp2
    go_ret
    exact ⟨ret_bool HE.out.symm, Below.refl _ _⟩
theorem equal_is (ao bo : Option Addr) (n n' ca cb : Nat) (l m : List (Int × Int)) (t : Bool) (w : World) (hn : l.length = n) (hn' : m.length = n') (ht : Hid (decide (l = m) = t)) (hl : l.length ≤ 9223372036854775807) (hm : m.length ≤ 9223372036854775807) (hP : PRow w ao l) (hQ : PRow w bo m) :
    Calls Tryd.prog 32 #[.slice ao n ca, .slice bo n' cb] w fun e w' => e = .returned (.bool t) ∧ Below w.heap.size w w' := by
  subst hn hn'
  have C := sequal_any ao bo ca cb l m w hl hm hP hQ
  rw [ht.out] at C
  have G := Lib.hid C
  clear C ht hP hQ
  go_enter Tryd.func32, Tryd.ntmps32
  go_wp2_with fail
  refine G.out.mono ?_; rintro e w1 ⟨rfl, hb⟩
  go_wp2_with fail
  go_ret
  exact ⟨rfl, hb⟩
end Go.Proofs.YtalhkcmlacppjaaDoor
