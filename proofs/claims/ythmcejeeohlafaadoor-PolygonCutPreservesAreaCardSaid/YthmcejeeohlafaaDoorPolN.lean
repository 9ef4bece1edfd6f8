/- Contracts of what the statements of layer 3 share: round, back; DoubleArea and Locate at named values. Condition: the slice reads as the list says. -/
import Derived.Test.YthmcejeeohlafaaDoorPolM
import Derived.Test.YthmcejeeohlafaaDoorPolK
namespace Go.Proofs.YthmcejeeohlafaaDoor
open Go.ChangeShapes Go.WideShapes Go.ChangeAt Go.RowKit
set_option linter.unusedVariables false
set_option linter.unusedSimpArgs false

theorem area_at (ao : Option Addr) (n c : Nat) (l : List (Int × Int)) (v : Int) (w : World) (hn : l.length = n) (hv : Hid (area2 l = v)) (h0 : 0 < l.length) (h12 : l.length ≤ 12) (hP : PRow w ao l) (ha : AllV l) :
    Calls Tryd.prog 15 #[.slice ao n c] w fun e w' => e = .returned (.int .i64 v) ∧ Below w.heap.size w w' := by
  subst hn
  have := area_any ao c l w h0 h12 hP ha
  rw [hv.out] at this
  exact this
theorem locate_at (ao : Option Addr) (n c : Nat) (l : List (Int × Int)) (p q : Int) (v : Int) (w : World) (hn : l.length = n) (hv : Hid (locE l p q = v)) (h0 : 0 < l.length) (h12 : l.length ≤ 12) (hP : PRow w ao l) (ha : AllR2 l) (hp : InR p) (hq : InR q) :
    Calls Tryd.prog 16 #[.slice ao n c, .agg #[.int .i64 p, .int .i64 q]] w fun e w' => e = .returned (.int .i64 v) ∧ Below w.heap.size w w' := by
  subst hn
  have := locate_any ao c l p q w h0 (by omega) hP ha hp hq
  rw [hv.out] at this
  exact this
theorem area2_bd {ps : List (Int × Int)} (hv : AllV ps) (h0 : 0 < ps.length) (h12 : ps.length ≤ 12) : -4700000000000000000 ≤ area2 ps ∧ area2 ps ≤ 4700000000000000000 := by
  have := sumE_bd hv (upE ps.length h0 ps.length)
  rw [vals_upE, upE_length] at this
  unfold area2
  omega

set_option maxHeartbeats 2000000 in
theorem round_is (ao : Option Addr) (n cap m : Nat) (ps us : List (Int × Int)) (w : World) (hn : ps.length = n) (hu : Hid (shL ps m = us)) (h0 : 0 < ps.length) (hle : ps.length ≤ 1000000) (hm : m ≤ 255) (hP : PRow w ao ps) :
    Calls Tryd.prog 12 #[.slice ao n cap, .int .u8 (m : Int)] w fun e w' => (∃ g' c' : Nat, e = .returned (.slice (some ⟨g', 0, none⟩) us.length c') ∧ PRow w' (some ⟨g', 0, none⟩) us) ∧ Below w.heap.size w w' := by
  subst hn
  have HLEN : Hid (us.length = ps.length) := Lib.hid (by rw [← hu.out, shL_len])
  have HAT := Lib.hid (fun k (hk : k < ps.length) => (by rw [← hu.out]; exact shL_at ps m hk : cx us k = cx ps ((k + m) % ps.length) ∧ cy us k = cy ps ((k + m) % ps.length)))
  obtain ⟨i0, hi, hz0, hz1', hz2⟩ := info_parts infoP
  have hn0 : (ps.length : Int) ≠ 0 := by omega
  have hne : ¬ ps = [] := fun e => by rw [e] at h0; simp at h0
  clear hu
  go_enter Tryd.func12, Tryd.ntmps12
  go_wp2
  go_loopw [5, 6] (fun v i wr => ∃ k : Nat, k ≤ ps.length ∧ i = .int .i64 k ∧ wr.ownsRow w.heap.size 25 2 v k (flat (us.take k)) ∧ Below w.heap.size w wr) (fun _ i _ => ps.length - (intOf i).toNat)
  case atStart => exact ⟨0, Nat.zero_le _, rfl, World.ownsRow_lit w #[] 0 (Nat.le_refl _) (by decide) rfl, belA (Below.refl _ _) _⟩
  case round =>
    obtain ⟨k, hk, rfl, hown, hB⟩ := hrel
    by_cases hlt : k < ps.length
    · obtain ⟨j, hj⟩ : ∃ j, (k + m) % ps.length = j := ⟨_, rfl⟩
      have hjl : j < ps.length := by rw [← hj]; exact Nat.mod_lt _ h0
      obtain ⟨b, o, rfl, c1, c2⟩ := prow_at hP hjl
      have d1 := (hB.cell (World.block_lt_of_cell? w _ c1)).trans c1
      have d2 := (hB.cell (World.block_lt_of_cell? w _ c2)).trans c2
      have E : Hid (flat (us.take (k + 1)) = flat (us.take k) ++ [.int .i64 (cx ps j), .int .i64 (cy ps j)]) := Lib.hid (by rw [flat_take us k (by rw [HLEN.out]; exact hlt), (HAT.out k hlt).1, (HAT.out k hlt).2, hj])
      have hki : (k : Int) < ps.length := by omega
      have hji : (j : Int) < ps.length := by omega
      have hw1 : IntKind.i64.wrap ((k : Int) + (m : Int)) = (k : Int) + (m : Int) := wrap_k _ (by omega)
      have hwm : IntKind.i64.wrap (m : Int) = (m : Int) := wrap_k _ (by omega)
      have htm : ((k : Int) + (m : Int)).tmod (ps.length : Int) = (j : Int) := by
        rw [← hj, Int.tmod_eq_emod_of_nonneg (by omega)]; simp
      have hBs := hB.size
      clear c1 c2 hj
      generalize cx ps j = A at *
      generalize cy ps j = B at *
      go_wp2_with (at_builtin; refine wpList_append_own _ rfl (.tmp 14) (.tmp 25) 23 rfl w.heap.size 25 i0 (.agg #[.int .i64 0, .int .i64 0]) 2 16 Tryd.underlying23 hi hz0 hz1' hz2 rfl (by decide) _ _ _ rfl (hown.alloc _) ⟨wr.heap.size, 0, none⟩ 1 1 [.int .i64 A, .int .i64 B] rfl rfl ?c1 ?c2 ?c3 ?c4 ?c5 ?_)
      case c1 =>
        intro j u hj
        match j, hj with
        | 0, hj => simp at hj; subst hj; exact cbx' _ _ _ _ 0 _ rfl rfl
        | 1, hj => simp at hj; subst hj; exact cbx' _ _ _ _ 1 _ rfl rfl
      case c2 => intro u hu; simp at hu; rcases hu with rfl | rfl <;> rfl
      case c3 => unfold maxLen; omega
      case c4 => omega
      case c5 => simp; omega
      · intro v' w3 hown' hgrow _
        have hB2 : Below w.heap.size w w3 := (belA hB _).grown hgrow (by simp; omega) (fun g hg => (hown.lt g hg).1)
        rw [← E.out] at hown'
        clear hgrow hown hB
        go_wp2
        go_roundw
        case rel => exact ⟨k + 1, by omega, by go_num, hown', hB2⟩
        case measure => simp [intOf]; omega
    · have E : Hid (us.take k = us) := Lib.hid (List.take_of_length_le (by rw [HLEN.out]; omega))
      have R := prow_own1 (l := us) (by rw [HLEN.out]; exact h0) (by have := hown; rw [E.out, show k = us.length by rw [HLEN.out]; omega] at this; exact this)
      obtain ⟨g', c', rfl, hR⟩ := R
      clear hown
      go_wp2
      go_ret
      exact ⟨⟨g', c', rfl, hR⟩, hB⟩

set_option maxHeartbeats 2000000 in
theorem back_is (ao : Option Addr) (n cap : Nat) (ps us : List (Int × Int)) (w : World) (hn : ps.length = n) (hu : Hid (bkL ps = us)) (h0 : 0 < ps.length) (hle : ps.length ≤ 1000000) (hP : PRow w ao ps) :
    Calls Tryd.prog 13 #[.slice ao n cap] w fun e w' => (∃ g' c' : Nat, e = .returned (.slice (some ⟨g', 0, none⟩) us.length c') ∧ PRow w' (some ⟨g', 0, none⟩) us) ∧ Below w.heap.size w w' := by
  subst hn
  have HLEN : Hid (us.length = ps.length) := Lib.hid (by rw [← hu.out, bkL_len])
  have HAT := Lib.hid (fun k (hk : k < ps.length) => (by rw [← hu.out]; exact bkL_at ps hk : cx us k = cx ps (ps.length - 1 - k) ∧ cy us k = cy ps (ps.length - 1 - k)))
  obtain ⟨i0, hi, hz0, hz1', hz2⟩ := info_parts infoP
  clear hu
  go_enter Tryd.func13, Tryd.ntmps13
  go_wp2
  go_loopw [3, 4] (fun v i wr => ∃ (q k : Nat) (z : Int), q + k = ps.length ∧ z = (q : Int) - 1 ∧ i = .int .i64 z ∧ wr.ownsRow w.heap.size 25 2 v k (flat (us.take k)) ∧ Below w.heap.size w wr) (fun _ i _ => (intOf i + 1).toNat)
  case atStart => exact ⟨ps.length, 0, _, by omega, rfl, by first | rfl | go_num, World.ownsRow_lit w #[] 0 (Nat.le_refl _) (by decide) rfl, belA (Below.refl _ _) _⟩
  case round =>
    obtain ⟨q, k, z, hqk, hz, rfl, hown, hB⟩ := hrel
    cases q with
    | succ j =>
      obtain rfl : z = (j : Int) := by omega
      have hlt : k < ps.length := by omega
      have hjl : j < ps.length := by omega
      obtain ⟨b, o, rfl, c1, c2⟩ := prow_at hP hjl
      have d1 := (hB.cell (World.block_lt_of_cell? w _ c1)).trans c1
      have d2 := (hB.cell (World.block_lt_of_cell? w _ c2)).trans c2
      have E : Hid (flat (us.take (k + 1)) = flat (us.take k) ++ [.int .i64 (cx ps j), .int .i64 (cy ps j)]) := Lib.hid (by rw [flat_take us k (by rw [HLEN.out]; exact hlt), (HAT.out k hlt).1, (HAT.out k hlt).2, show ps.length - 1 - k = j by omega])
      have hji : (j : Int) < ps.length := by omega
      have hjn : 0 ≤ (j : Int) := by omega
      have hBs := hB.size
      clear c1 c2 hz
      generalize cx ps j = A at *
      generalize cy ps j = B at *
      go_wp2_with (at_builtin; refine wpList_append_own _ rfl (.tmp 13) (.tmp 18) 23 rfl w.heap.size 25 i0 (.agg #[.int .i64 0, .int .i64 0]) 2 16 Tryd.underlying23 hi hz0 hz1' hz2 rfl (by decide) _ _ _ rfl (hown.alloc _) ⟨wr.heap.size, 0, none⟩ 1 1 [.int .i64 A, .int .i64 B] rfl rfl ?c1 ?c2 ?c3 ?c4 ?c5 ?_)
      case c1 =>
        intro j u hj
        match j, hj with
        | 0, hj => simp at hj; subst hj; exact cbx' _ _ _ _ 0 _ rfl rfl
        | 1, hj => simp at hj; subst hj; exact cbx' _ _ _ _ 1 _ rfl rfl
      case c2 => intro u hu; simp at hu; rcases hu with rfl | rfl <;> rfl
      case c3 => unfold maxLen; omega
      case c4 => omega
      case c5 => simp; omega
      · intro v' w3 hown' hgrow _
        have hB2 : Below w.heap.size w w3 := (belA hB _).grown hgrow (by simp; omega) (fun g hg => (hown.lt g hg).1)
        rw [← E.out] at hown'
        clear hgrow hown hB
        go_wp2
        go_roundw
        case rel => exact ⟨j, k + 1, (j : Int) - 1, by omega, rfl, by first | rfl | go_num, hown', hB2⟩
        case measure => first | (simp [intOf]; done) | (simp [intOf]; omega)
    | zero =>
      obtain rfl : z = -1 := by omega
      have E : Hid (us.take k = us) := Lib.hid (List.take_of_length_le (by rw [HLEN.out]; omega))
      have R := prow_own1 (l := us) (by rw [HLEN.out]; exact h0) (by have := hown; rw [E.out, show k = us.length by rw [HLEN.out]; omega] at this; exact this)
      obtain ⟨g', c', rfl, hR⟩ := R
      clear hown hz
      go_wp2
      go_ret
      exact ⟨⟨g', c', rfl, hR⟩, hB⟩
end Go.Proofs.YthmcejeeohlafaaDoor
