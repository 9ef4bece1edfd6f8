/- Contracts of slices.Grow of nil, slices.Concat of two lists of points. -/
import Derived.Test.YtnpadblfpaiofaaHlF
namespace Go.Proofs.Ytnpadblfpaiofaa
open Go.ChangeShapes Go.WideShapes Go.ChangeAt Go.RowKit
set_option linter.unusedVariables false
set_option linter.unusedSimpArgs false

theorem grow_is (N : Nat) (w : World) (hN : N ≤ 1000000) :
    Calls Try.prog 63 #[.slice none 0 0, .int .i64 (N : Int)] w fun e w' => (∃ v, e = .returned v ∧ w'.ownsRow w.heap.size 35 2 v 0 []) ∧ Below w.heap.size w w' := by
  rcases Nat.eq_zero_or_pos N with rfl | h0
  · have C := Any8.slices_Grow_room growL none 0 0 0 w (by omega) (by omega) (by omega) (by omega)
    exact C.mono fun e w' ⟨h1, h2⟩ => ⟨⟨_, h1, ⟨rfl, .inl ⟨rfl, rfl⟩⟩⟩, by rw [h2]; exact Below.refl _ _⟩
  · obtain ⟨i0, hi, hz0, hz1', hz2⟩ := info_parts infoP
    have C := Any8.slices_Grow_grow growL i0 _ hi hz0 (by rw [hz1']; decide) none 0 0 N [] w (by omega) (by omega) (by rw [hz2]; omega) (by omega) (by simp) (fun _ => rfl) (fun a h => by cases h)
    refine C.mono fun e w' ⟨h1, h2⟩ => ⟨⟨_, h1, ?_⟩, ?_⟩
    · rw [h2]
      refine ⟨rfl, .inr ⟨w.heap.size, _, _, rfl, Nat.le_refl _, blk_new _ _ _ rfl, Nat.zero_le _, grownCap_le_maxLen w (0 + N) 0 _ (by unfold maxLen; omega), ?_, by simp⟩⟩
      have := grownCap_ge w (0 + N) 0 (growL_ren.t 25)
      rw [Array.size_append, Array.size_append, size_zeroCells, size_zeroCells]
      show 0 + (0 + N - 0) * 2 + (grownCap w (0 + N) 0 (growL_ren.t 25) - (0 + N)) * 2 = _
      omega
    · rw [h2]
      exact belA (Below.refl _ w).drew _

set_option maxHeartbeats 2000000 in
theorem concat_nil (bb cc : Nat) (w : World) (h1 : w.cell? ⟨bb, 0, none⟩ = some (.slice none 0 0)) (h2 : w.cell? ⟨bb, 1, none⟩ = some (.slice none 0 0)) :
    Calls Try.prog 44 #[.slice (some ⟨bb, 0, none⟩) 2 cc] w fun e w' => e = .returned (.slice none 0 0) ∧ w = w' := by
  have C := Lib.hid (Any8.slices_Grow_room growL none 0 0 0 w (by omega) (by omega) (by omega) (by omega))
  go_enter Try.func44, Try.ntmps44
  go_wp2
  go_loopw [3, 11] (fun s i wr => wr = w ∧ s = .int .i64 0 ∧ (i = .int .i64 0 ∨ i = .int .i64 1 ∨ i = .int .i64 2)) (fun _ i _ => 2 - (intOf i).toNat)
  case atStart => exact ⟨rfl, rfl, .inl rfl⟩
  case round =>
    obtain ⟨rfl, rfl, rfl | rfl | rfl⟩ := hrel
    · go_wp2
      go_roundw
      case rel => exact ⟨trivial, by go_num, .inr (.inl (by go_num))⟩
      case measure => simp [intOf]
    · go_wp2
      go_roundw
      case rel => exact ⟨trivial, by go_num, .inr (.inr (by go_num))⟩
      case measure => simp [intOf]
    · go_wp2_with (go_at_call 63; refine Calls.mono C.out ?_; rintro e w1 ⟨rfl, rfl⟩)
      go_loopw [6, 27] (fun v i wr => wr = w1 ∧ v = .slice none 0 0 ∧ (i = .int .i64 0 ∨ i = .int .i64 1 ∨ i = .int .i64 2)) (fun _ i _ => 2 - (intOf i).toNat)
      case atStart => exact ⟨rfl, rfl, .inl rfl⟩
      case round =>
        obtain ⟨rfl, rfl, rfl | rfl | rfl⟩ := hrel
        · go_wp2
          go_roundw
          case rel => exact ⟨trivial, by first | rfl | trivial, .inr (.inl (by go_num))⟩
          case measure => simp [intOf]
        · go_wp2
          go_roundw
          case rel => exact ⟨trivial, by first | rfl | trivial, .inr (.inr (by go_num))⟩
          case measure => simp [intOf]
        · go_wp2
          go_ret
          exact ⟨rfl, rfl⟩
set_option maxRecDepth 100000 in
set_option maxHeartbeats 4000000 in
theorem concat_some (bb cc g1 c1 g2 c2 : Nat) (l1 l2 : List (Int × Int)) (w : World) (hl : l1.length + l2.length ≤ 1000000) (h1 : w.cell? ⟨bb, 0, none⟩ = some (.slice (some ⟨g1, 0, none⟩) l1.length c1)) (h2 : w.cell? ⟨bb, 1, none⟩ = some (.slice (some ⟨g2, 0, none⟩) l2.length c2))
    (p1 : PRow w (some ⟨g1, 0, none⟩) l1) (p2 : PRow w (some ⟨g2, 0, none⟩) l2) :
    Calls Try.prog 44 #[.slice (some ⟨bb, 0, none⟩) 2 cc] w fun e w' => (∃ v, e = .returned v ∧ w'.ownsRow w.heap.size 35 2 v (l1.length + l2.length) (flat (l1 ++ l2))) ∧ Below w.heap.size w w' := by
  obtain ⟨i0, hi, hz0, hz1', hz2⟩ := info_parts infoP
  have C := Lib.hid (grow_is (l1.length + l2.length) w hl)
  have HP1 := Lib.hid p1
  have HP2 := Lib.hid p2
  have hzb := World.block_lt_of_cell? w _ h1
  have EC : ((l1.length + l2.length : Nat) : Int) = (l1.length : Int) + (l2.length : Int) := by omega
  rw [EC] at C
  obtain ⟨n1, hn1⟩ : ∃ n1, l1.length = n1 := ⟨_, rfl⟩
  obtain ⟨n2, hn2⟩ : ∃ n2, l2.length = n2 := ⟨_, rfl⟩
  have E1 := Lib.hid hn1
  have E2 := Lib.hid hn2
  rw [hn1, hn2] at C EC hl
  rw [hn1] at h1
  rw [hn2] at h2
  rw [hn1, hn2]
  have a1 : IntKind.i64.wrap ((n1 : Int) + (n2 : Int)) = (n1 : Int) + (n2 : Int) := wrap_k _ (by omega)
  have a2 : IntKind.i64.wrap (n1 : Int) = (n1 : Int) := wrap_k _ (by omega)
  have a3 : ¬ (n1 : Int) + (n2 : Int) < 0 := by omega
  have a4 : ¬ (n1 : Int) < 0 := by omega
  clear p1 p2 hn1 hn2 EC
  go_enter Try.func44, Try.ntmps44
  go_wp2
  go_loopw [3, 11] (fun s i wr => w = wr ∧ ((s = .int .i64 0 ∧ i = .int .i64 0) ∨ (s = .int .i64 n1 ∧ i = .int .i64 1) ∨ (s = .int .i64 ((n1 : Int) + n2) ∧ i = .int .i64 2))) (fun _ i _ => 2 - (intOf i).toNat)
  case atStart => exact ⟨rfl, .inl ⟨rfl, rfl⟩⟩
  case round =>
    obtain ⟨hww, ⟨rfl, rfl⟩ | ⟨rfl, rfl⟩ | ⟨rfl, rfl⟩⟩ := hrel
    all_goals subst hww
    · go_wp2
      go_roundw
      case rel => exact ⟨trivial, .inr (.inl ⟨by go_num, by go_num⟩)⟩
      case measure => simp [intOf]
    · go_wp2
      go_roundw
      case rel => exact ⟨trivial, .inr (.inr ⟨by go_num, by go_num⟩)⟩
      case measure => simp [intOf]
    · go_wp2_with (go_at_call 63; refine Calls.mono C.out ?_; rintro e w1 ⟨⟨v1, rfl, hO⟩, hB⟩)
      have b1 := (hB.cell (p := ⟨bb, 0, none⟩) hzb).trans h1
      have b2 := (hB.cell (p := ⟨bb, 1, none⟩) hzb).trans h2
      have HB := Lib.hid hB
      clear hB C
      go_loopw [6, 27] (fun v i wr => Below w.heap.size w wr ∧ ((i = .int .i64 0 ∧ wr.ownsRow w.heap.size 35 2 v 0 []) ∨ (i = .int .i64 1 ∧ wr.ownsRow w.heap.size 35 2 v (0 + n1) ([] ++ flat l1)) ∨ (i = .int .i64 2 ∧ wr.ownsRow w.heap.size 35 2 v (0 + n1 + n2) ([] ++ flat l1 ++ flat l2)))) (fun _ i _ => 2 - (intOf i).toNat)
      case atStart => exact ⟨HB.out, .inl ⟨rfl, hO⟩⟩
      case round =>
        obtain ⟨hB2, ⟨rfl, hO2⟩ | ⟨rfl, hO2⟩ | ⟨rfl, hO2⟩⟩ := hrel
        all_goals have d1 := (hB2.cell (p := ⟨bb, 0, none⟩) hzb).trans h1
        all_goals have d2 := (hB2.cell (p := ⟨bb, 1, none⟩) hzb).trans h2
        · go_wp2_with (at_builtin; refine wpList_append_own _ rfl _ _ 22 rfl w.heap.size 35 i0 (.agg #[.int .i64 0, .int .i64 0]) 2 16 Try.underlying22 hi hz0 hz1' hz2 rfl (by decide) _ _ _ rfl hO2 ⟨g1, 0, none⟩ n1 c1 (flat l1) rfl (by rw [flat_len, E1.out]) (prow_flat (prow_below HP1.out hB2)) (flat_one l1) (by unfold maxLen; omega) (by omega) hB2.size ?_)
          intro v' w3 hown' hgrow _
          have hB3 : Below w.heap.size w w3 := hB2.grown hgrow hB2.size (fun k hk => (hO2.lt k hk).1)
          have HO3 := Lib.hid hown'
          clear hgrow hown' hB2 hO2
          go_wp2
          go_roundw
          case rel => exact ⟨hB3, .inr (.inl ⟨by go_num, by simpa using HO3.out⟩)⟩
          case measure => simp [intOf]
        · go_wp2_with (at_builtin; refine wpList_append_own _ rfl _ _ 22 rfl w.heap.size 35 i0 (.agg #[.int .i64 0, .int .i64 0]) 2 16 Try.underlying22 hi hz0 hz1' hz2 rfl (by decide) _ _ _ rfl hO2 ⟨g2, 0, none⟩ n2 c2 (flat l2) rfl (by rw [flat_len, E2.out]) (prow_flat (prow_below HP2.out hB2)) (flat_one l2) (by unfold maxLen; omega) (by omega) hB2.size ?_)
          intro v' w3 hown' hgrow _
          have hB3 : Below w.heap.size w w3 := hB2.grown hgrow hB2.size (fun k hk => (hO2.lt k hk).1)
          have HO3 := Lib.hid hown'
          clear hgrow hown' hB2 hO2
          go_wp2
          go_roundw
          case rel => exact ⟨hB3, .inr (.inr ⟨by go_num, by simpa using HO3.out⟩)⟩
          case measure => simp [intOf]
        · have HO3 := Lib.hid hO2
          clear hO2
          go_wp2
          go_ret
          refine ⟨⟨_, rfl, ?_⟩, hB2⟩
          rw [flat_app]
          simpa using HO3.out
end Go.Proofs.Ytnpadblfpaiofaa
