/- round of the laws of layer 3 once more: with the bounds of the capacity. -/
import Derived.Test.YthmcejeeohlafaaDoorPolN
namespace Go.Proofs.YthmcejeeohlafaaDoor
open Go.ChangeShapes Go.WideShapes Go.ChangeAt Go.RowKit
set_option linter.unusedVariables false
set_option linter.unusedSimpArgs false

theorem prow_own2 {w : World} {base : Nat} {e : TypeId} {v : Value} {l : List (Int × Int)} (hl : 0 < l.length) (h : w.ownsRow base e 2 v l.length (flat l)) : ∃ g cap, v = .slice (some ⟨g, 0, none⟩) l.length cap ∧ l.length ≤ cap ∧ cap ≤ maxLen ∧ PRow w (some ⟨g, 0, none⟩) l := by
  have h0 := h
  obtain ⟨_, ⟨rfl, hn⟩ | ⟨g, cap, cur, rfl, _, _, hc1, hc2, _⟩⟩ := h
  · omega
  · refine ⟨g, cap, rfl, hc1, hc2, fun i hi => ⟨g, 0, rfl, ?_, ?_⟩⟩
    · rw [Nat.zero_add, h0.cellAt (i * 2) (by omega)]; exact (flat_get l i hi).1
    · rw [Nat.zero_add, h0.cellAt (i * 2 + 1) (by omega)]; exact (flat_get l i hi).2
theorem prow_flat {w : World} {g o : Nat} {l : List (Int × Int)} (h : PRow w (some ⟨g, o, none⟩) l) : ∀ j u, (flat l)[j]? = some u → w.cell? ((⟨g, o, none⟩ : Addr).add j) = some u := fun j u hu => by
  have hj : j < (flat l).length := by
    rcases Nat.lt_or_ge j (flat l).length with k | k
    · exact k
    · rw [List.getElem?_eq_none k] at hu; cases hu
  rw [flat_len] at hj
  have ad : (⟨g, o, none⟩ : Addr).add j = ⟨g, o + j, none⟩ := by
    unfold Addr.add
    split
    · rename_i e; subst e; rfl
    · rfl
  rw [ad]
  obtain ⟨i, hi⟩ : ∃ i, i = j / 2 := ⟨_, rfl⟩
  obtain ⟨b, o', e, c1, c2⟩ := h i (by omega)
  cases e
  have fg := flat_get l i (by omega)
  by_cases k : j = i * 2
  · subst k
    rw [fg.1] at hu
    rw [c1]; exact hu
  · obtain rfl : j = i * 2 + 1 := by omega
    rw [fg.2] at hu
    rw [show o + (i * 2 + 1) = o + i * 2 + 1 by omega, c2]; exact hu
theorem prow_drop {w : World} {g o : Nat} {l : List (Int × Int)} (h : PRow w (some ⟨g, o, none⟩) l) (k : Nat) : PRow w (some ⟨g, o + k * 2, none⟩) (l.drop k) := fun i hi => by
  rw [List.length_drop] at hi
  obtain ⟨b, o', e, c1, c2⟩ := h (k + i) (by omega)
  cases e
  refine ⟨g, o + k * 2, rfl, ?_, ?_⟩
  · rw [show o + k * 2 + i * 2 = o + (k + i) * 2 by omega, c1, List.getD_eq_getElem?_getD, List.getD_eq_getElem?_getD, List.getElem?_drop]
  · rw [show o + k * 2 + i * 2 + 1 = o + (k + i) * 2 + 1 by omega, c2, List.getD_eq_getElem?_getD, List.getD_eq_getElem?_getD, List.getElem?_drop]
theorem flat_one (u : List (Int × Int)) : ∀ x ∈ flat u, x.oneCell' = true := by
  intro x hx
  unfold flat at hx
  obtain ⟨p, _, hp⟩ := List.mem_flatMap.1 hx
  simp at hp
  rcases hp with rfl | rfl <;> rfl
theorem le_of_own {a b n k : Nat} {c : Nat} (h : a ≤ b) (hk : (Value.slice (some ⟨b, 0, none⟩) n c).ownBlock = some k) : a ≤ k := by
  have : b = k := by simpa [Value.ownBlock] using hk
  omega
set_option maxHeartbeats 2000000 in
theorem round_own (ao : Option Addr) (n cap m : Nat) (ps us : List (Int × Int)) (w : World) (hn : ps.length = n) (hu : Hid (shL ps m = us)) (h0 : 0 < ps.length) (hle : ps.length ≤ 1000000) (hm : m ≤ 255) (hP : PRow w ao ps) :
    Calls Tryd.prog 12 #[.slice ao n cap, .int .u8 (m : Int)] w fun e w' => (∃ g' c' : Nat, e = .returned (.slice (some ⟨g', 0, none⟩) us.length c') ∧ us.length ≤ c' ∧ c' ≤ maxLen ∧ PRow w' (some ⟨g', 0, none⟩) us) ∧ Below w.heap.size w w' := by
  subst hn
  have HLEN : Hid (us.length = ps.length) := Lib.hid (by rw [← hu.out, shL_len])
  have HAT := Lib.hid (fun k (hk : k < ps.length) => (by rw [← hu.out]; exact shL_at ps m hk : cx us k = cx ps ((k + m) % ps.length) ∧ cy us k = cy ps ((k + m) % ps.length)))
  obtain ⟨i0, hi, hz0, hz1', hz2⟩ := info_parts infoP
  have hn0 : (ps.length : Int) ≠ 0 := by omega
  have hne : ¬ ps = [] := fun e => by rw [e] at h0; simp at h0
  clear hu
  go_enter Tryd.func12, Tryd.ntmps12
  go_wp2
  go_loopw [5, 6] (fun v i wr => ∃ k : Nat, k ≤ ps.length ∧ i = .int .i64 k ∧ wr.ownsRow w.heap.size 25 2 v k (flat (us.take k)) ∧ Below w.heap.size w wr) (fun _ i _ => ps.length - (intOf i).toNat)
  case atStart => exact ⟨0, Nat.zero_le _, rfl, World.ownsRow_lit w #[] 0 (Nat.le_refl _) (by decide) rfl, belA (Below.refl _ _) _⟩
  case round =>
    obtain ⟨k, hk, rfl, hown, hB⟩ := hrel
    by_cases hlt : k < ps.length
    · obtain ⟨j, hj⟩ : ∃ j, (k + m) % ps.length = j := ⟨_, rfl⟩
      have hjl : j < ps.length := by rw [← hj]; exact Nat.mod_lt _ h0
      obtain ⟨b, o, rfl, c1, c2⟩ := prow_at hP hjl
      have d1 := (hB.cell (World.block_lt_of_cell? w _ c1)).trans c1
      have d2 := (hB.cell (World.block_lt_of_cell? w _ c2)).trans c2
      have E : Hid (flat (us.take (k + 1)) = flat (us.take k) ++ [.int .i64 (cx ps j), .int .i64 (cy ps j)]) := Lib.hid (by rw [flat_take us k (by rw [HLEN.out]; exact hlt), (HAT.out k hlt).1, (HAT.out k hlt).2, hj])
      have hki : (k : Int) < ps.length := by omega
      have hji : (j : Int) < ps.length := by omega
      have hw1 : IntKind.i64.wrap ((k : Int) + (m : Int)) = (k : Int) + (m : Int) := wrap_k _ (by omega)
      have hwm : IntKind.i64.wrap (m : Int) = (m : Int) := wrap_k _ (by omega)
      have htm : ((k : Int) + (m : Int)).tmod (ps.length : Int) = (j : Int) := by
        rw [← hj, Int.tmod_eq_emod_of_nonneg (by omega)]; simp
      have hBs := hB.size
      clear c1 c2 hj
      generalize cx ps j = A at *
      generalize cy ps j = B at *
      go_wp2_with (at_builtin; refine wpList_append_own _ rfl (.tmp 14) (.tmp 25) 23 rfl w.heap.size 25 i0 (.agg #[.int .i64 0, .int .i64 0]) 2 16 Tryd.underlying23 hi hz0 hz1' hz2 rfl (by decide) _ _ _ rfl (hown.alloc _) ⟨wr.heap.size, 0, none⟩ 1 1 [.int .i64 A, .int .i64 B] rfl rfl ?c1 ?c2 ?c3 ?c4 ?c5 ?_)
      case c1 =>
        intro j u hj
        match j, hj with
        | 0, hj => simp at hj; subst hj; exact cbx' _ _ _ _ 0 _ rfl rfl
        | 1, hj => simp at hj; subst hj; exact cbx' _ _ _ _ 1 _ rfl rfl
      case c2 => intro u hu; simp at hu; rcases hu with rfl | rfl <;> rfl
      case c3 => unfold maxLen; omega
      case c4 => omega
      case c5 => simp; omega
      · intro v' w3 hown' hgrow _
        have hB2 : Below w.heap.size w w3 := (belA hB _).grown hgrow (by simp; omega) (fun g hg => (hown.lt g hg).1)
        rw [← E.out] at hown'
        clear hgrow hown hB
        go_wp2
        go_roundw
        case rel => exact ⟨k + 1, by omega, by go_num, hown', hB2⟩
        case measure => simp [intOf]; omega
    · have E : Hid (us.take k = us) := Lib.hid (List.take_of_length_le (by rw [HLEN.out]; omega))
      have R := prow_own2 (l := us) (by rw [HLEN.out]; exact h0) (by have := hown; rw [E.out, show k = us.length by rw [HLEN.out]; omega] at this; exact this)
      obtain ⟨g', c', rfl, hc1, hc2, hR⟩ := R
      clear hown
      go_wp2
      go_ret
      exact ⟨⟨g', c', rfl, hc1, hc2, hR⟩, hB⟩

end Go.Proofs.YthmcejeeohlafaaDoor
