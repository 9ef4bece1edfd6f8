/- Fits once more: the row that it returns is its own. The fold of a longer list. -/
import Derived.Test.YthmcejeeohlafaaGeoQ
namespace Go.Proofs.Ythmcejeeohlafaa
open Go.ChangeShapes Go.WideShapes Go.ChangeAt Go.RowKit

/-- What Fits returns: a row of its own. -/
def Fown (base : Nat) (l : List (Int × Int)) (e : Ending) (w' : World) : Prop := ∃ g cap, e = .returned (.slice (some ⟨g, 0, none⟩) (fitL l).length cap) ∧ w'.ownsRow base 27 2 (.slice (some ⟨g, 0, none⟩) (fitL l).length cap) (fitL l).length (flat (fitL l))
theorem own_form {w : World} {base : Nat} {e : TypeId} {v : Value} {l : List (Int × Int)} (h : w.ownsRow base e 2 v l.length (flat l)) (hn : v ≠ .slice none 0 0) : ∃ g cap, v = .slice (some ⟨g, 0, none⟩) l.length cap ∧ w.ownsRow base e 2 (.slice (some ⟨g, 0, none⟩) l.length cap) l.length (flat l) := by
  have h0 := h
  obtain ⟨_, ⟨rfl, _⟩ | ⟨g, cap, cur, rfl, _⟩⟩ := h
  · exact absurd rfl hn
  · exact ⟨g, cap, rfl, h0⟩

set_option maxHeartbeats 2000000 in
theorem fits_own (ao : Option Addr) (len cap : Nat) (l : List (Int × Int)) (w : World) (hA : APts w ao len l) :
    Calls Try.prog 6 #[.slice ao len cap] w fun e w' => Fown w.heap.size l e w' ∧ Below w.heap.size w w' := by
  obtain ⟨hlen, hcell⟩ := hA
  have HL := Lib.hid hlen
  obtain ⟨i0, hi, hz0, hz1', hz2⟩ := info_parts infoP
  clear hlen
  go_enter Try.func6, Try.ntmps6
  go_wp2
  go_loopw [3, 4] (fun v i wr => ∃ k : Nat, k ≤ len ∧ k ≤ 30 ∧ i = .int .i64 k ∧ wr.ownsRow w.heap.size 27 2 v k (fk l k) ∧ Below w.heap.size w wr ∧ v ≠ .slice none 0 0) (fun _ i _ => 30 - (intOf i).toNat)
  case atStart => exact ⟨0, Nat.zero_le _, Nat.zero_le _, rfl, World.ownsRow_lit w #[] 0 (Nat.le_refl _) (by decide) rfl, belA (Below.refl _ _) _, by simp⟩
  case round =>
    obtain ⟨k, hk, hk2, rfl, hown, hB, hnn⟩ := hrel
    by_cases hlt : k < len
    · by_cases hlt2 : (k : Int) < 30
      · obtain ⟨a, rfl, c1, c2⟩ := hcell k hlt
        obtain ⟨e1, e2, he⟩ : ∃ e1 e2, l.getD k (0, 0) = (e1, e2) := ⟨_, _, rfl⟩
        rw [he] at c1 c2
        have d1 := (hB.cell (World.block_lt_of_cell? w _ c1)).trans c1
        have d2 := (hB.cell (World.block_lt_of_cell? w _ c2)).trans c2
        rw [add_next] at d2
        have E : Hid (fk l (k + 1) = fk l k ++ [.int .i64 (e1.tmod 439400001), .int .i64 (e2.tmod 439400001)]) := Lib.hid (by
          have hkl : k < l.length := by rw [HL.out]; exact hlt
          unfold fk
          rw [List.take_succ_eq_append_getElem hkl, List.map_append, flat_app]
          have : l[k] = (e1, e2) := by rw [← he, List.getD_eq_getElem?_getD, List.getElem?_eq_getElem hkl]; rfl
          rw [this]; rfl)
        clear hcell c1 c2 he
        go_wp2_with fail
        refine (fit_any _ _ _).mono ?_; rintro e w1 ⟨rfl, hb⟩
        replace hown : w1.ownsRow w.heap.size 27 2 u3 k (fk l k) := own_below hown hb
        replace hB := belT hB hb
        have hz1 := hB.size
        clear d1 d2 hb
        go_wp2_with (at_builtin; refine wpList_append_own _ rfl (.tmp 16) (.tmp 22) 22 rfl w.heap.size 27 i0 (.agg #[.int .i64 0, .int .i64 0]) 2 16 Try.underlying22 hi hz0 hz1' hz2 rfl (by decide) _ _ _ rfl (hown.alloc _) ⟨w1.heap.size, 0, none⟩ 1 1 [.int .i64 (e1.tmod 439400001), .int .i64 (e2.tmod 439400001)] rfl rfl ?c1 ?c2 ?c3 ?c4 ?c5 ?_)
        case c1 =>
          intro j u hj
          match j, hj with
          | 0, hj => simp at hj; subst hj; exact cbx _ _ _ _ 0 _ rfl rfl
          | 1, hj => simp at hj; subst hj; exact cbx _ _ _ _ 1 _ rfl rfl
        case c2 => intro u hu; simp at hu; rcases hu with rfl | rfl <;> rfl
        case c3 => unfold maxLen; omega
        case c4 => omega
        case c5 => simp; omega
        · intro v' w2 hown' hgrow hnil
          have hnn' : v' ≠ .slice none 0 0 := by intro h; first | exact hnil h | exact hnn (hnil.1 h).1
          have hB2 : Below w.heap.size w w2 := (belA hB _).grown hgrow (by simp; omega) (fun g hg => (hown.lt g hg).1)
          rw [← E.out] at hown'
          clear hgrow hown hB hnil hnn
          go_wp2
          go_roundw
          case rel => exact ⟨k + 1, by omega, by omega, by go_num, hown', hB2, hnn'⟩
          case measure => simp [intOf]; omega
      · have hk3 : k = 30 := by omega
        have E : Hid ((l.take k).map fitP = fitL l) := Lib.hid (by rw [hk3]; rfl)
        have hkf : decide ((k : Int) < 30) = false := by simpa using hlt2
        have R := own_form (l := fitL l) (by rw [← E.out]; have := hown; rw [show ((l.take k).map fitP).length = k by have := HL.out; simp; omega]; exact this) hnn
        clear hcell hk3 hnn
        go_wp2
        go_ret
        exact ⟨by obtain ⟨g, c', e1, e2⟩ := R; exact ⟨g, c', ret_v e1, e2⟩, hB⟩
    · have E : Hid ((l.take k).map fitP = fitL l) := Lib.hid (by
        unfold fitL
        rw [List.take_of_length_le (by rw [HL.out]; omega), List.take_of_length_le (by rw [HL.out]; omega)])
      have R := own_form (l := fitL l) (by rw [← E.out]; have := hown; rw [show ((l.take k).map fitP).length = k by have := HL.out; simp; omega]; exact this) hnn
      clear hcell hnn
      go_wp2
      go_ret
      exact ⟨by obtain ⟨g, c', e1, e2⟩ := R; exact ⟨g, c', ret_v e1, e2⟩, hB⟩

theorem low_le (l : List (Int × Int)) : ∀ i, i < l.length → (foldP lowP l).1 ≤ (l.getD i (0, 0)).1 ∧ (foldP lowP l).2 ≤ (l.getD i (0, 0)).2 := by
  have key : ∀ k, k ≤ l.length → ∀ i, i < k → (foldP lowP (l.take k)).1 ≤ (l.getD i (0, 0)).1 ∧ (foldP lowP (l.take k)).2 ≤ (l.getD i (0, 0)).2 := by
    intro k
    induction k with
    | zero => intro _ i hi; omega
    | succ k ih =>
      intro hk i hi
      by_cases h0 : k = 0
      · subst h0
        obtain rfl : i = 0 := by omega
        rw [foldP_one lowP l (by omega)]
        exact ⟨Int.le_refl _, Int.le_refl _⟩
      · rw [foldP_succ lowP l k (by omega) (by omega)]
        have m1 := (mnI_bd (foldP lowP (l.take k)).1 (l.getD k (0, 0)).1).1
        have m2 := (mnI_bd (foldP lowP (l.take k)).2 (l.getD k (0, 0)).2).1
        by_cases hik : i = k
        · subst hik; exact ⟨m1.2, m2.2⟩
        · have := ih (by omega) i (by omega)
          exact ⟨Int.le_trans m1.1 this.1, Int.le_trans m2.1 this.2⟩
  intro i hi
  have := key l.length (Nat.le_refl _) i hi
  rwa [List.take_length] at this
theorem upp_ge (l : List (Int × Int)) : ∀ i, i < l.length → (l.getD i (0, 0)).1 ≤ (foldP uppP l).1 ∧ (l.getD i (0, 0)).2 ≤ (foldP uppP l).2 := by
  have key : ∀ k, k ≤ l.length → ∀ i, i < k → (l.getD i (0, 0)).1 ≤ (foldP uppP (l.take k)).1 ∧ (l.getD i (0, 0)).2 ≤ (foldP uppP (l.take k)).2 := by
    intro k
    induction k with
    | zero => intro _ i hi; omega
    | succ k ih =>
      intro hk i hi
      by_cases h0 : k = 0
      · subst h0
        obtain rfl : i = 0 := by omega
        rw [foldP_one uppP l (by omega)]
        exact ⟨Int.le_refl _, Int.le_refl _⟩
      · rw [foldP_succ uppP l k (by omega) (by omega)]
        have m1 := (mxI_bd (foldP uppP (l.take k)).1 (l.getD k (0, 0)).1).1
        have m2 := (mxI_bd (foldP uppP (l.take k)).2 (l.getD k (0, 0)).2).1
        by_cases hik : i = k
        · subst hik; exact ⟨m1.2, m2.2⟩
        · have := ih (by omega) i (by omega)
          exact ⟨Int.le_trans this.1 m1.1, Int.le_trans this.2 m2.1⟩
  intro i hi
  have := key l.length (Nat.le_refl _) i hi
  rwa [List.take_length] at this
/-- Each side of a box touches a point. -/
theorem low_met (l : List (Int × Int)) (h : 0 < l.length) : (∃ i, i < l.length ∧ (l.getD i (0, 0)).1 = (foldP lowP l).1) ∧ ∃ i, i < l.length ∧ (l.getD i (0, 0)).2 = (foldP lowP l).2 := by
  have key : ∀ k, 0 < k → k ≤ l.length → (∃ i, i < k ∧ (l.getD i (0, 0)).1 = (foldP lowP (l.take k)).1) ∧ ∃ i, i < k ∧ (l.getD i (0, 0)).2 = (foldP lowP (l.take k)).2 := by
    intro k
    induction k with
    | zero => intro h; omega
    | succ k ih =>
      intro _ hk
      by_cases h0 : k = 0
      · subst h0
        rw [foldP_one lowP l (by omega)]
        exact ⟨⟨0, by omega, rfl⟩, 0, by omega, rfl⟩
      · rw [foldP_succ lowP l k (by omega) (by omega)]
        obtain ⟨⟨i, hi, ei⟩, j, hj, ej⟩ := ih (by omega) (by omega)
        have m1 := (mnI_bd (foldP lowP (l.take k)).1 (l.getD k (0, 0)).1).2
        have m2 := (mnI_bd (foldP lowP (l.take k)).2 (l.getD k (0, 0)).2).2
        refine ⟨?_, ?_⟩
        · rcases m1 with e | e
          · exact ⟨i, by omega, ei.trans e.symm⟩
          · exact ⟨k, by omega, e.symm⟩
        · rcases m2 with e | e
          · exact ⟨j, by omega, ej.trans e.symm⟩
          · exact ⟨k, by omega, e.symm⟩
  have := key l.length h (Nat.le_refl _)
  rwa [List.take_length] at this
theorem upp_met (l : List (Int × Int)) (h : 0 < l.length) : (∃ i, i < l.length ∧ (l.getD i (0, 0)).1 = (foldP uppP l).1) ∧ ∃ i, i < l.length ∧ (l.getD i (0, 0)).2 = (foldP uppP l).2 := by
  have key : ∀ k, 0 < k → k ≤ l.length → (∃ i, i < k ∧ (l.getD i (0, 0)).1 = (foldP uppP (l.take k)).1) ∧ ∃ i, i < k ∧ (l.getD i (0, 0)).2 = (foldP uppP (l.take k)).2 := by
    intro k
    induction k with
    | zero => intro h; omega
    | succ k ih =>
      intro _ hk
      by_cases h0 : k = 0
      · subst h0
        rw [foldP_one uppP l (by omega)]
        exact ⟨⟨0, by omega, rfl⟩, 0, by omega, rfl⟩
      · rw [foldP_succ uppP l k (by omega) (by omega)]
        obtain ⟨⟨i, hi, ei⟩, j, hj, ej⟩ := ih (by omega) (by omega)
        have m1 := (mxI_bd (foldP uppP (l.take k)).1 (l.getD k (0, 0)).1).2
        have m2 := (mxI_bd (foldP uppP (l.take k)).2 (l.getD k (0, 0)).2).2
        refine ⟨?_, ?_⟩
        · rcases m1 with e | e
          · exact ⟨i, by omega, ei.trans e.symm⟩
          · exact ⟨k, by omega, e.symm⟩
        · rcases m2 with e | e
          · exact ⟨j, by omega, ej.trans e.symm⟩
          · exact ⟨k, by omega, e.symm⟩
  have := key l.length h (Nat.le_refl _)
  rwa [List.take_length] at this
end Go.Proofs.Ythmcejeeohlafaa
