/- Contract of Fits: the first thirty points of a slice that came in, reduced to points in range, in a new slice. Condition: the cells of the slice read as the list says. -/
import Derived.Test.YthmcejeeohlafaaGeoFr
import Derived.Test.YthmcejeeohlafaaGeoF
import Derived.Test.YthmcejeeohlafaaGeoBlk
import Derived.OwnWalk
import Derived.Laws.OwnMore
import Derived.Deep.AppendLies
namespace Go.Proofs.Ythmcejeeohlafaa
open Go.ChangeShapes Go.WideShapes Go.ChangeAt Go.RowKit

def flat (l : List (Int × Int)) : List Value := l.flatMap fun p => [.int .i64 p.1, .int .i64 p.2]
theorem flat_len (l : List (Int × Int)) : (flat l).length = l.length * 2 := by
  induction l with
  | nil => rfl
  | cons p r ih => simp [flat] at ih ⊢; omega
theorem flat_app (l m : List (Int × Int)) : flat (l ++ m) = flat l ++ flat m := by simp [flat]
theorem flat_get (l : List (Int × Int)) : ∀ i, i < l.length → (flat l)[i * 2]? = some (.int .i64 (l.getD i (0, 0)).1) ∧ (flat l)[i * 2 + 1]? = some (.int .i64 (l.getD i (0, 0)).2) := by
  induction l with
  | nil => intro i h; simp at h
  | cons p r ih =>
    intro i h
    cases i with
    | zero => simp [flat]
    | succ i =>
      have := ih i (by simpa using h)
      rw [show (i + 1) * 2 = i * 2 + 2 by omega]
      simpa [flat] using this
theorem add_next (a : Addr) (n : Nat) : a.add (n + 1) = ⟨(a.add n).block, (a.add n).off + 1, none⟩ := by
  unfold Addr.add
  by_cases h : n = 0
  · subst h; simp
  · simp [h]; omega
def fitP (p : Int × Int) : Int × Int := (p.1.tmod 439400001, p.2.tmod 439400001)
theorem own_below {w w1 : World} {base n : Nat} {e : TypeId} {size : Nat} {v : Value} {xs : List Value} (h : w.ownsRow base e size v n xs) (hb : Below w.heap.size w w1) : w1.ownsRow base e size v n xs := by
  obtain ⟨h0, h1 | ⟨g, cap, cur, h2, h3, h4, h5⟩⟩ := h
  · exact ⟨h0, .inl h1⟩
  · exact ⟨h0, .inr ⟨g, cap, cur, h2, h3, blk_call h4 hb, h5⟩⟩
def fk (l : List (Int × Int)) (k : Nat) : List Value := flat ((l.take k).map fitP)
def fitL (l : List (Int × Int)) : List (Int × Int) := (l.take 30).map fitP
/-- What Fits returns. -/
def Fout (l : List (Int × Int)) (e : Ending) (w' : World) : Prop := ∃ ao' cap', e = .returned (.slice ao' (fitL l).length cap') ∧ PRow w' ao' (fitL l)
theorem fitL_len (l : List (Int × Int)) : (fitL l).length ≤ 30 := by simp [fitL]; omega
theorem prow_own {w : World} {base : Nat} {e : TypeId} {v : Value} {l : List (Int × Int)} (h : w.ownsRow base e 2 v l.length (flat l)) : ∃ ao cap, v = .slice ao l.length cap ∧ PRow w ao l := by
  have h0 := h
  obtain ⟨_, ⟨rfl, hn⟩ | ⟨g, cap, cur, rfl, _⟩⟩ := h
  · exact ⟨none, 0, by rw [hn], fun i hi => absurd hi (by omega)⟩
  · refine ⟨some ⟨g, 0, none⟩, cap, rfl, fun i hi => ⟨g, 0, rfl, ?_, ?_⟩⟩
    · rw [Nat.zero_add, h0.cellAt (i * 2) (by omega)]; exact (flat_get l i hi).1
    · rw [Nat.zero_add, h0.cellAt (i * 2 + 1) (by omega)]; exact (flat_get l i hi).2
theorem ret_v {a b : Value} (h : a = b) : Ending.returned a = .returned b := by rw [h]
theorem infoP : (Try.prog.info? 27).map (fun i => (i.zero, i.size, i.bytes)) = some (some (.agg #[.int .i64 0, .int .i64 0]), 2, 16) := by kernel_rfl

set_option maxHeartbeats 2000000 in
theorem fits_any (ao : Option Addr) (len cap : Nat) (l : List (Int × Int)) (w : World) (hA : APts w ao len l) :
    Calls Try.prog 6 #[.slice ao len cap] w fun e w' => Fout l e w' ∧ Below w.heap.size w w' := by
  obtain ⟨hlen, hcell⟩ := hA
  have HL := Lib.hid hlen
  obtain ⟨i0, hi, hz0, hz1', hz2⟩ := info_parts infoP
  clear hlen
  go_enter Try.func6, Try.ntmps6
  go_wp2
  go_loopw [3, 4] (fun v i wr => ∃ k : Nat, k ≤ len ∧ k ≤ 30 ∧ i = .int .i64 k ∧ wr.ownsRow w.heap.size 27 2 v k (fk l k) ∧ Below w.heap.size w wr) (fun _ i _ => 30 - (intOf i).toNat)
  case atStart => exact ⟨0, Nat.zero_le _, Nat.zero_le _, rfl, World.ownsRow_lit w #[] 0 (Nat.le_refl _) (by decide) rfl, belA (Below.refl _ _) _⟩
  case round =>
    obtain ⟨k, hk, hk2, rfl, hown, hB⟩ := hrel
    by_cases hlt : k < len
    · by_cases hlt2 : (k : Int) < 30
      · obtain ⟨a, rfl, c1, c2⟩ := hcell k hlt
        obtain ⟨e1, e2, he⟩ : ∃ e1 e2, l.getD k (0, 0) = (e1, e2) := ⟨_, _, rfl⟩
        rw [he] at c1 c2
        have d1 := (hB.cell (World.block_lt_of_cell? w _ c1)).trans c1
        have d2 := (hB.cell (World.block_lt_of_cell? w _ c2)).trans c2
        rw [add_next] at d2
        have E : Hid (fk l (k + 1) = fk l k ++ [.int .i64 (e1.tmod 439400001), .int .i64 (e2.tmod 439400001)]) := Lib.hid (by
          have hkl : k < l.length := by rw [HL.out]; exact hlt
          unfold fk
          rw [List.take_succ_eq_append_getElem hkl, List.map_append, flat_app]
          have : l[k] = (e1, e2) := by rw [← he, List.getD_eq_getElem?_getD, List.getElem?_eq_getElem hkl]; rfl
          rw [this]; rfl)
        clear hcell c1 c2 he
        go_wp2_with fail
        refine (fit_any _ _ _).mono ?_; rintro e w1 ⟨rfl, hb⟩
        replace hown : w1.ownsRow w.heap.size 27 2 u3 k (fk l k) := own_below hown hb
        replace hB := belT hB hb
        have hz1 := hB.size
        clear d1 d2 hb
        go_wp2_with (at_builtin; refine wpList_append_own _ rfl (.tmp 16) (.tmp 22) 22 rfl w.heap.size 27 i0 (.agg #[.int .i64 0, .int .i64 0]) 2 16 Try.underlying22 hi hz0 hz1' hz2 rfl (by decide) _ _ _ rfl (hown.alloc _) ⟨w1.heap.size, 0, none⟩ 1 1 [.int .i64 (e1.tmod 439400001), .int .i64 (e2.tmod 439400001)] rfl rfl ?c1 ?c2 ?c3 ?c4 ?c5 ?_)
        case c1 =>
          intro j u hj
          match j, hj with
          | 0, hj => simp at hj; subst hj; exact cbx _ _ _ _ 0 _ rfl rfl
          | 1, hj => simp at hj; subst hj; exact cbx _ _ _ _ 1 _ rfl rfl
        case c2 => intro u hu; simp at hu; rcases hu with rfl | rfl <;> rfl
        case c3 => unfold maxLen; omega
        case c4 => omega
        case c5 => simp; omega
        · intro v' w2 hown' hgrow _
          have hB2 : Below w.heap.size w w2 := (belA hB _).grown hgrow (by simp; omega) (fun g hg => (hown.lt g hg).1)
          rw [← E.out] at hown'
          clear hgrow hown hB
          go_wp2
          go_roundw
          case rel => exact ⟨k + 1, by omega, by omega, by go_num, hown', hB2⟩
          case measure => simp [intOf]; omega
      · have hk3 : k = 30 := by omega
        have E : Hid ((l.take k).map fitP = fitL l) := Lib.hid (by rw [hk3]; rfl)
        have hkf : decide ((k : Int) < 30) = false := by simpa using hlt2
        have R := prow_own (l := fitL l) (by rw [← E.out]; have := hown; rw [show ((l.take k).map fitP).length = k by have := HL.out; simp; omega]; exact this)
        clear hcell hk3
        go_wp2
        go_ret
        exact ⟨by obtain ⟨a', c', e1, e2⟩ := R; exact ⟨a', c', ret_v e1, e2⟩, hB⟩
    · have E : Hid ((l.take k).map fitP = fitL l) := Lib.hid (by
        unfold fitL
        rw [List.take_of_length_le (by rw [HL.out]; omega), List.take_of_length_le (by rw [HL.out]; omega)])
      have R := prow_own (l := fitL l) (by rw [← E.out]; have := hown; rw [show ((l.take k).map fitP).length = k by have := HL.out; simp; omega]; exact this)
      clear hcell
      go_wp2
      go_ret
      exact ⟨by obtain ⟨a', c', e1, e2⟩ := R; exact ⟨a', c', ret_v e1, e2⟩, hB⟩
end Go.Proofs.Ythmcejeeohlafaa
