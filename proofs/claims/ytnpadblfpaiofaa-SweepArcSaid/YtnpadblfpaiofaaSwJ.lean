/- What the laws of layer 6 share: bounds of the points. -/
import Derived.Test.YtnpadblfpaiofaaSwI
import Derived.Test.YtnpadblfpaiofaaHmA
import Derived.Test.YtnpadblfpaiofaaHlFr
namespace Go.Proofs.Ytnpadblfpaiofaa
open Go.ChangeShapes Go.WideShapes Go.ChangeAt Go.RowKit
set_option linter.unusedVariables false
set_option linter.unusedSimpArgs false

def In8 (x : Int) : Prop := -20000000 ≤ x ∧ x ≤ 20000000
def Small8 (l : List (Int × Int)) : Prop := ∀ q ∈ l, In8 q.1 ∧ In8 q.2
theorem in8_V {x : Int} (h : In8 x) : InV x := by unfold In8 at h; unfold InV; omega
theorem small8_V {l : List (Int × Int)} (h : Small8 l) : AllV l := (allV_iff l).2 fun q hq => ⟨in8_V (h q hq).1, in8_V (h q hq).2⟩
theorem small78 {l : List (Int × Int)} (h : Small7 l) : Small8 l := fun q hq => by have := h q hq; unfold In8; omega
theorem fit_in8 (x : Int) : In8 (fitI x) := by have := fit_bd x; unfold In8; omega
theorem str_in {c a b : Int} (hc : In8 c) (ha : In8 a) (hb : In8 b) : InV (strI c a b) := by
  unfold strI
  unfold In8 at *
  unfold InV
  obtain ⟨x, hx⟩ : ∃ x, 9 * (a + b - 2 * c) = x := ⟨_, rfl⟩
  rw [hx]
  by_cases h : 0 ≤ x
  · rw [Int.tdiv_eq_ediv_of_nonneg h]; omega
  · have e : x.tdiv 16 = -((-x).tdiv 16) := by rw [Int.neg_tdiv, Int.neg_neg]
    rw [e, Int.tdiv_eq_ediv_of_nonneg (by omega)]; omega
theorem out_allV {o : Int × Int} {a b : List (Int × Int)} (h1 : In8 o.1) (h2 : In8 o.2) (ha : Small8 a) (hb : Small8 b) : AllV (outL o a b) := (allV_iff _).2 fun q hq => by
  unfold outL at hq
  obtain ⟨i, hi, e⟩ := List.mem_iff_getElem.1 hq
  rw [List.length_zipWith] at hi
  rw [List.getElem_zipWith] at e
  have p1 := ha _ (List.getElem_mem (show i < a.length by omega))
  have p2 := hb _ (List.getElem_mem (show i < b.length by omega))
  rw [← e]
  exact ⟨str_in h1 p1.1 p2.1, str_in h2 p1.2 p2.2⟩
theorem pts_allV {o : Int × Int} {a b : List (Int × Int)} (h1 : In8 o.1) (h2 : In8 o.2) (ha : Small8 a) (hb : Small8 b) : AllV (ptsL o a b) := allV_app (allV_app (small8_V ha) (small8_V hb)) (out_allV h1 h2 ha hb)
theorem reg_allV {o : Int × Int} {a b : List (Int × Int)} (h1 : In8 o.1) (h2 : In8 o.2) (ha : Small8 a) (hb : Small8 b) : AllV (regL o a b) := by
  unfold regL
  split
  · exact hullL_allV (pts_allV h1 h2 ha hb)
  · exact allV_nil
theorem pts_len {o : Int × Int} {a b : List (Int × Int)} (h : a.length = b.length) : (ptsL o a b).length = 3 * a.length := by
  unfold ptsL; rw [List.length_append, List.length_append, outL_len _ _ _ h]; omega
theorem reg_len {o : Int × Int} {a b : List (Int × Int)} : (regL o a b).length ≤ 36 := by
  unfold regL
  split
  · rename_i h
    have := hullL_size (ptsL o a b)
    rw [pts_len h.1] at this
    omega
  · simp
end Go.Proofs.Ytnpadblfpaiofaa
