/- Mathematics of SweepMonotonic: fewer points, a smaller hull; how far an outer point lies. -/
import Derived.Test.YtnpadblfpaiofaaSwJ
namespace Go.Proofs.Ytnpadblfpaiofaa
open Go.ChangeShapes Go.WideShapes Go.ChangeAt Go.RowKit
set_option linter.unusedVariables false
set_option linter.unusedSimpArgs false

theorem pts_take {o : Int × Int} {a b : List (Int × Int)} {N : Nat} {q : Int × Int} (h : q ∈ ptsL o (a.take N) (b.take N)) : q ∈ ptsL o a b := by
  unfold ptsL at *
  rcases List.mem_append.1 h with h | h
  · rcases List.mem_append.1 h with h | h
    · exact List.mem_append_left _ (List.mem_append_left _ (List.mem_of_mem_take h))
    · exact List.mem_append_left _ (List.mem_append_right _ (List.mem_of_mem_take h))
  · refine List.mem_append_right _ ?_
    unfold outL at *
    rw [← List.take_zipWith] at h
    exact List.mem_of_mem_take h
theorem hull_sub {l m : List (Int × Int)} (hs : ∀ q, q ∈ l → q ∈ m) (h : hullL l ≠ []) : hullL m ≠ [] ∧ ∀ q, q ∈ hullL l → inAll (hullL m) q := by
  have hm : hullL m ≠ [] := fun e => by
    rcases hull_cases m with ⟨_, h2⟩ | ⟨h2, _⟩
    · rcases hull_cases l with ⟨h3, _⟩ | ⟨_, h3⟩
      · exact h h3
      · exact hull_not h3 fun a ha b hb c hc => h2 a (hs a ha) b (hs b hb) c (hs c hc)
    · exact h2 e
  refine ⟨hm, fun q hq i hi => ?_⟩
  rcases hull_cases m with ⟨h2, _⟩ | ⟨_, h2⟩
  · exact absurd h2 hm
  · rcases hull_cases l with ⟨h3, _⟩ | ⟨_, h3⟩
    · exact absurd h3 h
    · obtain ⟨j, hj, e⟩ := mem_gp hq
      exact h2.2.2.1 i hi q (hs q (e ▸ h3.2.1 j hj))
theorem tdiv_sq (y : Int) : 256 * (y.tdiv 16 * y.tdiv 16) ≤ y * y := by
  have key : ∀ y d : Int, 0 ≤ d → 16 * d ≤ y → 256 * (d * d) ≤ y * y := fun y d h0 h1 => by
    have := Int.mul_le_mul h1 h1 (by omega) (by omega)
    have e : 16 * d * (16 * d) = 256 * (d * d) := by grind
    omega
  rcases Int.le_total 0 y with h | h
  · rw [Int.tdiv_eq_ediv_of_nonneg h]; exact key _ _ (by omega) (by omega)
  · have e : y.tdiv 16 = -((-y).tdiv 16) := by rw [Int.neg_tdiv, Int.neg_neg]
    have k := key (-y) ((-y).tdiv 16) (by rw [Int.tdiv_eq_ediv_of_nonneg (by omega)]; omega) (by rw [Int.tdiv_eq_ediv_of_nonneg (by omega)]; omega)
    rw [e, Int.neg_mul_neg]
    rwa [Int.neg_mul_neg] at k
theorem str_far (c a b : Int) : 256 * ((strI c a b - c) * (strI c a b - c)) ≤ 162 * ((a - c) * (a - c)) + 162 * ((b - c) * (b - c)) := by
  have e : strI c a b - c = (9 * (a + b - 2 * c)).tdiv 16 := by unfold strI; omega
  rw [e]
  have h1 := tdiv_sq (9 * (a + b - 2 * c))
  have h2 := sq_nn ((a - c) - (b - c))
  have e1 : 9 * (a + b - 2 * c) * (9 * (a + b - 2 * c)) = 162 * ((a - c) * (a - c)) + 162 * ((b - c) * (b - c)) - 81 * (((a - c) - (b - c)) * ((a - c) - (b - c))) := by grind
  omega
theorem out_far {o : Int × Int} {a b : List (Int × Int)} {M : Int} (hab : a.length = b.length) (hM : 0 ≤ M) (h : ∀ i, i < a.length → farI (cx a i) (cy a i) o.1 o.2 ≤ M ∧ farI (cx b i) (cy b i) o.1 o.2 ≤ M) : ∀ q, q ∈ ptsL o a b → 64 * farI q.1 q.2 o.1 o.2 ≤ 81 * M := fun q hq => by
  have nn : ∀ x y : Int, 0 ≤ farI x y o.1 o.2 := fun x y => by
    unfold farI
    have := sq_nn (x - o.1)
    have := sq_nn (y - o.2)
    omega
  unfold ptsL at hq
  rcases List.mem_append.1 hq with h1 | h1
  · rcases List.mem_append.1 h1 with h1 | h1
    · obtain ⟨i, hi, e⟩ := mem_gp h1
      have := (h i hi).1
      rw [show cx a i = q.1 from congrArg Prod.fst e, show cy a i = q.2 from congrArg Prod.snd e] at this
      omega
    · obtain ⟨i, hi, e⟩ := mem_gp h1
      have := (h i (by omega)).2
      rw [show cx b i = q.1 from congrArg Prod.fst e, show cy b i = q.2 from congrArg Prod.snd e] at this
      omega
  · obtain ⟨i, hi, e⟩ := mem_gp h1
    rw [outL_len _ _ _ hab] at hi
    rw [outL_at o a b hab hi] at e
    obtain ⟨k1, k2⟩ := h i hi
    have s1 := str_far o.1 (gp a i).1 (gp b i).1
    have s2 := str_far o.2 (gp a i).2 (gp b i).2
    rw [← e]
    show 64 * farI (strI o.1 (gp a i).1 (gp b i).1) (strI o.2 (gp a i).2 (gp b i).2) o.1 o.2 ≤ _
    have e1 : cx a i = (gp a i).1 := rfl
    have e2 : cy a i = (gp a i).2 := rfl
    have e3 : cx b i = (gp b i).1 := rfl
    have e4 : cy b i = (gp b i).2 := rfl
    rw [e1, e2] at k1
    rw [e3, e4] at k2
    unfold farI at *
    omega
theorem far_bd {a b c d : Int} (ha : In8 a) (hb : In8 b) (hc : In8 c) (hd : In8 d) : 0 ≤ farI a b c d ∧ farI a b c d ≤ 4000000000000000 := by
  unfold farI
  unfold In8 at *
  have h : ∀ x : Int, -40000000 ≤ x → x ≤ 40000000 → x * x ≤ 1600000000000000 := fun x h1 h2 => by
    rcases Int.le_total 0 x with h | h
    · have := Int.mul_le_mul h2 h2 h (by omega); omega
    · have := Int.mul_le_mul (show -x ≤ 40000000 by omega) (show -x ≤ 40000000 by omega) (by omega) (by omega)
      rw [Int.neg_mul_neg] at this; omega
  have h1 := h (a - c) (by omega) (by omega)
  have h2 := h (b - d) (by omega) (by omega)
  have h3 := sq_nn (a - c)
  have h4 := sq_nn (b - d)
  omega
end Go.Proofs.Ytnpadblfpaiofaa
