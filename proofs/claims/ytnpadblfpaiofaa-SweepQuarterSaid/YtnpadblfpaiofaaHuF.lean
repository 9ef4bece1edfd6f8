/- Clipping ears as Decompose does it is one of the ways in which Clips speaks; mathematics alone. -/
import Derived.Test.YtnpadblfpaiofaaHlM
import Derived.Test.YtnpadblfpaiofaaHuD
namespace Go.Proofs.Ytnpadblfpaiofaa
open Go.ChangeShapes Go.WideShapes Go.ChangeAt Go.RowKit
set_option linter.unusedVariables false
set_option linter.unusedSimpArgs false

theorem nx_pv {n i : Nat} (h : i < n) : nx n (pv n i) = i := by
  unfold nx pv
  rw [Nat.mod_add_mod, show i + n - 1 + 1 = i + n by omega, Nat.add_mod_right, Nat.mod_eq_of_lt h]
theorem pv_nx {n i : Nat} (h : i < n) : pv n (nx n i) = i := by
  unfold nx pv
  by_cases g : i + 1 < n
  · rw [Nat.mod_eq_of_lt g, show i + 1 + n - 1 = i + n by omega, Nat.add_mod_right, Nat.mod_eq_of_lt h]
  · rw [show i + 1 = n by omega, Nat.mod_self, show 0 + n - 1 = i by omega, Nat.mod_eq_of_lt h]
theorem triP_eq {ps : List (Int × Int)} {i : Nat} (hi : i < ps.length) : triP ps i = triE ps (pv ps.length i) := by
  unfold triP triE triL
  rw [nx_pv hi]
  rfl
theorem in_iff {ps : List (Int × Int)} {i : Nat} (hi : i < ps.length) (p q : Int) : inB (triP ps i) p q = true ↔ Near3 ps (pv ps.length i) p q := by
  rw [triP_eq hi]
  unfold inB Near3
  rw [Bool.and_eq_true, Bool.and_eq_true, decide_eq_true_eq, decide_eq_true_eq, decide_eq_true_eq]
  rfl
theorem ear_iff {ps : List (Int × Int)} {i : Nat} (hi : i < ps.length) : earB ps i = true ↔ Ear ps (pv ps.length i) := by
  have hD : earD ps i = det (cx ps (pv ps.length i)) (cy ps (pv ps.length i)) (cx ps (nx ps.length (pv ps.length i))) (cy ps (nx ps.length (pv ps.length i))) (cx ps (nx ps.length (nx ps.length (pv ps.length i)))) (cy ps (nx ps.length (nx ps.length (pv ps.length i)))) := by
    unfold earD
    rw [triP_eq hi]
    rfl
  unfold earB Ear
  rw [Bool.and_eq_true, decide_eq_true_eq, hD, List.all_eq_true]
  refine and_congr Iff.rfl ⟨fun h x hx n0 n1 n2 hN => ?_, fun h x hx => ?_⟩
  · have k := h x (List.mem_range.2 hx)
    rw [nx_pv hi] at n1 n2
    unfold okE at k
    rw [(in_iff hi _ _).2 hN] at k
    simp [n0, n1, n2] at k
  · have k := h x (List.mem_range.1 hx)
    rw [nx_pv hi] at k
    unfold okE
    by_cases n0 : x = pv ps.length i
    · simp [n0]
    by_cases n1 : x = i
    · simp [n1]
    by_cases n2 : x = nx ps.length i
    · simp [n2]
    have := k n0 n1 n2
    have e : inB (triP ps i) (cx ps x) (cy ps x) = false := by
      rw [← Bool.not_eq_true]
      exact fun h => this ((in_iff hi _ _).1 h)
    rw [e]
    simp
theorem first_ear {ps : List (Int × Int)} (hG : Good ps) : ∃ i, i < ps.length ∧ firstE ps = some i ∧ Ear ps (pv ps.length i) := by
  obtain ⟨e, he, hE⟩ := ear_ex hG
  cases h : firstE ps with
  | none =>
    unfold firstE at h
    rw [List.find?_eq_none] at h
    have hn := nx_lt' he
    exact absurd ((ear_iff hn).2 (by rw [pv_nx he]; exact hE)) (h _ (List.mem_range.2 hn))
  | some i =>
    unfold firstE at h
    have hm := List.mem_of_find?_eq_some h
    have hp := List.find?_some h
    have hi := List.mem_range.1 hm
    exact ⟨i, hi, rfl, (ear_iff hi).1 hp⟩
theorem clip_is : ∀ (f : Nat) (rest : List (Int × Int)) (parts : List (List (Int × Int))), Good rest → rest.length < f + 3 → ∃ q, Clips rest q ∧ clipF f rest parts = parts ++ q
  | 0, rest, parts, hG, hl => by have := hG.1.1; omega
  | f + 1, rest, parts, hG, hl => by
    have h3 := hG.1.1
    by_cases h4 : 3 < rest.length
    · obtain ⟨i, hi, hf, hE⟩ := first_ear hG
      have hp : pv rest.length i < rest.length := pv_lt (by omega)
      obtain ⟨g, _, _⟩ := clip hG (by omega) hp hE
      rw [nx_pv hi] at g
      obtain ⟨q, hq, e⟩ := clip_is f (rest.eraseIdx i) (parts ++ [triP rest i]) g (by rw [List.length_eraseIdx_of_lt hi]; omega)
      refine ⟨triE rest (pv rest.length i) :: q, .step (by omega) hp hE (by rw [nx_pv hi]; exact hq), ?_⟩
      show (if 3 < rest.length then (match firstE rest with | none => [] | some e => clipF f (rest.eraseIdx e) (parts ++ [triP rest e])) else if rest.length < 3 then [] else parts ++ [triP rest 1]) = _
      rw [if_pos h4, hf]
      show clipF f (rest.eraseIdx i) (parts ++ [triP rest i]) = _
      rw [e, triP_eq hi, List.append_assoc]
      rfl
    · refine ⟨[rest], .done (by omega), ?_⟩
      show (if 3 < rest.length then (match firstE rest with | none => [] | some e => clipF f (rest.eraseIdx e) (parts ++ [triP rest e])) else if rest.length < 3 then [] else parts ++ [triP rest 1]) = _
      rw [if_neg h4, if_neg (by omega)]
      match rest, (show rest.length = 3 by omega) with
      | [a, b, c], _ =>
        have e : triP [a, b, c] 1 = [a, b, c] := by
          unfold triP
          rw [show [a, b, c].length = 3 from rfl, show pv 3 1 = 0 by decide, show nx 3 1 = 2 by decide]
          rfl
        rw [e]
theorem clipL_clips {ps : List (Int × Int)} (hG : Good ps) : Clips ps (clipL ps) := by
  obtain ⟨q, hq, e⟩ := clip_is (ps.length + 1) ps [] hG (by omega)
  unfold clipL
  rw [e]
  exact hq
end Go.Proofs.Ytnpadblfpaiofaa
