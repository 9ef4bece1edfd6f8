/- The parts of a decomposition are convex and few. Mathematics alone. -/
import Derived.Test.YtnpadblfpaiofaaHuG
namespace Go.Proofs.Ytnpadblfpaiofaa
open Go.ChangeShapes Go.WideShapes Go.ChangeAt Go.RowKit
set_option linter.unusedVariables false
set_option linter.unusedSimpArgs false

theorem dec_few {ps : List (Int × Int)} (h : validP ps = true) : 0 < (decL ps).length ∧ (decL ps).length ≤ 12 ∧ ∀ t, t ∈ decL ps → Conv t ∧ t.length ≤ 12 ∧ AllV t := by
  obtain ⟨h3, h12, hV⟩ := valid_parts h
  have hG : Good ps := (ccw_valid h).good
  cases hc : convB ps with
  | true =>
    rw [dec_conv hc]
    refine ⟨by simp, by simp, fun t ht => ?_⟩
    rw [List.mem_singleton.1 ht]
    exact ⟨(convB_iff ps).1 hc, h12, hV⟩
  | false =>
    have hcl := dec_clips h hc
    have hl := clips_len hcl
    refine ⟨by omega, by omega, fun t ht => ?_⟩
    obtain ⟨q1, q2, q3⟩ := hcl.part hG ht
    exact ⟨tri_conv3 q1 q2, by omega, allV_sub hV q3⟩
end Go.Proofs.Ytnpadblfpaiofaa
