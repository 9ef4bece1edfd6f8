/- The same for a region in the order of the text. -/
import Derived.Test.YthmcejeeohlafaaDoorGeoReg
namespace Go.Proofs.YthmcejeeohlafaaDoor
open Go.ChangeShapes Go.WideShapes Go.ChangeAt Go.RowKit
section
variable {P : Program} {ops : Array Oper} {Q : Exit → Act → World → Prop} {sp : Told} {T0 : Array Value} {D0 : List Deferred} {w0 : World}
theorem ops_of_obs (hwf : wfB ops T0.size = true) (hob : Obs P ops Q sp T0 D0 w0 ops.toList)
    (hfin : ∀ T w, Below w0.heap.size w0 w → (∀ t, Free ops t → T[t]? = T0[t]?) → T.size = T0.size → (∀ j d, dstOf ops j = some d → ∃ v, T[d]? = some v ∧ Rt sp d v w) → Q .normal ⟨T, D0⟩ w) :
    ∀ (n i : Nat) (listed : Array Bool) (a : Act) (w : World), i + n = ops.size → (∀ j, j < ops.size → (listed.getD j false = true ↔ j < i)) → Inv ops sp T0 D0 w0 listed a w → wpOps P ops Q (List.range' i n) a w := by
  intro n
  induction n with
  | zero =>
    rintro i listed ⟨T, D⟩ w hn hl ⟨h1, rfl, h3, h4, h5, h6⟩
    refine hfin T w h1 h3 h4 (fun j d hjd => h6 j d ?_ hjd)
    have hj : j < ops.size := by
      unfold dstOf at hjd
      obtain ⟨o, ho, _⟩ := Option.bind_eq_some_iff.1 hjd
      exact (Array.getElem?_eq_some_iff.1 ho).1
    exact (hl j hj).2 (by omega)
  | succ n ih =>
    rintro i listed ⟨T, D⟩ w hn hl hI
    obtain rfl : D = D0 := hI.2.1
    have hlt : i < ops.size := by omega
    have ho : ops[i]? = some ops[i] := Array.getElem?_eq_getElem hlt
    have hob' := hob.get (i := i) (o := ops[i]) (by simp)
    have hst := hob' T w (fun a' w' => wpOps P ops Q (List.range' (i + 1) n) a' w') hI.1 hI.2.2.1
      (fun j d ⟨e, he, hej, hb⟩ hjd => by
        subst hej
        have hon := wf_after hwf ho e he hb
        exact hI.2.2.2.2.2 e.on d ((hl e.on (by omega)).2 hon) hjd)
      (fun v w' hb hv => ih (i + 1) (listed.setIfInBounds i true) _ _ (by omega) (fun j hj => by
        by_cases hij : i = j
        · subst hij
          have hbd : i < listed.size := by have := hI.2.2.2.2.1; omega
          simp [Array.getD, hbd]
        · rw [getD_set_ne false hij, hl j hj]; omega) (hI.next hwf ho hb hv))
    rw [List.range'_succ, wpOps_cons]
    unfold wpOp
    simp only [ho]
    split
    · rename_i hw; rw [if_pos hw] at hst; exact .inl hst
    · rename_i hw; rw [if_neg hw] at hst; exact hst
theorem region_text {id : Nat} (sp : Told) (hwf : wfB ops T0.size = true) (hob : Obs P ops Q sp T0 D0 w0 ops.toList)
    (hfin : ∀ T w, Below w0.heap.size w0 w → (∀ t, Free ops t → T[t]? = T0[t]?) → T.size = T0.size → (∀ j d, dstOf ops j = some d → ∃ v, T[d]? = some v ∧ Rt sp d v w) → Q .normal ⟨T, D0⟩ w) :
    (Code.region id ops false).wp P Q ⟨T0, D0⟩ w0 := by
  refine wp_region ?_
  rw [List.range_eq_range']
  refine ops_of_obs hwf hob hfin ops.size 0 (Array.replicate ops.size false) _ _ (by omega) (fun j hj => ?_) ⟨Below.refl _ _, rfl, fun t _ => rfl, rfl, by simp, fun j d hj _ => ?_⟩
  · simp [Array.getD, hj]
  · exfalso
    by_cases hb : j < ops.size
    · simp [Array.getD, hb] at hj
    · simp [Array.getD, hb] at hj
end
end Go.Proofs.YthmcejeeohlafaaDoor
