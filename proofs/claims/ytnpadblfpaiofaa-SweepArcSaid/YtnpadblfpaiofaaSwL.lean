/- A drawn region, every operation told: any relation that lasts below, and no tail. -/
import Derived.Test.YtnpadblfpaiofaaHlV
namespace Go.Proofs.Ytnpadblfpaiofaa
open Go.ChangeShapes Go.WideShapes Go.ChangeAt Go.RowKit
set_option linter.unusedVariables false
section
variable {F : Fence} {n : Nat} {P : Program} {ops : Array Oper} {Q : Exit → Act → World → Prop} {R : Nat → Value → World → Prop} {T0 : Array Value} {D0 : List Deferred} {w0 : World}
theorem allR_in (hR : ∀ t v w w', R t v w → Below w.heap.size w w' → R t v w') (hF : F.fn = fun _ => True) (hd : F.depth = none) (ha : F.alive = false) (hnd : noDefer ops = true) (hwf : wfB ops T0.size = true) (hob : ∀ Q' : Exit → Act → World → Prop, ObsR ops.size P ops Q' R T0 D0 w0 ops.toList)
    (hfin : ∀ T w, Below w0.heap.size w0 w → (∀ t, FreeM ops ops.size t → T[t]? = T0[t]?) → T.size = T0.size → (∀ j d, j < ops.size → dstOf ops j = some d → ∃ v, T[d]? = some v ∧ R d v w) → Q .normal ⟨T, D0⟩ w) :
    ∀ (fuel : Nat) (listed : Array Bool) (a : Act) (w : World), left ops.size listed ≤ fuel → InvR ops.size ops R T0 D0 w0 listed a w → Shut ops listed → wpAnyIn F n P .any ops Q fuel listed a w := by
  have fin : ∀ (listed : Array Bool) (a : Act) (w : World), InvR ops.size ops R T0 D0 w0 listed a w → (∀ j, j < ops.size → listed.getD j true = true) → Q .normal a w := fun listed a w hI hall => by
    obtain ⟨T, D⟩ := a
    obtain rfl : D = D0 := hI.2.1
    have hsz := hI.2.2.2.2.1
    exact hfin T w hI.1 hI.2.2.1 hI.2.2.2.1 fun j d hj hjd => hI.2.2.2.2.2 j d (by rw [← getD_tf (by omega)]; exact hall j hj) hjd
  intro fuel
  induction fuel with
  | zero =>
    intro listed a w hl hI _
    have h0 : left ops.size listed = 0 := by omega
    have hall : ∀ j, j < ops.size → listed.getD j true = true := fun j hj => by
      have := List.countP_eq_zero.1 h0 j (List.mem_range.2 hj)
      simpa using this
    refine ⟨List.eq_nil_iff_forall_not_mem.2 fun i hi => ?_, fin listed a w hI hall⟩
    obtain ⟨hun, o, ho, _⟩ := mem_ready.1 hi
    have hlt : i < ops.size := (Array.getElem?_eq_some_iff.1 ho).1
    rw [hall i hlt] at hun
    cases hun
  | succ fuel ih =>
    intro listed a w hl hI hsh
    have hsz := hI.2.2.2.2.1
    refine ⟨fun hr => fin listed a w hI (all_listed hwf hsz hr), fun i hi => ?_⟩
    obtain ⟨hun, o, ho, hall⟩ := mem_ready.1 hi
    have hp := ready_preds hsz (fun ho => wf_after hwf ho) hi
    have hlt : i < ops.size := (Array.getElem?_eq_some_iff.1 ho).1
    have hdec : left ops.size (listed.setIfInBounds i true) ≤ fuel := by
      have : left ops.size (listed.setIfInBounds i true) < left ops.size listed := countP_lt (fun x _ hx => by
          by_cases hix : i = x
          · subst hix
            have hb : i < listed.size := by omega
            simp [Array.getD, hb] at hx
          · rwa [getD_set_ne true hix] at hx) ⟨i, List.mem_range.2 hlt, by rw [hun]; rfl, by
            have hb : i < listed.size := by omega
            simp [Array.getD, hb]⟩
      omega
    obtain ⟨T, D⟩ := a
    obtain rfl : D = D0 := hI.2.1
    have hob' := (hob fun _ _ _ => False).get (i := i) (o := o) (by simpa using ho)
    have hst := hob' T w (fun a' w' => wpAnyIn F n P .any ops Q fuel (listed.setIfInBounds i true) a' w') hI.1 hI.2.2.1
      (fun j d ⟨e, he, hej, hb⟩ hjd => by subst hej; exact hI.2.2.2.2.2 e.on d (hall e he hb) hjd)
      (fun v w' hb hv => ih _ _ _ hdec (InvR.next hR hwf hlt ho hI hb hv) (fun x hx j hj => by
          by_cases hij : i = j
          · subst hij
            have hb : i < listed.size := by omega
            simp [Array.getD, hb]
          · rw [getD_set_ne false hij]
            by_cases hix : i = x
            · subst hix; exact hp j hj
            · rw [getD_set_ne false hix] at hx; exact hsh x hx j hj))
    unfold wpOpIn
    simp only [ho]
    split
    · rename_i hw
      rw [if_pos hw] at hst
      have := op_in (n := n) hF hd ha (noDefer_at hnd ho) hst
      refine _root_.Go.Proofs.Ytnpadblfpaiofaa.Oper.wpIn_exits ?_ this
      intro e a w h
      exact h.elim
    · rename_i hw; rw [if_neg hw] at hst; exact ⟨fun f _ => by rw [hF]; trivial, hst⟩
theorem region_allR {id : Nat} (R : Nat → Value → World → Prop) (hR : ∀ t v w w', R t v w → Below w.heap.size w w' → R t v w') (hF : F.fn = fun _ => True) (hd : F.depth = none) (ha : F.alive = false) (hnd : noDefer ops = true) (hmx : P.follows .mixedOrders = true) (hwf : wfB ops T0.size = true) (hob : ∀ Q' : Exit → Act → World → Prop, ObsR ops.size P ops Q' R T0 D0 w0 ops.toList)
    (hfin : ∀ T w, Below w0.heap.size w0 w → (∀ t, FreeM ops ops.size t → T[t]? = T0[t]?) → T.size = T0.size → (∀ j d, j < ops.size → dstOf ops j = some d → ∃ v, T[d]? = some v ∧ R d v w) → Q .normal ⟨T, D0⟩ w) :
    (Code.region id ops true).wpIn F n P Q ⟨T0, D0⟩ w0 := by
  have hz : ∀ i, (Array.replicate ops.size false).getD i false = false := fun i => by
    by_cases hb : i < ops.size
    · simp [Array.getD, hb]
    · simp [Array.getD, hb]
  refine wpIn_region_any hmx (allR_in hR hF hd ha hnd hwf hob hfin _ _ _ _ ?_ ?_ (fun i hi => by rw [hz] at hi; cases hi))
  · have := List.countP_le_length (p := fun j => !(Array.replicate ops.size false).getD j true) (l := List.range ops.size)
    unfold left
    simpa using this
  · exact ⟨⟨rfl, rfl, rfl, Nat.le_refl _, fun _ _ => rfl⟩, rfl, fun _ _ => rfl, rfl, by simp, fun j d hj => by rw [hz] at hj; cases hj⟩
end
end Go.Proofs.Ytnpadblfpaiofaa
