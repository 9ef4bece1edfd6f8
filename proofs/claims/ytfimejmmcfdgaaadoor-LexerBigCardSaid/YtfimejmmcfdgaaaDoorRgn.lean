/- A drawn region whose told values are any relation that lasts below; and a drawn region that reads, whose callees are known by what they leave below. -/
import Derived.Test.YtfimejmmcfdgaaaDoorHb
namespace Go.Proofs.YtfimejmmcfdgaaaDoor
open Go.ChangeShapes Go.WideShapes Go.ChangeAt Go.RowKit
set_option linter.unusedVariables false
section
variable {F : Fence} {n : Nat} {P : Program} {ops : Array Oper} {Q : Exit → Act → World → Prop} {R : Nat → Value → World → Prop} {T0 : Array Value} {D0 : List Deferred} {w0 : World}

/-- What is asked of operation o. -/
def ObR (m : Nat) (P : Program) (ops : Array Oper) (Q : Exit → Act → World → Prop) (R : Nat → Value → World → Prop) (T0 : Array Value) (D0 : List Deferred) (w0 : World) (o : Oper) : Prop :=
  ∀ (T : Array Value) (w : World) (K : Act → World → Prop), Below w0.heap.size w0 w → (∀ t, FreeM ops m t → T[t]? = T0[t]?) →
    (∀ j d, (∃ e ∈ o.after, e.on = j ∧ Region.binds .any e = true) → dstOf ops j = some d → ∃ v, T[d]? = some v ∧ R d v w) →
    (∀ v w', Below w.heap.size w w' → (∀ d, o.dst = some d → R d v w') → K (Act.put ⟨T, D0⟩ o.dst v) w') →
    if Region.wanted o (yielded ops T) = true then Oper.wp P o ⟨T, D0⟩ w K Q else K (Act.put ⟨T, D0⟩ o.dst undef) w
def ObsR (m : Nat) (P : Program) (ops : Array Oper) (Q : Exit → Act → World → Prop) (R : Nat → Value → World → Prop) (T0 : Array Value) (D0 : List Deferred) (w0 : World) : List Oper → Prop
  | [] => True
  | o :: r => ObR m P ops Q R T0 D0 w0 o ∧ ObsR m P ops Q R T0 D0 w0 r
theorem ObsR.get {m : Nat} : ∀ {l : List Oper} {i : Nat} {o : Oper}, ObsR m P ops Q R T0 D0 w0 l → l[i]? = some o → ObR m P ops Q R T0 D0 w0 o
  | [], _, _, _, h => by simp at h
  | x :: r, 0, o, h, e => by simp at e; subst e; exact h.1
  | x :: r, i + 1, o, h, e => ObsR.get (l := r) (i := i) h.2 (by simpa using e)

/-- What holds while the region runs. -/
def InvR (m : Nat) (ops : Array Oper) (R : Nat → Value → World → Prop) (T0 : Array Value) (D0 : List Deferred) (w0 : World) (listed : Array Bool) (a : Act) (w : World) : Prop :=
  Below w0.heap.size w0 w ∧ a.defers = D0 ∧ (∀ t, FreeM ops m t → a.tmps[t]? = T0[t]?) ∧ a.tmps.size = T0.size ∧ listed.size = ops.size ∧
    ∀ j d, listed.getD j false = true → dstOf ops j = some d → ∃ v, a.tmps[d]? = some v ∧ R d v w
theorem InvR.next (hR : ∀ t v w w', R t v w → Below w.heap.size w w' → R t v w') {m : Nat} {listed : Array Bool} {T : Array Value} {w w' : World} {i : Nat} {o : Oper} {v : Value} (hwf : wfB ops T0.size = true) (him : i < m) (ho : ops[i]? = some o)
    (h : InvR m ops R T0 D0 w0 listed ⟨T, D0⟩ w) (hb : Below w.heap.size w w') (hv : ∀ d, o.dst = some d → R d v w') :
    InvR m ops R T0 D0 w0 (listed.setIfInBounds i true) (Act.put ⟨T, D0⟩ o.dst v) w' := by
  obtain ⟨h1, _, h3, h4, h5, h6⟩ := h
  have hB : Below w0.heap.size w0 w' := h1.trans (hb.mono h1.size)
  have hdi : dstOf ops i = o.dst := by unfold dstOf; rw [ho]; rfl
  cases hd : o.dst with
  | none =>
    refine ⟨hB, rfl, h3, h4, by simpa using h5, fun j d hj hjd => ?_⟩
    have hne : i ≠ j := fun e => by subst e; rw [hdi, hd] at hjd; cases hjd
    rw [getD_set_ne false hne] at hj
    obtain ⟨u, hu, hr⟩ := h6 j d hj hjd
    exact ⟨u, hu, hR _ _ _ _ hr hb⟩
  | some d0 =>
    rw [hd] at hdi
    have hlt := (wf_dst hwf hdi).1
    refine ⟨hB, rfl, fun t ht => ?_, ?_, by simpa using h5, fun j d hj hjd => ?_⟩
    · have hne : d0 ≠ t := fun e => ht i him (by rw [hdi, e])
      show (T.setIfInBounds d0 v)[t]? = _
      rw [Array.getElem?_setIfInBounds_ne hne]
      exact h3 t ht
    · show (T.setIfInBounds d0 v).size = _
      simpa using h4
    · show ∃ u, (T.setIfInBounds d0 v)[d]? = some u ∧ R d u w'
      by_cases hij : i = j
      · subst hij
        obtain rfl : d0 = d := Option.some.inj (hdi.symm.trans hjd)
        exact ⟨v, by rw [Array.getElem?_setIfInBounds_self_of_lt (by simp at h4; omega)], hv d0 hd⟩
      · rw [getD_set_ne false hij] at hj
        obtain ⟨u, hu, hr⟩ := h6 j d hj hjd
        have hne : d0 ≠ d := fun e => hij (wf_inj hwf (hdi.trans (by rw [e])) hjd)
        exact ⟨u, by rw [Array.getElem?_setIfInBounds_ne hne]; exact hu, hR _ _ _ _ hr hb⟩

theorem headR_in (hR : ∀ t v w w', R t v w → Below w.heap.size w w' → R t v w') (hF : F.fn = fun _ => True) (hd : F.depth = none) (ha : F.alive = false) (hnd : noDefer ops = true) {m : Nat} (hm : m < ops.size) (hfo : forced ops m = true) (hwf : wfB ops T0.size = true) (hob : ∀ Q' : Exit → Act → World → Prop, ObsR m P ops Q' R T0 D0 w0 (ops.toList.take m))
    (hfin : ∀ T w, Below w0.heap.size w0 w → (∀ t, FreeM ops m t → T[t]? = T0[t]?) → T.size = T0.size → (∀ j d, j < m → dstOf ops j = some d → ∃ v, T[d]? = some v ∧ R d v w) → wpOpsIn F n P ops Q (List.range' m (ops.size - m)) ⟨T, D0⟩ w) :
    ∀ (fuel : Nat) (listed : Array Bool) (a : Act) (w : World), left ops.size listed ≤ fuel → InvR m ops R T0 D0 w0 listed a w → Shut ops listed → (∀ i, m ≤ i → listed.getD i false = false) → wpAnyIn F n P .any ops Q fuel listed a w := by
  intro fuel
  induction fuel with
  | zero =>
    intro listed a w hl hI _ hno
    exfalso
    have h0 : left ops.size listed = 0 := by omega
    have := List.countP_eq_zero.1 h0 m (List.mem_range.2 hm)
    have hsz := hI.2.2.2.2.1
    rw [getD_tf (by omega), hno m (Nat.le_refl _)] at this
    simp at this
  | succ fuel ih =>
    intro listed a w hl hI hsh hno
    have hsz := hI.2.2.2.2.1
    refine ⟨fun hr => ?_, fun i hi => ?_⟩
    · have := all_listed hwf hsz hr m hm
      rw [getD_tf (by omega), hno m (Nat.le_refl _)] at this
      cases this
    obtain ⟨hun, o, ho, hall⟩ := mem_ready.1 hi
    have hp := ready_preds hsz (fun ho => wf_after hwf ho) hi
    have hlt : i < ops.size := (Array.getElem?_eq_some_iff.1 ho).1
    have hdec : left ops.size (listed.setIfInBounds i true) ≤ fuel := by
      have : left ops.size (listed.setIfInBounds i true) < left ops.size listed := countP_lt (fun x _ hx => by
          by_cases hix : i = x
          · subst hix
            have hb : i < listed.size := by omega
            simp [Array.getD, hb] at hx
          · rwa [getD_set_ne true hix] at hx) ⟨i, List.mem_range.2 hlt, by rw [hun]; rfl, by
            have hb : i < listed.size := by omega
            simp [Array.getD, hb]⟩
      omega
    obtain ⟨T, D⟩ := a
    obtain rfl : D = D0 := hI.2.1
    rcases Nat.lt_or_ge i m with him | him
    · have hob' := (hob fun _ _ _ => False).get (i := i) (o := o) (by rw [List.getElem?_take_of_lt him]; simpa using ho)
      have hst := hob' T w (fun a' w' => wpAnyIn F n P .any ops Q fuel (listed.setIfInBounds i true) a' w') hI.1 hI.2.2.1
        (fun j d ⟨e, he, hej, hb⟩ hjd => by subst hej; exact hI.2.2.2.2.2 e.on d (hall e he hb) hjd)
        (fun v w' hb hv => ih _ _ _ hdec (InvR.next hR hwf him ho hI hb hv) (fun x hx j hj => by
          by_cases hij : i = j
          · subst hij
            have hb : i < listed.size := by omega
            simp [Array.getD, hb]
          · rw [getD_set_ne false hij]
            by_cases hix : i = x
            · subst hix; exact hp j hj
            · rw [getD_set_ne false hix] at hx; exact hsh x hx j hj) (fun j hj => by rw [getD_set_ne false (by omega)]; exact hno j hj))
      unfold wpOpIn
      simp only [ho]
      split
      · rename_i hw
        rw [if_pos hw] at hst
        have := op_in (n := n) hF hd ha (noDefer_at hnd ho) hst
        refine _root_.Go.Proofs.YtfimejmmcfdgaaaDoor.Oper.wpIn_exits ?_ this
        intro e a w h
        exact h.elim
      · rename_i hw; rw [if_neg hw] at hst; exact ⟨fun f _ => by rw [hF]; trivial, hst⟩
    · have hanc := anc_in hsh ops.size i hp
      obtain rfl : i = m := by
        rcases Nat.lt_or_ge m i with g | g
        · have := hanc m (forced_at hfo him hlt m g)
          rw [hno m (Nat.le_refl _)] at this; cases this
        · omega
      have hfull : ∀ j, j < i → listed.getD j false = true := fun j hj => hanc j (forced_at hfo (Nat.le_refl _) hlt j hj)
      have h := hfin T w hI.1 hI.2.2.1 hI.2.2.2.1 (fun j d hj hjd => hI.2.2.2.2.2 j d (hfull j hj) hjd)
      obtain ⟨k, hk⟩ : ∃ k, ops.size - i = k + 1 := ⟨ops.size - i - 1, by omega⟩
      rw [hk, List.range'_succ, wpOpsIn_cons] at h
      refine wpOpIn_mono (fun a w h => tail_in hwf hfo k (i + 1) _ a w fuel (by omega) (by omega) (by simpa using hsz) (fun j hjs => ?_) hdec h) h
      by_cases hij : i = j
      · subst hij
        have hb : i < listed.size := by omega
        simp [Array.getD, hb]
      · rw [getD_set_ne false hij]
        constructor
        · intro e
          rcases Nat.lt_or_ge j i with g | g
          · omega
          · rw [hno j g] at e; cases e
        · intro g; exact hfull j (by omega)
theorem region_headR {id : Nat} (R : Nat → Value → World → Prop) (hR : ∀ t v w w', R t v w → Below w.heap.size w w' → R t v w') (m : Nat) (hF : F.fn = fun _ => True) (hd : F.depth = none) (ha : F.alive = false) (hnd : noDefer ops = true) (hm : m < ops.size) (hfo : forced ops m = true) (hmx : P.follows .mixedOrders = true) (hwf : wfB ops T0.size = true) (hob : ∀ Q' : Exit → Act → World → Prop, ObsR m P ops Q' R T0 D0 w0 (ops.toList.take m))
    (hfin : ∀ T w, Below w0.heap.size w0 w → (∀ t, FreeM ops m t → T[t]? = T0[t]?) → T.size = T0.size → (∀ j d, j < m → dstOf ops j = some d → ∃ v, T[d]? = some v ∧ R d v w) → wpOpsIn F n P ops Q (List.range' m (ops.size - m)) ⟨T, D0⟩ w) :
    (Code.region id ops true).wpIn F n P Q ⟨T0, D0⟩ w0 := by
  have hz : ∀ i, (Array.replicate ops.size false).getD i false = false := fun i => by
    by_cases hb : i < ops.size
    · simp [Array.getD, hb]
    · simp [Array.getD, hb]
  refine wpIn_region_any hmx (headR_in hR hF hd ha hnd hm hfo hwf hob hfin _ _ _ _ ?_ ?_ (fun i hi => by rw [hz] at hi; cases hi) (fun i _ => hz i))
  · have := List.countP_le_length (p := fun j => !(Array.replicate ops.size false).getD j true) (l := List.range ops.size)
    unfold left
    simpa using this
  · exact ⟨(Below.refl w0.heap.size w0).drew, rfl, fun t _ => rfl, rfl, by simp, fun j d hj _ => by rw [hz] at hj; cases hj⟩
theorem obsR_nil {m : Nat} {P : Program} {ops : Array Oper} {Q : Exit → Act → World → Prop} {R : Nat → Value → World → Prop} {T0 : Array Value} {D0 : List Deferred} {w0 : World} : ObsR m P ops Q R T0 D0 w0 [] := trivial
theorem obsR_cons {m : Nat} {P : Program} {ops : Array Oper} {Q : Exit → Act → World → Prop} {R : Nat → Value → World → Prop} {T0 : Array Value} {D0 : List Deferred} {w0 : World} {o : Oper} {r : List Oper} (h : ObR m P ops Q R T0 D0 w0 o) (g : ObsR m P ops Q R T0 D0 w0 r) : ObsR m P ops Q R T0 D0 w0 (o :: r) := ⟨h, g⟩
end

theorem getR {T : Array Value} {R : Nat → Value → World → Prop} {d : Nat} {w : World} {C : Value → World → Prop} (h : ∃ v, T[d]? = some v ∧ R d v w) (hs : R d = C) : ∃ v, T[d]? = some v ∧ C v w := by rw [← hs]; exact h
theorem rtR {R : Nat → Value → World → Prop} {d : Nat} {v : Value} {w : World} (h : R d v w) : ∀ d', some d = some d' → R d' v w := fun d' e => by cases e; exact h


/-- A relation of a value to a world that lasts while all below stays. -/
structure StP where
  C : Value → World → Prop
  keep : ∀ v w w', C v w → Below w.heap.size w w' → C v w'
abbrev ToldS := List (Option StP)
def RtS (sp : ToldS) (t : Nat) (v : Value) (w : World) : Prop :=
  match sp.getD t none with
  | none => True
  | some p => p.C v w
theorem rtS_keep (sp : ToldS) : ∀ t v w w', RtS sp t v w → Below w.heap.size w w' → RtS sp t v w' := fun t v w w' h hb => by
  unfold RtS at *
  split
  · trivial
  · rename_i p e; rw [e] at h; exact p.keep _ _ _ h hb
def eqS (x : Value) : StP := ⟨fun v _ => v = x, fun _ _ _ h _ => h⟩
def rowS (l : List (Int × Int)) : StP := ⟨fun v w => ∃ ao c, v = .slice ao l.length c ∧ PRow w ao l, fun _ _ _ ⟨ao, c, h, p⟩ hb => ⟨ao, c, h, prow_below p hb⟩⟩
theorem get_eqS {T : Array Value} {sp : ToldS} {d : Nat} {w : World} {x : Value} (h : ∃ v, T[d]? = some v ∧ RtS sp d v w) (hs : sp.getD d none = some (eqS x)) : T[d]? = some x := by
  obtain ⟨v, hv, hr⟩ := h
  unfold RtS at hr
  rw [hs] at hr
  rw [hv]; exact congrArg some hr
theorem getS {T : Array Value} {sp : ToldS} {d : Nat} {w : World} {p : StP} (h : ∃ v, T[d]? = some v ∧ RtS sp d v w) (hs : sp.getD d none = some p) : ∃ v, T[d]? = some v ∧ p.C v w := by
  obtain ⟨v, hv, hr⟩ := h
  unfold RtS at hr
  rw [hs] at hr
  exact ⟨v, hv, hr⟩
theorem rt_eqS {sp : ToldS} {d : Nat} {w : World} {x : Value} (hs : sp.getD d none = some (eqS x)) : ∀ d', some d = some d' → RtS sp d' x w := fun d' h => by
  cases h; unfold RtS; rw [hs]; rfl
theorem rt_S {sp : ToldS} {d : Nat} {w : World} {p : StP} {v : Value} (hs : sp.getD d none = some p) (h : p.C v w) : ∀ d', some d = some d' → RtS sp d' v w := fun d' e => by
  cases e; unfold RtS; rw [hs]; exact h
section
variable {F : Fence} {n : Nat} {P : Program} {ops : Array Oper} {Q : Exit → Act → World → Prop} {R : Nat → Value → World → Prop} {T0 : Array Value} {D0 : List Deferred} {w0 : World}
theorem allR_in (hR : ∀ t v w w', R t v w → Below w.heap.size w w' → R t v w') (hF : F.fn = fun _ => True) (hd : F.depth = none) (ha : F.alive = false) (hnd : noDefer ops = true) (hwf : wfB ops T0.size = true) (hob : ∀ Q' : Exit → Act → World → Prop, ObsR ops.size P ops Q' R T0 D0 w0 ops.toList)
    (hfin : ∀ T w, Below w0.heap.size w0 w → (∀ t, FreeM ops ops.size t → T[t]? = T0[t]?) → T.size = T0.size → (∀ j d, j < ops.size → dstOf ops j = some d → ∃ v, T[d]? = some v ∧ R d v w) → Q .normal ⟨T, D0⟩ w) :
    ∀ (fuel : Nat) (listed : Array Bool) (a : Act) (w : World), left ops.size listed ≤ fuel → InvR ops.size ops R T0 D0 w0 listed a w → Shut ops listed → wpAnyIn F n P .any ops Q fuel listed a w := by
  have fin : ∀ (listed : Array Bool) (a : Act) (w : World), InvR ops.size ops R T0 D0 w0 listed a w → (∀ j, j < ops.size → listed.getD j true = true) → Q .normal a w := fun listed a w hI hall => by
    obtain ⟨T, D⟩ := a
    obtain rfl : D = D0 := hI.2.1
    have hsz := hI.2.2.2.2.1
    exact hfin T w hI.1 hI.2.2.1 hI.2.2.2.1 fun j d hj hjd => hI.2.2.2.2.2 j d (by rw [← getD_tf (by omega)]; exact hall j hj) hjd
  intro fuel
  induction fuel with
  | zero =>
    intro listed a w hl hI _
    have h0 : left ops.size listed = 0 := by omega
    have hall : ∀ j, j < ops.size → listed.getD j true = true := fun j hj => by
      have := List.countP_eq_zero.1 h0 j (List.mem_range.2 hj)
      simpa using this
    refine ⟨List.eq_nil_iff_forall_not_mem.2 fun i hi => ?_, fin listed a w hI hall⟩
    obtain ⟨hun, o, ho, _⟩ := mem_ready.1 hi
    have hlt : i < ops.size := (Array.getElem?_eq_some_iff.1 ho).1
    rw [hall i hlt] at hun
    cases hun
  | succ fuel ih =>
    intro listed a w hl hI hsh
    have hsz := hI.2.2.2.2.1
    refine ⟨fun hr => fin listed a w hI (all_listed hwf hsz hr), fun i hi => ?_⟩
    obtain ⟨hun, o, ho, hall⟩ := mem_ready.1 hi
    have hp := ready_preds hsz (fun ho => wf_after hwf ho) hi
    have hlt : i < ops.size := (Array.getElem?_eq_some_iff.1 ho).1
    have hdec : left ops.size (listed.setIfInBounds i true) ≤ fuel := by
      have : left ops.size (listed.setIfInBounds i true) < left ops.size listed := countP_lt (fun x _ hx => by
          by_cases hix : i = x
          · subst hix
            have hb : i < listed.size := by omega
            simp [Array.getD, hb] at hx
          · rwa [getD_set_ne true hix] at hx) ⟨i, List.mem_range.2 hlt, by rw [hun]; rfl, by
            have hb : i < listed.size := by omega
            simp [Array.getD, hb]⟩
      omega
    obtain ⟨T, D⟩ := a
    obtain rfl : D = D0 := hI.2.1
    have hob' := (hob fun _ _ _ => False).get (i := i) (o := o) (by simpa using ho)
    have hst := hob' T w (fun a' w' => wpAnyIn F n P .any ops Q fuel (listed.setIfInBounds i true) a' w') hI.1 hI.2.2.1
      (fun j d ⟨e, he, hej, hb⟩ hjd => by subst hej; exact hI.2.2.2.2.2 e.on d (hall e he hb) hjd)
      (fun v w' hb hv => ih _ _ _ hdec (InvR.next hR hwf hlt ho hI hb hv) (fun x hx j hj => by
          by_cases hij : i = j
          · subst hij
            have hb : i < listed.size := by omega
            simp [Array.getD, hb]
          · rw [getD_set_ne false hij]
            by_cases hix : i = x
            · subst hix; exact hp j hj
            · rw [getD_set_ne false hix] at hx; exact hsh x hx j hj))
    unfold wpOpIn
    simp only [ho]
    split
    · rename_i hw
      rw [if_pos hw] at hst
      have := op_in (n := n) hF hd ha (noDefer_at hnd ho) hst
      refine _root_.Go.Proofs.YtfimejmmcfdgaaaDoor.Oper.wpIn_exits ?_ this
      intro e a w h
      exact h.elim
    · rename_i hw; rw [if_neg hw] at hst; exact ⟨fun f _ => by rw [hF]; trivial, hst⟩
theorem region_allR {id : Nat} (R : Nat → Value → World → Prop) (hR : ∀ t v w w', R t v w → Below w.heap.size w w' → R t v w') (hF : F.fn = fun _ => True) (hd : F.depth = none) (ha : F.alive = false) (hnd : noDefer ops = true) (hmx : P.follows .mixedOrders = true) (hwf : wfB ops T0.size = true) (hob : ∀ Q' : Exit → Act → World → Prop, ObsR ops.size P ops Q' R T0 D0 w0 ops.toList)
    (hfin : ∀ T w, Below w0.heap.size w0 w → (∀ t, FreeM ops ops.size t → T[t]? = T0[t]?) → T.size = T0.size → (∀ j d, j < ops.size → dstOf ops j = some d → ∃ v, T[d]? = some v ∧ R d v w) → Q .normal ⟨T, D0⟩ w) :
    (Code.region id ops true).wpIn F n P Q ⟨T0, D0⟩ w0 := by
  have hz : ∀ i, (Array.replicate ops.size false).getD i false = false := fun i => by
    by_cases hb : i < ops.size
    · simp [Array.getD, hb]
    · simp [Array.getD, hb]
  refine wpIn_region_any hmx (allR_in hR hF hd ha hnd hwf hob hfin _ _ _ _ ?_ ?_ (fun i hi => by rw [hz] at hi; cases hi))
  · have := List.countP_le_length (p := fun j => !(Array.replicate ops.size false).getD j true) (l := List.range ops.size)
    unfold left
    simpa using this
  · exact ⟨⟨rfl, rfl, rfl, Nat.le_refl _, fun _ _ => rfl⟩, rfl, fun _ _ => rfl, rfl, by simp, fun j d hj => by rw [hz] at hj; cases hj⟩
end
end Go.Proofs.YtfimejmmcfdgaaaDoor
