/- A drawn region that makes blocks of its own: those that are told fresh are different ones. -/
import Derived.Test.YtfimejmmcfdgaaaDoorRgn
namespace Go.Proofs.YtfimejmmcfdgaaaDoor
open Go.ChangeShapes Go.WideShapes Go.ChangeAt Go.RowKit
set_option linter.unusedVariables false
section
variable {F : Fence} {n : Nat} {P : Program} {ops : Array Oper} {Q : Exit → Act → World → Prop} {R : Nat → Value → World → Prop} {FS : List Nat} {T0 : Array Value} {D0 : List Deferred} {w0 : World}

/-- What is asked of operation o. -/
def ObF (m : Nat) (P : Program) (ops : Array Oper) (Q : Exit → Act → World → Prop) (R : Nat → Value → World → Prop) (FS : List Nat) (T0 : Array Value) (D0 : List Deferred) (w0 : World) (o : Oper) : Prop :=
  ∀ (T : Array Value) (w : World) (K : Act → World → Prop), Below w0.heap.size w0 w → (∀ t, FreeM ops m t → T[t]? = T0[t]?) →
    (∀ j d, (∃ e ∈ o.after, e.on = j ∧ Region.binds .any e = true) → dstOf ops j = some d → ∃ v, T[d]? = some v ∧ R d v w) →
    (∀ v w', Below w.heap.size w w' → (∀ d, o.dst = some d → R d v w' ∧ (d ∈ FS → v = .pointer (some ⟨w.heap.size, 0, none⟩))) → K (Act.put ⟨T, D0⟩ o.dst v) w') →
    if Region.wanted o (yielded ops T) = true then Oper.wp P o ⟨T, D0⟩ w K Q else K (Act.put ⟨T, D0⟩ o.dst undef) w
theorem obF_of {m : Nat} {o : Oper} (h : ObR m P ops Q R T0 D0 w0 o) (hd : ∀ d, o.dst = some d → d ∉ FS) : ObF m P ops Q R FS T0 D0 w0 o :=
  fun T w K h1 h2 h3 h4 => h T w K h1 h2 h3 fun v w' hb hr => h4 v w' hb fun d e => ⟨hr d e, fun hm => absurd hm (hd d e)⟩
def ObsF (m : Nat) (P : Program) (ops : Array Oper) (Q : Exit → Act → World → Prop) (R : Nat → Value → World → Prop) (FS : List Nat) (T0 : Array Value) (D0 : List Deferred) (w0 : World) : List Oper → Prop
  | [] => True
  | o :: r => ObF m P ops Q R FS T0 D0 w0 o ∧ ObsF m P ops Q R FS T0 D0 w0 r
theorem ObsF.get {m : Nat} : ∀ {l : List Oper} {i : Nat} {o : Oper}, ObsF m P ops Q R FS T0 D0 w0 l → l[i]? = some o → ObF m P ops Q R FS T0 D0 w0 o
  | [], _, _, _, h => by simp at h
  | x :: r, 0, o, h, e => by simp at e; subst e; exact h.1
  | x :: r, i + 1, o, h, e => ObsF.get (l := r) (i := i) h.2 (by simpa using e)

def InvF (m : Nat) (ops : Array Oper) (R : Nat → Value → World → Prop) (FS : List Nat) (T0 : Array Value) (D0 : List Deferred) (w0 : World) (listed : Array Bool) (a : Act) (w : World) : Prop :=
  InvR m ops R T0 D0 w0 listed a w ∧
    ∀ t u, t ∈ FS → u ∈ FS → t ≠ u → (∃ j, listed.getD j false = true ∧ dstOf ops j = some t) → (∃ j, listed.getD j false = true ∧ dstOf ops j = some u) → a.tmps[t]? ≠ a.tmps[u]?
theorem InvF.next (hR : ∀ t v w w', R t v w → Below w.heap.size w w' → R t v w') (hFS : ∀ t v w, t ∈ FS → R t v w → ∃ b, v = .pointer (some ⟨b, 0, none⟩) ∧ b < w.heap.size) {m : Nat} {listed : Array Bool} {T : Array Value} {w w' : World} {i : Nat} {o : Oper} {v : Value} (hwf : wfB ops T0.size = true) (him : i < m) (ho : ops[i]? = some o)
    (h : InvF m ops R FS T0 D0 w0 listed ⟨T, D0⟩ w) (hb : Below w.heap.size w w') (hv : ∀ d, o.dst = some d → R d v w' ∧ (d ∈ FS → v = .pointer (some ⟨w.heap.size, 0, none⟩))) :
    InvF m ops R FS T0 D0 w0 (listed.setIfInBounds i true) (Act.put ⟨T, D0⟩ o.dst v) w' := by
  have h' := h.1
  have hI := InvR.next hR hwf him ho h.1 hb (fun d e => (hv d e).1)
  refine ⟨hI, fun t u ht hu hne hjt hku => ?_⟩
  obtain ⟨h1, _, h3, h4, h5, h6⟩ := h'
  have hdi : dstOf ops i = o.dst := by unfold dstOf; rw [ho]; rfl
  have keep : ∀ s, o.dst ≠ some s → (Act.put ⟨T, D0⟩ o.dst v).tmps[s]? = T[s]? := fun s hs => by
    cases hd : o.dst with
    | none => rfl
    | some d0 =>
      show (T.setIfInBounds d0 v)[s]? = _
      exact Array.getElem?_setIfInBounds_ne (fun e => hs (by rw [hd, e]))
  have old : ∀ s, o.dst ≠ some s → (∃ j, (listed.setIfInBounds i true).getD j false = true ∧ dstOf ops j = some s) → ∃ j, listed.getD j false = true ∧ dstOf ops j = some s := fun s hs ⟨j, hj, hjs⟩ => by
    have hij : i ≠ j := fun e => hs (by rw [← hdi, e, hjs])
    rw [getD_set_ne false hij] at hj
    exact ⟨j, hj, hjs⟩
  have own : ∀ s, s ∈ FS → o.dst = some s → (Act.put ⟨T, D0⟩ o.dst v).tmps[s]? = some (.pointer (some ⟨w.heap.size, 0, none⟩)) := fun s hs hd => by
    have e := (hv s hd).2 hs
    subst e
    rw [hd]
    show (T.setIfInBounds s _)[s]? = _
    exact Array.getElem?_setIfInBounds_self_of_lt (by have := (wf_dst hwf (hdi.trans hd)).1; simp at h4; omega)
  have far : ∀ s, s ∈ FS → (∃ j, listed.getD j false = true ∧ dstOf ops j = some s) → T[s]? ≠ some (.pointer (some ⟨w.heap.size, 0, none⟩)) := fun s hs ⟨j, hj, hjs⟩ e => by
    obtain ⟨x, hx, hr⟩ := h6 j s hj hjs
    obtain ⟨b, rfl, hlt⟩ := hFS s x w hs hr
    have := Option.some.inj (hx.symm.trans e)
    cases this
    omega
  by_cases ct : o.dst = some t
  · have cu : o.dst ≠ some u := fun e => hne (Option.some.inj (ct.symm.trans e))
    rw [own t ht ct, keep u cu]
    exact fun e => far u hu (old u cu hku) e.symm
  · by_cases cu : o.dst = some u
    · rw [own u hu cu, keep t ct]
      exact fun e => far t ht (old t ct hjt) e
    · rw [keep t ct, keep u cu]
      exact h.2 t u ht hu hne (old t ct hjt) (old u cu hku)

theorem headF_in (hR : ∀ t v w w', R t v w → Below w.heap.size w w' → R t v w') (hFS : ∀ t v w, t ∈ FS → R t v w → ∃ b, v = .pointer (some ⟨b, 0, none⟩) ∧ b < w.heap.size) (hF : F.fn = fun _ => True) (hd : F.depth = none) (ha : F.alive = false) (hnd : noDefer ops = true) {m : Nat} (hm : m < ops.size) (hfo : forced ops m = true) (hwf : wfB ops T0.size = true) (hob : ∀ Q' : Exit → Act → World → Prop, ObsF m P ops Q' R FS T0 D0 w0 (ops.toList.take m))
    (hfin : ∀ T w, Below w0.heap.size w0 w → (∀ t, FreeM ops m t → T[t]? = T0[t]?) → T.size = T0.size → (∀ j d, j < m → dstOf ops j = some d → ∃ v, T[d]? = some v ∧ R d v w) → (∀ t u, t ∈ FS → u ∈ FS → t ≠ u → (∃ j, j < m ∧ dstOf ops j = some t) → (∃ j, j < m ∧ dstOf ops j = some u) → T[t]? ≠ T[u]?) → wpOpsIn F n P ops Q (List.range' m (ops.size - m)) ⟨T, D0⟩ w) :
    ∀ (fuel : Nat) (listed : Array Bool) (a : Act) (w : World), left ops.size listed ≤ fuel → InvF m ops R FS T0 D0 w0 listed a w → Shut ops listed → (∀ i, m ≤ i → listed.getD i false = false) → wpAnyIn F n P .any ops Q fuel listed a w := by
  intro fuel
  induction fuel with
  | zero =>
    intro listed a w hl hI _ hno
    exfalso
    have h0 : left ops.size listed = 0 := by omega
    have := List.countP_eq_zero.1 h0 m (List.mem_range.2 hm)
    have hsz := hI.1.2.2.2.2.1
    rw [getD_tf (by omega), hno m (Nat.le_refl _)] at this
    simp at this
  | succ fuel ih =>
    intro listed a w hl hI hsh hno
    have hsz := hI.1.2.2.2.2.1
    refine ⟨fun hr => ?_, fun i hi => ?_⟩
    · have := all_listed hwf hsz hr m hm
      rw [getD_tf (by omega), hno m (Nat.le_refl _)] at this
      cases this
    obtain ⟨hun, o, ho, hall⟩ := mem_ready.1 hi
    have hp := ready_preds hsz (fun ho => wf_after hwf ho) hi
    have hlt : i < ops.size := (Array.getElem?_eq_some_iff.1 ho).1
    have hdec : left ops.size (listed.setIfInBounds i true) ≤ fuel := by
      have : left ops.size (listed.setIfInBounds i true) < left ops.size listed := countP_lt (fun x _ hx => by
          by_cases hix : i = x
          · subst hix
            have hb : i < listed.size := by omega
            simp [Array.getD, hb] at hx
          · rwa [getD_set_ne true hix] at hx) ⟨i, List.mem_range.2 hlt, by rw [hun]; rfl, by
            have hb : i < listed.size := by omega
            simp [Array.getD, hb]⟩
      omega
    obtain ⟨T, D⟩ := a
    obtain rfl : D = D0 := hI.1.2.1
    rcases Nat.lt_or_ge i m with him | him
    · have hob' := (hob fun _ _ _ => False).get (i := i) (o := o) (by rw [List.getElem?_take_of_lt him]; simpa using ho)
      have hst := hob' T w (fun a' w' => wpAnyIn F n P .any ops Q fuel (listed.setIfInBounds i true) a' w') hI.1.1 hI.1.2.2.1
        (fun j d ⟨e, he, hej, hb⟩ hjd => by subst hej; exact hI.1.2.2.2.2.2 e.on d (hall e he hb) hjd)
        (fun v w' hb hv => ih _ _ _ hdec (InvF.next hR hFS hwf him ho hI hb hv) (fun x hx j hj => by
          by_cases hij : i = j
          · subst hij
            have hb : i < listed.size := by omega
            simp [Array.getD, hb]
          · rw [getD_set_ne false hij]
            by_cases hix : i = x
            · subst hix; exact hp j hj
            · rw [getD_set_ne false hix] at hx; exact hsh x hx j hj) (fun j hj => by rw [getD_set_ne false (by omega)]; exact hno j hj))
      unfold wpOpIn
      simp only [ho]
      split
      · rename_i hw
        rw [if_pos hw] at hst
        have := op_in (n := n) hF hd ha (noDefer_at hnd ho) hst
        refine _root_.Go.Proofs.YtfimejmmcfdgaaaDoor.Oper.wpIn_exits ?_ this
        intro e a w h
        exact h.elim
      · rename_i hw; rw [if_neg hw] at hst; exact ⟨fun f _ => by rw [hF]; trivial, hst⟩
    · have hanc := anc_in hsh ops.size i hp
      obtain rfl : i = m := by
        rcases Nat.lt_or_ge m i with g | g
        · have := hanc m (forced_at hfo him hlt m g)
          rw [hno m (Nat.le_refl _)] at this; cases this
        · omega
      have hfull : ∀ j, j < i → listed.getD j false = true := fun j hj => hanc j (forced_at hfo (Nat.le_refl _) hlt j hj)
      have h := hfin T w hI.1.1 hI.1.2.2.1 hI.1.2.2.2.1 (fun j d hj hjd => hI.1.2.2.2.2.2 j d (hfull j hj) hjd) (fun t u ht hu hne ⟨j, hj, hjt⟩ ⟨k, hk, hku⟩ => hI.2 t u ht hu hne ⟨j, hfull j hj, hjt⟩ ⟨k, hfull k hk, hku⟩)
      obtain ⟨k, hk⟩ : ∃ k, ops.size - i = k + 1 := ⟨ops.size - i - 1, by omega⟩
      rw [hk, List.range'_succ, wpOpsIn_cons] at h
      refine wpOpIn_mono (fun a w h => tail_in hwf hfo k (i + 1) _ a w fuel (by omega) (by omega) (by simpa using hsz) (fun j hjs => ?_) hdec h) h
      by_cases hij : i = j
      · subst hij
        have hb : i < listed.size := by omega
        simp [Array.getD, hb]
      · rw [getD_set_ne false hij]
        constructor
        · intro e
          rcases Nat.lt_or_ge j i with g | g
          · omega
          · rw [hno j g] at e; cases e
        · intro g; exact hfull j (by omega)
theorem region_headF {id : Nat} (R : Nat → Value → World → Prop) (hR : ∀ t v w w', R t v w → Below w.heap.size w w' → R t v w') (hFS : ∀ t v w, t ∈ FS → R t v w → ∃ b, v = .pointer (some ⟨b, 0, none⟩) ∧ b < w.heap.size) (m : Nat) (hF : F.fn = fun _ => True) (hd : F.depth = none) (ha : F.alive = false) (hnd : noDefer ops = true) (hm : m < ops.size) (hfo : forced ops m = true) (hmx : P.follows .mixedOrders = true) (hwf : wfB ops T0.size = true) (hob : ∀ Q' : Exit → Act → World → Prop, ObsF m P ops Q' R FS T0 D0 w0 (ops.toList.take m))
    (hfin : ∀ T w, Below w0.heap.size w0 w → (∀ t, FreeM ops m t → T[t]? = T0[t]?) → T.size = T0.size → (∀ j d, j < m → dstOf ops j = some d → ∃ v, T[d]? = some v ∧ R d v w) → (∀ t u, t ∈ FS → u ∈ FS → t ≠ u → (∃ j, j < m ∧ dstOf ops j = some t) → (∃ j, j < m ∧ dstOf ops j = some u) → T[t]? ≠ T[u]?) → wpOpsIn F n P ops Q (List.range' m (ops.size - m)) ⟨T, D0⟩ w) :
    (Code.region id ops true).wpIn F n P Q ⟨T0, D0⟩ w0 := by
  have hz : ∀ i, (Array.replicate ops.size false).getD i false = false := fun i => by
    by_cases hb : i < ops.size
    · simp [Array.getD, hb]
    · simp [Array.getD, hb]
  refine wpIn_region_any hmx (headF_in hR hFS hF hd ha hnd hm hfo hwf hob hfin _ _ _ _ ?_ ?_ (fun i hi => by rw [hz] at hi; cases hi) (fun i _ => hz i))
  · have := List.countP_le_length (p := fun j => !(Array.replicate ops.size false).getD j true) (l := List.range ops.size)
    unfold left
    simpa using this
  · exact ⟨⟨(Below.refl w0.heap.size w0).drew, rfl, fun t _ => rfl, rfl, by simp, fun j d hj _ => by rw [hz] at hj; cases hj⟩, fun t u _ _ _ ⟨j, hj, _⟩ _ => by rw [hz] at hj; cases hj⟩
theorem obsF_nil {m : Nat} {P : Program} {ops : Array Oper} {Q : Exit → Act → World → Prop} {R : Nat → Value → World → Prop} {FS : List Nat} {T0 : Array Value} {D0 : List Deferred} {w0 : World} : ObsF m P ops Q R FS T0 D0 w0 [] := trivial
theorem obsF_cons {m : Nat} {P : Program} {ops : Array Oper} {Q : Exit → Act → World → Prop} {R : Nat → Value → World → Prop} {FS : List Nat} {T0 : Array Value} {D0 : List Deferred} {w0 : World} {o : Oper} {r : List Oper} (h : ObF m P ops Q R FS T0 D0 w0 o) (g : ObsF m P ops Q R FS T0 D0 w0 r) : ObsF m P ops Q R FS T0 D0 w0 (o :: r) := ⟨h, g⟩
end
/-- A pointer to a block of the region's own. -/
def newS (base : Nat) (vs : Array Value) (T : TypeId) : StP := ⟨fun v w => ∃ b, v = .pointer (some ⟨b, 0, none⟩) ∧ base ≤ b ∧ w.heap[b]? = some (.cells vs T (0, 0)), fun _ _ _ ⟨b, h, k, p⟩ hb => ⟨b, h, k, blk_call p hb⟩⟩
def rowB (l : List (Int × Int)) : StP := ⟨fun v w => ∃ b c, v = .slice (some ⟨b, 0, none⟩) l.length c ∧ PRow w (some ⟨b, 0, none⟩) l, fun _ _ _ ⟨b, c, h, p⟩ hb => ⟨b, c, h, prow_below p hb⟩⟩
def row4 (l : List (Int × Int)) : StP := ⟨fun v w => ∃ b, v = .slice (some ⟨b, 0, none⟩) 4 4 ∧ PRow w (some ⟨b, 0, none⟩) l, fun _ _ _ ⟨b, h, p⟩ hb => ⟨b, h, prow_below p hb⟩⟩
theorem newS_fresh {sp : ToldS} {t base : Nat} {vs : Array Value} {T : TypeId} {v : Value} {w : World} (hs : sp.getD t none = some (newS base vs T)) (h : RtS sp t v w) : ∃ b, v = .pointer (some ⟨b, 0, none⟩) ∧ b < w.heap.size := by
  unfold RtS at h
  rw [hs] at h
  obtain ⟨b, e, _, hb⟩ := h
  exact ⟨b, e, blk_lt hb⟩
/-- What LinkPolygons returns. -/
def linkS (L0 L1 L2 : List (Int × Int)) : StP := ⟨fun v w => ∃ g0 g1 g2, v = .agg #[.slice (some ⟨g0, 0, none⟩) 4 4, .slice (some ⟨g1, 0, none⟩) 4 4, .slice (some ⟨g2, 0, none⟩) 4 4] ∧ PRow w (some ⟨g0, 0, none⟩) L0 ∧ PRow w (some ⟨g1, 0, none⟩) L1 ∧ PRow w (some ⟨g2, 0, none⟩) L2,
  fun _ _ _ ⟨g0, g1, g2, h, p0, p1, p2⟩ hb => ⟨g0, g1, g2, h, prow_below p0 hb, prow_below p1 hb, prow_below p2 hb⟩⟩
end Go.Proofs.YtfimejmmcfdgaaaDoor
