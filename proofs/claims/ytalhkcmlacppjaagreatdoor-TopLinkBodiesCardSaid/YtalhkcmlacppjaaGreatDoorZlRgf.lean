/- Helpers: what the law reaches. -/
import Derived.Test.YtalhkcmlacppjaaGreatDoorZlRgn
namespace Go.Proofs.YtalhkcmlacppjaaGreatDoor
open Go.ChangeShapes Go.WideShapes Go.ChangeAt Go.RowKit
set_option linter.unusedVariables false
section
variable {F : Fence} {n : Nat} {P : Program} {ops : Array Oper} {Q : Exit → Act → World → Prop} {R : Nat → Value → World → Prop} {FS : List Nat} {T0 : Array Value} {D0 : List Deferred} {w0 : World}

/-- What is asked of operation o. -/
def ObF (m : Nat) (P : Program) (ops : Array Oper) (Q : Exit → Act → World → Prop) (R : Nat → Value → World → Prop) (FS : List Nat) (T0 : Array Value) (D0 : List Deferred) (w0 : World) (o : Oper) : Prop :=
  ∀ (T : Array Value) (w : World) (K : Act → World → Prop), Below w0.heap.size w0 w → (∀ t, FreeM ops m t → T[t]? = T0[t]?) →
    (∀ j d, (∃ e ∈ o.after, e.on = j ∧ Region.binds .any e = true) → dstOf ops j = some d → ∃ v, T[d]? = some v ∧ R d v w) →
    (∀ v w', Below w.heap.size w w' → (∀ d, o.dst = some d → R d v w' ∧ (d ∈ FS → v = .pointer (some ⟨w.heap.size, 0, none⟩))) → K (Act.put ⟨T, D0⟩ o.dst v) w') →
    if Region.wanted o (yielded ops T) = true then Oper.wp P o ⟨T, D0⟩ w K Q else K (Act.put ⟨T, D0⟩ o.dst undef) w
def ObsF (m : Nat) (P : Program) (ops : Array Oper) (Q : Exit → Act → World → Prop) (R : Nat → Value → World → Prop) (FS : List Nat) (T0 : Array Value) (D0 : List Deferred) (w0 : World) : List Oper → Prop
  | [] => True
  | o :: r => ObF m P ops Q R FS T0 D0 w0 o ∧ ObsF m P ops Q R FS T0 D0 w0 r
theorem ObsF.get {m : Nat} : ∀ {l : List Oper} {i : Nat} {o : Oper}, ObsF m P ops Q R FS T0 D0 w0 l → l[i]? = some o → ObF m P ops Q R FS T0 D0 w0 o
  | [], _, _, _, h => by simp at h
  | x :: r, 0, o, h, e => by simp at e; subst e; exact h.1
  | x :: r, i + 1, o, h, e => ObsF.get (l := r) (i := i) h.2 (by simpa using e)

def InvF (m : Nat) (ops : Array Oper) (R : Nat → Value → World → Prop) (FS : List Nat) (T0 : Array Value) (D0 : List Deferred) (w0 : World) (listed : Array Bool) (a : Act) (w : World) : Prop :=
  InvR m ops R T0 D0 w0 listed a w ∧
    ∀ t u, t ∈ FS → u ∈ FS → t ≠ u → (∃ j, listed.getD j false = true ∧ dstOf ops j = some t) → (∃ j, listed.getD j false = true ∧ dstOf ops j = some u) → a.tmps[t]? ≠ a.tmps[u]?
theorem InvF.next (hR : ∀ t v w w', R t v w → Below w.heap.size w w' → R t v w') (hFS : ∀ t v w, t ∈ FS → R t v w → ∃ b, v = .pointer (some ⟨b, 0, none⟩) ∧ b < w.heap.size) {m : Nat} {listed : Array Bool} {T : Array Value} {w w' : World} {i : Nat} {o : Oper} {v : Value} (hwf : wfB ops T0.size = true) (him : i < m) (ho : ops[i]? = some o)
    (h : InvF m ops R FS T0 D0 w0 listed ⟨T, D0⟩ w) (hb : Below w.heap.size w w') (hv : ∀ d, o.dst = some d → R d v w' ∧ (d ∈ FS → v = .pointer (some ⟨w.heap.size, 0, none⟩))) :
    InvF m ops R FS T0 D0 w0 (listed.setIfInBounds i true) (Act.put ⟨T, D0⟩ o.dst v) w' := by
  have h' := h.1
  have hI := InvR.next hR hwf him ho h.1 hb (fun d e => (hv d e).1)
  refine ⟨hI, fun t u ht hu hne hjt hku => ?_⟩
  obtain ⟨h1, _, h3, h4, h5, h6⟩ := h'
  have hdi : dstOf ops i = o.dst := by unfold dstOf; rw [ho]; rfl
  have keep : ∀ s, o.dst ≠ some s → (Act.put ⟨T, D0⟩ o.dst v).tmps[s]? = T[s]? := fun s hs => by
    cases hd : o.dst with
    | none => rfl
    | some d0 =>
      show (T.setIfInBounds d0 v)[s]? = _
      exact Array.getElem?_setIfInBounds_ne (fun e => hs (by rw [hd, e]))
  have old : ∀ s, o.dst ≠ some s → (∃ j, (listed.setIfInBounds i true).getD j false = true ∧ dstOf ops j = some s) → ∃ j, listed.getD j false = true ∧ dstOf ops j = some s := fun s hs ⟨j, hj, hjs⟩ => by
    have hij : i ≠ j := fun e => hs (by rw [← hdi, e, hjs])
    rw [getD_set_ne false hij] at hj
    exact ⟨j, hj, hjs⟩
  have own : ∀ s, s ∈ FS → o.dst = some s → (Act.put ⟨T, D0⟩ o.dst v).tmps[s]? = some (.pointer (some ⟨w.heap.size, 0, none⟩)) := fun s hs hd => by
    have e := (hv s hd).2 hs
    subst e
    rw [hd]
    show (T.setIfInBounds s _)[s]? = _
    exact Array.getElem?_setIfInBounds_self_of_lt (by have := (wf_dst hwf (hdi.trans hd)).1; simp at h4; omega)
  have far : ∀ s, s ∈ FS → (∃ j, listed.getD j false = true ∧ dstOf ops j = some s) → T[s]? ≠ some (.pointer (some ⟨w.heap.size, 0, none⟩)) := fun s hs ⟨j, hj, hjs⟩ e => by
    obtain ⟨x, hx, hr⟩ := h6 j s hj hjs
    obtain ⟨b, rfl, hlt⟩ := hFS s x w hs hr
    have := Option.some.inj (hx.symm.trans e)
    cases this
    omega
  by_cases ct : o.dst = some t
  · have cu : o.dst ≠ some u := fun e => hne (Option.some.inj (ct.symm.trans e))
    rw [own t ht ct, keep u cu]
    exact fun e => far u hu (old u cu hku) e.symm
  · by_cases cu : o.dst = some u
    · rw [own u hu cu, keep t ct]
      exact fun e => far t ht (old t ct hjt) e
    · rw [keep t ct, keep u cu]
      exact h.2 t u ht hu hne (old t ct hjt) (old u cu hku)

end
/-- A pointer to a block of the region's own. -/
def newS (base : Nat) (vs : Array Value) (T : TypeId) : StP := ⟨fun v w => ∃ b, v = .pointer (some ⟨b, 0, none⟩) ∧ base ≤ b ∧ w.heap[b]? = some (.cells vs T (0, 0)), fun _ _ _ ⟨b, h, k, p⟩ hb => ⟨b, h, k, blk_call p hb⟩⟩
def row4 (l : List (Int × Int)) : StP := ⟨fun v w => ∃ b, v = .slice (some ⟨b, 0, none⟩) 4 4 ∧ PRow w (some ⟨b, 0, none⟩) l, fun _ _ _ ⟨b, h, p⟩ hb => ⟨b, h, prow_below p hb⟩⟩
end Go.Proofs.YtalhkcmlacppjaaGreatDoor

