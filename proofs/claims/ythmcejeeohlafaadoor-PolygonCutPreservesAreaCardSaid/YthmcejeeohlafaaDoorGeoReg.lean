/- A region that draws its order, operation by operation: if each operation, wherever it comes up, leaves in its slot a value as told and touches no old memory, then the whole region does, in whatever order. -/
import Derived.Test.YthmcejeeohlafaaDoorGeoE
import Derived.Orders
namespace Go.Proofs.YthmcejeeohlafaaDoor
open Go.ChangeShapes Go.WideShapes Go.ChangeAt Go.RowKit

/-- What is told of the slots: nothing; a value; a slice of points that reads as a list. -/
abbrev Told := List (Option (Value ⊕ List (Int × Int)))
def Rt (sp : Told) (t : Nat) (v : Value) (w : World) : Prop :=
  match sp.getD t none with
  | none => True
  | some (.inl x) => v = x
  | some (.inr l) => ∃ b c, v = .slice (some ⟨b, 0, none⟩) l.length c ∧ PRow w (some ⟨b, 0, none⟩) l
theorem Rt.keep {sp : Told} {t : Nat} {v : Value} {w w' : World} (h : Rt sp t v w) (hb : Below w.heap.size w w') : Rt sp t v w' := by
  unfold Rt at *
  split
  · trivial
  · rename_i e; rw [e] at h; exact h
  · rename_i e; rw [e] at h; obtain ⟨b, c, e1, e2⟩ := h; exact ⟨b, c, e1, prow_below e2 hb⟩
def dstOf (ops : Array Oper) (j : Nat) : Option Nat := (ops[j]?).bind (·.dst)
/-- A slot that no operation of the region writes. -/
def Free (ops : Array Oper) (t : Nat) : Prop := ∀ j, dstOf ops j ≠ some t

section
variable {P : Program} {ops : Array Oper} {Q : Exit → Act → World → Prop} {sp : Told} {T0 : Array Value} {D0 : List Deferred} {w0 : World}

/-- What is asked of operation o. -/
def Ob (P : Program) (ops : Array Oper) (Q : Exit → Act → World → Prop) (sp : Told) (T0 : Array Value) (D0 : List Deferred) (w0 : World) (o : Oper) : Prop :=
  ∀ (T : Array Value) (w : World) (K : Act → World → Prop), Below w0.heap.size w0 w → (∀ t, Free ops t → T[t]? = T0[t]?) →
    (∀ j d, (∃ e ∈ o.after, e.on = j ∧ Region.binds .any e = true) → dstOf ops j = some d → ∃ v, T[d]? = some v ∧ Rt sp d v w) →
    (∀ v w', Below w.heap.size w w' → (∀ d, o.dst = some d → Rt sp d v w') → K (Act.put ⟨T, D0⟩ o.dst v) w') →
    if Region.wanted o (yielded ops T) = true then Oper.wp P o ⟨T, D0⟩ w K Q else K (Act.put ⟨T, D0⟩ o.dst undef) w
def Obs (P : Program) (ops : Array Oper) (Q : Exit → Act → World → Prop) (sp : Told) (T0 : Array Value) (D0 : List Deferred) (w0 : World) : List Oper → Prop
  | [] => True
  | o :: r => Ob P ops Q sp T0 D0 w0 o ∧ Obs P ops Q sp T0 D0 w0 r
theorem Obs.get : ∀ {l : List Oper} {i : Nat} {o : Oper}, Obs P ops Q sp T0 D0 w0 l → l[i]? = some o → Ob P ops Q sp T0 D0 w0 o
  | [], _, _, _, h => by simp at h
  | x :: r, 0, o, h, e => by simp at e; subst e; exact h.1
  | x :: r, i + 1, o, h, e => Obs.get (l := r) (i := i) h.2 (by simpa using e)

/-- Well-formed: an operation waits for earlier ones alone; the slots differ and lie in the frame. -/
def wfB (ops : Array Oper) (n : Nat) : Bool := (List.range ops.size).all fun i =>
  match ops[i]? with
  | none => true
  | some o => (o.after.all fun e => !Region.binds .any e || decide (e.on < i)) &&
    (match o.dst with
     | none => true
     | some d => decide (d < n) && (List.range i).all fun j => decide (dstOf ops j ≠ some d))
theorem wf_after {n : Nat} (h : wfB ops n = true) {i : Nat} {o : Oper} (ho : ops[i]? = some o) : ∀ e ∈ o.after, Region.binds .any e = true → e.on < i := by
  have hi : i < ops.size := (Array.getElem?_eq_some_iff.1 ho).1
  have := List.all_eq_true.1 h i (List.mem_range.2 hi)
  rw [ho] at this
  simp only [Bool.and_eq_true] at this
  intro e he hb
  have := Array.all_eq_true'.1 this.1 e he
  rw [hb] at this
  simpa using this
theorem wf_dst {n : Nat} (h : wfB ops n = true) {i d : Nat} (hd : dstOf ops i = some d) : d < n ∧ ∀ j, j < i → dstOf ops j ≠ some d := by
  unfold dstOf at hd
  obtain ⟨o, ho, hod⟩ := Option.bind_eq_some_iff.1 hd
  have hi : i < ops.size := (Array.getElem?_eq_some_iff.1 ho).1
  have := List.all_eq_true.1 h i (List.mem_range.2 hi)
  rw [ho] at this
  simp only [Bool.and_eq_true] at this
  have h2 := this.2
  rw [hod] at h2
  simp only [Bool.and_eq_true, decide_eq_true_eq] at h2
  refine ⟨h2.1, fun j hj => ?_⟩
  have := List.all_eq_true.1 h2.2 j (List.mem_range.2 hj)
  simpa using this
theorem wf_inj {n : Nat} (h : wfB ops n = true) {i j d : Nat} (hi : dstOf ops i = some d) (hj : dstOf ops j = some d) : i = j := by
  rcases Nat.lt_trichotomy i j with g | g | g
  · exact absurd hi ((wf_dst h hj).2 i g)
  · exact g
  · exact absurd hj ((wf_dst h hi).2 j g)

def left (n : Nat) (listed : Array Bool) : Nat := (List.range n).countP fun j => !listed.getD j true
theorem countP_lt {α : Type} {p q : α → Bool} : ∀ {l : List α}, (∀ x ∈ l, q x = true → p x = true) → (∃ x ∈ l, p x = true ∧ q x = false) → l.countP q < l.countP p
  | [], _, h => by simp at h
  | y :: r, h1, ⟨x, hx, hp, hq⟩ => by
    have hr : r.countP q ≤ r.countP p := List.countP_mono_left (fun z hz => h1 z (List.mem_cons_of_mem _ hz))
    rcases List.mem_cons.1 hx with rfl | hx
    · rw [List.countP_cons_of_pos hp, List.countP_cons_of_neg (by simp [hq])]; omega
    · have := countP_lt (l := r) (fun z hz => h1 z (List.mem_cons_of_mem _ hz)) ⟨x, hx, hp, hq⟩
      by_cases hy : q y = true
      · rw [List.countP_cons_of_pos hy, List.countP_cons_of_pos (h1 y (List.mem_cons_self ..) hy)]; omega
      · rw [List.countP_cons_of_neg hy, List.countP_cons]; omega
theorem all_listed {n : Nat} (h : wfB ops n = true) {listed : Array Bool} (hs : listed.size = ops.size) (hr : Region.ready .any ops listed = []) : ∀ j, j < ops.size → listed.getD j true = true := by
  intro j
  induction j using Nat.strongRecOn with
  | _ j ih =>
    intro hj
    cases hl : listed.getD j true with
    | true => rfl
    | false =>
      have ho : ops[j]? = some ops[j] := Array.getElem?_eq_getElem hj
      have : j ∈ Region.ready .any ops listed := mem_ready.2 ⟨hl, ops[j], ho, fun e he hb => by
        have hlt := wf_after h ho e he hb
        have := ih e.on hlt (by omega)
        have hb : e.on < listed.size := by omega
        simpa [Array.getD, hb] using this⟩
      rw [hr] at this
      cases this

/-- What holds while the region runs. -/
def Inv (ops : Array Oper) (sp : Told) (T0 : Array Value) (D0 : List Deferred) (w0 : World) (listed : Array Bool) (a : Act) (w : World) : Prop :=
  Below w0.heap.size w0 w ∧ a.defers = D0 ∧ (∀ t, Free ops t → a.tmps[t]? = T0[t]?) ∧ a.tmps.size = T0.size ∧ listed.size = ops.size ∧
    ∀ j d, listed.getD j false = true → dstOf ops j = some d → ∃ v, a.tmps[d]? = some v ∧ Rt sp d v w
theorem Inv.next {listed : Array Bool} {T : Array Value} {w w' : World} {i : Nat} {o : Oper} {v : Value} (hwf : wfB ops T0.size = true) (ho : ops[i]? = some o)
    (h : Inv ops sp T0 D0 w0 listed ⟨T, D0⟩ w) (hb : Below w.heap.size w w') (hv : ∀ d, o.dst = some d → Rt sp d v w') :
    Inv ops sp T0 D0 w0 (listed.setIfInBounds i true) (Act.put ⟨T, D0⟩ o.dst v) w' := by
  obtain ⟨h1, _, h3, h4, h5, h6⟩ := h
  have hB : Below w0.heap.size w0 w' := h1.trans (hb.mono h1.size)
  have hdi : dstOf ops i = o.dst := by unfold dstOf; rw [ho]; rfl
  cases hd : o.dst with
  | none =>
    refine ⟨hB, rfl, h3, h4, by simpa using h5, fun j d hj hjd => ?_⟩
    have hne : i ≠ j := fun e => by subst e; rw [hdi, hd] at hjd; cases hjd
    rw [getD_set_ne false hne] at hj
    obtain ⟨u, hu, hr⟩ := h6 j d hj hjd
    exact ⟨u, hu, hr.keep hb⟩
  | some d0 =>
    rw [hd] at hdi
    have hlt := (wf_dst hwf hdi).1
    refine ⟨hB, rfl, fun t ht => ?_, ?_, by simpa using h5, fun j d hj hjd => ?_⟩
    · have hne : d0 ≠ t := fun e => ht i (by rw [hdi, e])
      show (T.setIfInBounds d0 v)[t]? = _
      rw [Array.getElem?_setIfInBounds_ne hne]
      exact h3 t ht
    · show (T.setIfInBounds d0 v).size = _
      simpa using h4
    · show ∃ u, (T.setIfInBounds d0 v)[d]? = some u ∧ Rt sp d u w'
      by_cases hij : i = j
      · subst hij
        obtain rfl : d0 = d := Option.some.inj (hdi.symm.trans hjd)
        exact ⟨v, by rw [Array.getElem?_setIfInBounds_self_of_lt (by simp at h4; omega)], hv d0 hd⟩
      · rw [getD_set_ne false hij] at hj
        obtain ⟨u, hu, hr⟩ := h6 j d hj hjd
        have hne : d0 ≠ d := fun e => hij (wf_inj hwf (hdi.trans (by rw [e])) hjd)
        exact ⟨u, by rw [Array.getElem?_setIfInBounds_ne hne]; exact hu, hr.keep hb⟩

theorem any_of_obs (hwf : wfB ops T0.size = true) (hob : Obs P ops Q sp T0 D0 w0 ops.toList)
    (hfin : ∀ T w, Below w0.heap.size w0 w → (∀ t, Free ops t → T[t]? = T0[t]?) → T.size = T0.size → (∀ j d, dstOf ops j = some d → ∃ v, T[d]? = some v ∧ Rt sp d v w) → Q .normal ⟨T, D0⟩ w) :
    ∀ (fuel : Nat) (listed : Array Bool) (a : Act) (w : World), left ops.size listed ≤ fuel → Inv ops sp T0 D0 w0 listed a w → wpAny P .any ops Q fuel listed a w := by
  have fin : ∀ (listed : Array Bool) (a : Act) (w : World), Inv ops sp T0 D0 w0 listed a w → (∀ j, j < ops.size → listed.getD j true = true) → Q .normal a w := by
    rintro listed ⟨T, D⟩ w ⟨h1, rfl, h3, h4, h5, h6⟩ hall
    refine hfin T w h1 h3 h4 (fun j d hjd => h6 j d ?_ hjd)
    have hj : j < ops.size := by
      unfold dstOf at hjd
      obtain ⟨o, ho, _⟩ := Option.bind_eq_some_iff.1 hjd
      exact (Array.getElem?_eq_some_iff.1 ho).1
    have hb : j < listed.size := by omega
    simpa [Array.getD, hb] using hall j hj
  intro fuel
  induction fuel with
  | zero =>
    intro listed a w hl hI
    have hall : ∀ j, j < ops.size → listed.getD j true = true := fun j hj => by
      have h0 : left ops.size listed = 0 := by omega
      have := List.countP_eq_zero.1 h0 j (List.mem_range.2 hj)
      simpa using this
    refine ⟨?_, fin listed a w hI hall⟩
    cases hr : Region.ready .any ops listed with
    | nil => rfl
    | cons j r =>
      have hm : j ∈ Region.ready .any ops listed := by rw [hr]; exact List.mem_cons_self ..
      obtain ⟨hj, o, ho, _⟩ := mem_ready.1 hm
      have := hall j (Array.getElem?_eq_some_iff.1 ho).1
      rw [hj] at this; cases this
  | succ fuel ih =>
    intro listed a w hl hI
    refine ⟨fun hr => fin listed a w hI (all_listed hwf hI.2.2.2.2.1 hr), fun i hi => ?_⟩
    obtain ⟨hun, o, ho, hall⟩ := mem_ready.1 hi
    obtain ⟨T, D⟩ := a
    obtain rfl : D = D0 := hI.2.1
    have hob' := hob.get (i := i) (by simpa using ho)
    have hlt : i < ops.size := (Array.getElem?_eq_some_iff.1 ho).1
    have hdec : left ops.size (listed.setIfInBounds i true) ≤ fuel := by
      have : left ops.size (listed.setIfInBounds i true) < left ops.size listed := countP_lt (fun x _ hx => by
          by_cases hix : i = x
          · subst hix
            have hb : i < listed.size := by have := hI.2.2.2.2.1; omega
            simp [Array.getD, hb] at hx
          · rwa [getD_set_ne true hix] at hx) ⟨i, List.mem_range.2 hlt, by rw [hun]; rfl, by
            have hb : i < listed.size := by have := hI.2.2.2.2.1; omega
            simp [Array.getD, hb]⟩
      omega
    have hst := hob' T w (fun a' w' => wpAny P .any ops Q fuel (listed.setIfInBounds i true) a' w') hI.1 hI.2.2.1
      (fun j d ⟨e, he, hej, hb⟩ hjd => by subst hej; exact hI.2.2.2.2.2 e.on d (hall e he hb) hjd)
      (fun v w' hb hv => ih _ _ _ hdec (hI.next hwf ho hb hv))
    unfold wpOp
    simp only [ho]
    split
    · rename_i hw; rw [if_pos hw] at hst; exact .inl hst
    · rename_i hw; rw [if_neg hw] at hst; exact hst

/-- The region. -/
theorem region_obs {id : Nat} (sp : Told) (hm : P.follows .mixedOrders = true) (hwf : wfB ops T0.size = true) (hob : Obs P ops Q sp T0 D0 w0 ops.toList)
    (hfin : ∀ T w, Below w0.heap.size w0 w → (∀ t, Free ops t → T[t]? = T0[t]?) → T.size = T0.size → (∀ j d, dstOf ops j = some d → ∃ v, T[d]? = some v ∧ Rt sp d v w) → Q .normal ⟨T, D0⟩ w) :
    (Code.region id ops true).wp P Q ⟨T0, D0⟩ w0 := by
  refine wp_region_any hm (any_of_obs hwf hob hfin _ _ _ _ ?_ ?_)
  · have := List.countP_le_length (p := fun j => !(Array.replicate ops.size false).getD j true) (l := List.range ops.size)
    unfold left
    simpa using this
  · exact ⟨(Below.refl w0.heap.size w0).drew, rfl, fun t _ => rfl, rfl, by simp, fun j d hj _ => by
      exfalso
      by_cases hb : j < ops.size
      · simp [Array.getD, hb] at hj
      · simp [Array.getD, hb] at hj⟩
end

/-! ### For the obligations -/
theorem obs_nil {P : Program} {ops : Array Oper} {Q : Exit → Act → World → Prop} {sp : Told} {T0 : Array Value} {D0 : List Deferred} {w0 : World} : Obs P ops Q sp T0 D0 w0 [] := trivial
theorem obs_cons {P : Program} {ops : Array Oper} {Q : Exit → Act → World → Prop} {sp : Told} {T0 : Array Value} {D0 : List Deferred} {w0 : World} {o : Oper} {r : List Oper} (h : Ob P ops Q sp T0 D0 w0 o) (g : Obs P ops Q sp T0 D0 w0 r) : Obs P ops Q sp T0 D0 w0 (o :: r) := ⟨h, g⟩
theorem get_eq {T : Array Value} {sp : Told} {d : Nat} {w : World} {x : Value} (h : ∃ v, T[d]? = some v ∧ Rt sp d v w) (hs : sp.getD d none = some (.inl x)) : T[d]? = some x := by
  obtain ⟨v, hv, hr⟩ := h
  unfold Rt at hr
  rw [hs] at hr
  rw [hv, hr]
theorem get_row {T : Array Value} {sp : Told} {d : Nat} {w : World} {l : List (Int × Int)} (h : ∃ v, T[d]? = some v ∧ Rt sp d v w) (hs : sp.getD d none = some (.inr l)) : ∃ b c, T[d]? = some (.slice (some ⟨b, 0, none⟩) l.length c) ∧ PRow w (some ⟨b, 0, none⟩) l := by
  obtain ⟨v, hv, hr⟩ := h
  unfold Rt at hr
  rw [hs] at hr
  obtain ⟨b, c, rfl, hp⟩ := hr
  exact ⟨b, c, hv, hp⟩
theorem rt_eq {sp : Told} {d : Nat} {w : World} {x : Value} (hs : sp.getD d none = some (.inl x)) : ∀ d', some d = some d' → Rt sp d' x w := fun d' h => by
  cases h; unfold Rt; rw [hs]
theorem rt_row {sp : Told} {d : Nat} {w : World} {l : List (Int × Int)} {b c n : Nat} (hs : sp.getD d none = some (.inr l)) (hn : n = l.length) (hp : PRow w (some ⟨b, 0, none⟩) l) : ∀ d', some d = some d' → Rt sp d' (.slice (some ⟨b, 0, none⟩) n c) w := fun d' h => by
  cases h; unfold Rt; rw [hs]; subst hn; exact ⟨b, c, rfl, hp⟩
theorem rt_any {sp : Told} {d : Nat} {w : World} {x : Value} (hs : sp.getD d none = none) : ∀ d', some d = some d' → Rt sp d' x w := fun d' h => by
  cases h; unfold Rt; rw [hs]; trivial
def freeB (ops : Array Oper) (t : Nat) : Bool := ops.all fun o => decide (o.dst ≠ some t)
theorem free_of {ops : Array Oper} {t : Nat} (h : freeB ops t = true) : Free ops t := fun j hj => by
  unfold dstOf at hj
  obtain ⟨o, ho, hd⟩ := Option.bind_eq_some_iff.1 hj
  have := Array.all_eq_true'.1 h o (Array.mem_of_getElem? ho)
  simp [hd] at this
theorem ob_yes {c : Prop} [Decidable c] {A B : Prop} (h : c) (a : A) : if c then A else B := by rw [if_pos h]; exact a
theorem ob_no {c : Prop} [Decidable c] {A B : Prop} (h : ¬ c) (b : B) : if c then A else B := by rw [if_neg h]; exact b
theorem wanted_none {o : Oper} {y : Nat → Option Bool} (hg : o.guard = none) : Region.wanted o y = true := by unfold Region.wanted; rw [hg]
theorem wanted_yes {ops : Array Oper} {T : Array Value} {o : Oper} {g d : Nat} {b : Bool} (hg : o.guard = some (g, b)) (hd : dstOf ops g = some d) (ht : T[d]? = some (.bool b)) : Region.wanted o (yielded ops T) = true := by
  unfold Region.wanted yielded
  rw [hg]
  unfold dstOf at hd
  simp [hd, ht]
theorem wanted_no {ops : Array Oper} {T : Array Value} {o : Oper} {g d : Nat} {b c : Bool} (hg : o.guard = some (g, b)) (hd : dstOf ops g = some d) (ht : T[d]? = some (.bool c)) (hbc : (c == b) = false) : ¬ Region.wanted o (yielded ops T) = true := by
  unfold Region.wanted yielded
  rw [hg]
  unfold dstOf at hd
  simp [hd, ht]
  simpa using hbc
end Go.Proofs.YthmcejeeohlafaaDoor
