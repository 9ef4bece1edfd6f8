/- A drawn region by an invariant of what is listed; two blocks of its own that are stored late. -/
import Derived.Test.YtceejjamngplkaaDoorRgh
namespace Go.Proofs.YtceejjamngplkaaDoor
open Go.ChangeShapes Go.WideShapes Go.ChangeAt Go.RowKit
set_option linter.unusedVariables false
set_option linter.unusedSimpArgs false
def upd (s : Nat → Bool) (i : Nat) : Nat → Bool := fun j => decide (j = i) || s j
section
variable {F : Fence} {n : Nat} {P : Program} {ops : Array Oper} {Q : Exit → Act → World → Prop} {T0 : Array Value} {D0 : List Deferred} {w0 : World} {J : (Nat → Bool) → Array Value → World → Prop}
theorem upd_listed {listed : Array Bool} {i : Nat} (hi : i < listed.size) : (fun j => (listed.setIfInBounds i true).getD j false) = upd (fun j => listed.getD j false) i := by
  funext j
  unfold upd
  by_cases h : j = i
  · subst h; simp [Array.getD, hi]
  · rw [getD_set_ne false (fun e => h e.symm)]; simp [h]
theorem inv_in (hF : F.fn = fun _ => True) (hd : F.depth = none) (ha : F.alive = false) (hnd : noDefer ops = true) (hwf : wfB ops T0.size = true) (hgd : ∀ (i : Nat) (o : Oper), ops[i]? = some o → o.guard = none)
    (hstep : ∀ (s : Nat → Bool) (T : Array Value) (w : World) (i : Nat) (o : Oper) (K : Act → World → Prop), ops[i]? = some o → s i = false → (∀ j, (∃ e ∈ o.after, e.on = j ∧ Region.binds .any e = true) → s j = true) → J s T w →
      (∀ T' w', J (upd s i) T' w' → K ⟨T', D0⟩ w') → Oper.wp P o ⟨T, D0⟩ w K (fun _ _ _ => False))
    (hfin : ∀ (s : Nat → Bool) T w, (∀ j, j < ops.size → s j = true) → J s T w → Q .normal ⟨T, D0⟩ w) :
    ∀ (fuel : Nat) (listed : Array Bool) (a : Act) (w : World), left ops.size listed ≤ fuel → (a.defers = D0 ∧ listed.size = ops.size ∧ J (fun j => listed.getD j false) a.tmps w) → wpAnyIn F n P .any ops Q fuel listed a w := by
  have fin : ∀ (listed : Array Bool) (a : Act) (w : World), (a.defers = D0 ∧ listed.size = ops.size ∧ J (fun j => listed.getD j false) a.tmps w) → (∀ j, j < ops.size → listed.getD j true = true) → Q .normal a w := fun listed a w hI hall => by
    obtain ⟨T, D⟩ := a
    obtain ⟨rfl, hsz, hJ⟩ := hI
    exact hfin _ T w (fun j hj => by show listed.getD j false = true; rw [← getD_tf (by omega)]; exact hall j hj) hJ
  intro fuel
  induction fuel with
  | zero =>
    intro listed a w hl hI
    have h0 : left ops.size listed = 0 := by omega
    have hall : ∀ j, j < ops.size → listed.getD j true = true := fun j hj => by
      have := List.countP_eq_zero.1 h0 j (List.mem_range.2 hj)
      simpa using this
    refine ⟨List.eq_nil_iff_forall_not_mem.2 fun i hi => ?_, fin listed a w hI hall⟩
    obtain ⟨hun, o, ho, _⟩ := mem_ready.1 hi
    have hlt : i < ops.size := (Array.getElem?_eq_some_iff.1 ho).1
    rw [hall i hlt] at hun
    cases hun
  | succ fuel ih =>
    intro listed a w hl hI
    have hsz := hI.2.1
    refine ⟨fun hr => fin listed a w hI (all_listed hwf hsz hr), fun i hi => ?_⟩
    obtain ⟨hun, o, ho, hall⟩ := mem_ready.1 hi
    have hlt : i < ops.size := (Array.getElem?_eq_some_iff.1 ho).1
    have hdec : left ops.size (listed.setIfInBounds i true) ≤ fuel := by
      have : left ops.size (listed.setIfInBounds i true) < left ops.size listed := countP_lt (fun x _ hx => by
          by_cases hix : i = x
          · subst hix
            have hb : i < listed.size := by omega
            simp [Array.getD, hb] at hx
          · rwa [getD_set_ne true hix] at hx) ⟨i, List.mem_range.2 hlt, by rw [hun]; rfl, by
            have hb : i < listed.size := by omega
            simp [Array.getD, hb]⟩
      omega
    obtain ⟨T, D⟩ := a
    obtain ⟨rfl, _, hJ⟩ := hI
    have hst := hstep _ T w i o (fun a' w' => wpAnyIn F n P .any ops Q fuel (listed.setIfInBounds i true) a' w') ho (by
        show listed.getD i false = false
        rw [← getD_tf (by omega)]; exact hun)
      (fun j ⟨e, he, hej, hb⟩ => by subst hej; exact hall e he hb) hJ
      (fun T' w' hJ' => ih _ _ _ hdec ⟨rfl, by simpa using hsz, by rw [upd_listed (by omega)]; exact hJ'⟩)
    unfold wpOpIn
    simp only [ho]
    rw [if_pos (by simp [Region.wanted, hgd i o ho])]
    have := op_in (n := n) hF hd ha (noDefer_at hnd ho) hst
    refine _root_.Go.Proofs.YtceejjamngplkaaDoor.Oper.wpIn_exits ?_ this
    intro e a w h
    exact h.elim
theorem region_inv {id : Nat} (hF : F.fn = fun _ => True) (hd : F.depth = none) (ha : F.alive = false) (hnd : noDefer ops = true) (hmx : P.follows .mixedOrders = true) (hwf : wfB ops T0.size = true) (hgd : ∀ (i : Nat) (o : Oper), ops[i]? = some o → o.guard = none)
    (h0 : J (fun _ => false) T0 w0.drew)
    (hstep : ∀ (s : Nat → Bool) (T : Array Value) (w : World) (i : Nat) (o : Oper) (K : Act → World → Prop), ops[i]? = some o → s i = false → (∀ j, (∃ e ∈ o.after, e.on = j ∧ Region.binds .any e = true) → s j = true) → J s T w →
      (∀ T' w', J (upd s i) T' w' → K ⟨T', D0⟩ w') → Oper.wp P o ⟨T, D0⟩ w K (fun _ _ _ => False))
    (hfin : ∀ (s : Nat → Bool) T w, (∀ j, j < ops.size → s j = true) → J s T w → Q .normal ⟨T, D0⟩ w) :
    (Code.region id ops true).wpIn F n P Q ⟨T0, D0⟩ w0 := by
  refine wpIn_region_any hmx (inv_in hF hd ha hnd hwf hgd hstep hfin _ _ _ _ ?_ ?_)
  · have := List.countP_le_length (p := fun j => !(Array.replicate ops.size false).getD j true) (l := List.range ops.size)
    unfold left
    simpa using this
  · refine ⟨rfl, by simp, ?_⟩
    have : (fun j => (Array.replicate ops.size false).getD j false) = fun _ => false := by
      funext i
      by_cases hb : i < ops.size
      · simp [Array.getD, hb]
      · simp [Array.getD, hb]
    show J (fun j => (Array.replicate ops.size false).getD j false) T0 _
    rw [this]
    exact h0
end
/-- Values told by slot; two blocks of the region's own at slots p and d, laid by operations ia and ib, stored by ja and jb. -/
structure TipJ (n : Nat) (w00 : World) (T0 : Array Value) (SL : List Nat) (IL : List (Nat × Nat)) (val : Nat → Value) (p d ia ib ja jb : Nat) (P0 P1 D0 D1 : Array Value) (tp td : TypeId) (s : Nat → Bool) (T : Array Value) (w : World) : Prop where
  bel : Below n w00 w
  size : T.size = T0.size
  frame : ∀ t, t ∉ SL → T[t]? = T0[t]?
  told : ∀ x ∈ IL, s x.1 = true → T[x.2]? = some (val x.2)
  fp : s ia = true → ∃ b, T[p]? = some (.pointer (some ⟨b, 0, none⟩)) ∧ n ≤ b ∧ w.heap[b]? = some (.cells (if s ja = true then P1 else P0) tp (0, 0))
  fd : s ib = true → ∃ b, T[d]? = some (.pointer (some ⟨b, 0, none⟩)) ∧ n ≤ b ∧ w.heap[b]? = some (.cells (if s jb = true then D1 else D0) td (0, 0))
  ne : s ia = true → s ib = true → T[p]? ≠ T[d]?
  op : s ja = true → s ia = true
  od : s jb = true → s ib = true
section
variable {n : Nat} {w00 : World} {T0 : Array Value} {SL : List Nat} {IL : List (Nat × Nat)} {val : Nat → Value} {p d ia ib ja jb : Nat} {P0 P1 D0 D1 : Array Value} {tp td : TypeId} {s : Nat → Bool} {T : Array Value} {w : World}
theorem upd_ne {s : Nat → Bool} {i j : Nat} (h : j ≠ i) : upd s i j = s j := by unfold upd; simp [h]
theorem upd_eq {s : Nat → Bool} {i : Nat} : upd s i i = true := by unfold upd; simp
theorem set_ne {T : Array Value} {q t : Nat} {v : Value} (h : t ≠ q) : (T.setIfInBounds q v)[t]? = T[t]? := Array.getElem?_setIfInBounds_ne (fun e => h e.symm)
theorem set_eq {T : Array Value} {q : Nat} {v : Value} (h : q < T.size) : (T.setIfInBounds q v)[q]? = some v := Array.getElem?_setIfInBounds_self_of_lt h
theorem TipJ.pure (h : TipJ n w00 T0 SL IL val p d ia ib ja jb P0 P1 D0 D1 tp td s T w) {i q : Nat} {w' : World} (hi : i ≠ ia ∧ i ≠ ib ∧ i ≠ ja ∧ i ≠ jb) (hq : q ∈ SL) (hqp : q ≠ p ∧ q ≠ d) (hqs : q < T0.size) (hx : ∀ x ∈ IL, x.1 = i → x.2 = q) (hn : n ≤ w.heap.size) (hb : Below w.heap.size w w') :
    TipJ n w00 T0 SL IL val p d ia ib ja jb P0 P1 D0 D1 tp td (upd s i) (T.setIfInBounds q (val q)) w' where
  bel := h.bel.trans (hb.mono hn)
  size := by simpa using h.size
  frame := fun t ht => (set_ne (fun e => ht (by rw [e]; exact hq))).trans (h.frame t ht)
  told := fun x hxi hs => by
    by_cases e : x.2 = q
    · rw [e, set_eq (by rw [h.size]; exact hqs)]
    · rw [set_ne e]
      refine h.told x hxi ?_
      rwa [upd_ne (fun e' => e (hx x hxi e'))] at hs
  fp := fun hs => by
    rw [upd_ne (fun e => hi.1 e.symm)] at hs
    obtain ⟨b, h1, h2, h3⟩ := h.fp hs
    exact ⟨b, (set_ne (fun e => hqp.1 e.symm)).trans h1, h2, by rw [upd_ne (fun e => hi.2.2.1 e.symm)]; exact blk_call h3 hb⟩
  fd := fun hs => by
    rw [upd_ne (fun e => hi.2.1 e.symm)] at hs
    obtain ⟨b, h1, h2, h3⟩ := h.fd hs
    exact ⟨b, (set_ne (fun e => hqp.2 e.symm)).trans h1, h2, by rw [upd_ne (fun e => hi.2.2.2 e.symm)]; exact blk_call h3 hb⟩
  ne := fun ha hb' => by
    rw [upd_ne (fun e => hi.1 e.symm)] at ha
    rw [upd_ne (fun e => hi.2.1 e.symm)] at hb'
    rw [set_ne (fun e => hqp.1 e.symm), set_ne (fun e => hqp.2 e.symm)]
    exact h.ne ha hb'
  op := fun hs => by
    rw [upd_ne (fun e => hi.2.2.1 e.symm)] at hs
    rw [upd_ne (fun e => hi.1 e.symm)]
    exact h.op hs
  od := fun hs => by
    rw [upd_ne (fun e => hi.2.2.2 e.symm)] at hs
    rw [upd_ne (fun e => hi.2.1 e.symm)]
    exact h.od hs
theorem TipJ.allocP (h : TipJ n w00 T0 SL IL val p d ia ib ja jb P0 P1 D0 D1 tp td s T w) (hs0 : s ia = false) (hne : ia ≠ ib ∧ ia ≠ ja ∧ ia ≠ jb ∧ p ≠ d) (hq : p ∈ SL) (hps : p < T0.size) (hx : ∀ x ∈ IL, x.1 ≠ ia ∧ x.2 ≠ p) (hn : n ≤ w.heap.size) :
    TipJ n w00 T0 SL IL val p d ia ib ja jb P0 P1 D0 D1 tp td (upd s ia) (T.setIfInBounds p (.pointer (some ⟨w.heap.size, 0, none⟩))) (w.alloc (.cells P0 tp)) where
  bel := h.bel.alloc hn _
  size := by simpa using h.size
  frame := fun t ht => (set_ne (fun e => ht (by rw [e]; exact hq))).trans (h.frame t ht)
  told := fun x hxi hs => by
    rw [set_ne (hx x hxi).2]
    refine h.told x hxi ?_
    rwa [upd_ne (hx x hxi).1] at hs
  fp := fun _ => by
    have hj : s ja = false := by
      cases e : s ja with
      | false => rfl
      | true => rw [h.op e] at hs0; cases hs0
    refine ⟨w.heap.size, set_eq (by rw [h.size]; exact hps), hn, ?_⟩
    rw [upd_ne (fun e => hne.2.1 e.symm), hj]
    exact blk_new _ _ _ rfl
  fd := fun hs => by
    rw [upd_ne (fun e => hne.1 e.symm)] at hs
    obtain ⟨b, h1, h2, h3⟩ := h.fd hs
    exact ⟨b, (set_ne (fun e => hne.2.2.2 e.symm)).trans h1, h2, by rw [upd_ne (fun e => hne.2.2.1 e.symm)]; exact blk_alloc h3 _⟩
  ne := fun _ hb' => by
    rw [upd_ne (fun e => hne.1 e.symm)] at hb'
    obtain ⟨b, h1, h2, h3⟩ := h.fd hb'
    rw [set_eq (by rw [h.size]; exact hps), set_ne (fun e => hne.2.2.2 e.symm), h1]
    intro e
    have := blk_lt h3
    cases e
    omega
  op := fun _ => upd_eq
  od := fun hs => by
    rw [upd_ne (fun e => hne.2.2.1 e.symm)] at hs
    rw [upd_ne (fun e => hne.1 e.symm)]
    exact h.od hs
/-- The two blocks exchanged. -/
theorem TipJ.swap (h : TipJ n w00 T0 SL IL val p d ia ib ja jb P0 P1 D0 D1 tp td s T w) : TipJ n w00 T0 SL IL val d p ib ia jb ja D0 D1 P0 P1 td tp s T w where
  bel := h.bel
  size := h.size
  frame := h.frame
  told := h.told
  fp := h.fd
  fd := h.fp
  ne := fun a b e => h.ne b a e.symm
  op := h.od
  od := h.op
theorem TipJ.storeP (h : TipJ n w00 T0 SL IL val p d ia ib ja jb P0 P1 D0 D1 tp td s T w) {b : Nat} (hne : ja ≠ ia ∧ ja ≠ ib ∧ ja ≠ jb) (hx : ∀ x ∈ IL, x.1 ≠ ja) (hs : s ia = true) (hb : T[p]? = some (.pointer (some ⟨b, 0, none⟩))) (hnb : n ≤ b) {old : Array Value} (hh : w.heap[b]? = some (.cells old tp (0, 0))) :
    TipJ n w00 T0 SL IL val p d ia ib ja jb P0 P1 D0 D1 tp td (upd s ja) T (w.setRow b P1) where
  bel := below_setRow7 h.bel hnb P1
  size := h.size
  frame := h.frame
  told := fun x hxi hs => by
    rw [upd_ne (hx x hxi)] at hs
    exact h.told x hxi hs
  fp := fun _ => ⟨b, hb, hnb, by rw [upd_eq]; exact setRow_heap w b _ P1 _ _ hh⟩
  fd := fun hs' => by
    rw [upd_ne (fun e => hne.2.1 e.symm)] at hs'
    obtain ⟨b', h1, h2, h3⟩ := h.fd hs'
    refine ⟨b', h1, h2, ?_⟩
    rw [upd_ne (fun e => hne.2.2 e.symm)]
    have hbb : b' ≠ b := fun e => h.ne hs hs' (by rw [hb, h1, e])
    exact (setRow_other w b b' P1 hbb).trans h3
  ne := fun ha hb' => by
    rw [upd_ne (fun e => hne.1 e.symm)] at ha
    rw [upd_ne (fun e => hne.2.1 e.symm)] at hb'
    exact h.ne ha hb'
  op := fun _ => by rw [upd_ne (fun e => hne.1 e.symm)]; exact hs
  od := fun hs' => by
    rw [upd_ne (fun e => hne.2.2 e.symm)] at hs'
    rw [upd_ne (fun e => hne.2.1 e.symm)]
    exact h.od hs'
theorem guards_none {ops : Array Oper} (h : ops.all (fun o => o.guard.isNone) = true) : ∀ (i : Nat) (o : Oper), ops[i]? = some o → o.guard = none := fun i o ho => by
  have hm := Array.mem_of_getElem? ho
  have := Array.all_eq_true'.1 h o hm
  simpa using this
theorem slots_free {ops : Array Oper} {SL : List Nat} {m : Nat} (h : (SL.all fun t => (List.range m).any fun j => decide (dstOf ops j = some t)) = true) {t : Nat} (hf : FreeM ops m t) : t ∉ SL := fun ht => by
  have := List.all_eq_true.1 h t ht
  obtain ⟨j, hj, he⟩ := List.any_eq_true.1 this
  exact hf j (List.mem_range.1 hj) (of_decide_eq_true he)
theorem region_tip {F : Fence} {n1 : Nat} {P : Program} {ops : Array Oper} {Q : Exit → Act → World → Prop} {DD : List Deferred} {W : World} {id : Nat} (SL : List Nat) (IL : List (Nat × Nat)) (val : Nat → Value) (p d ia ib ja jb : Nat) (P0 P1 D0 D1 : Array Value) (tp td : TypeId)
    (hF : F.fn = fun _ => True) (hd : F.depth = none) (ha : F.alive = false) (hnd : noDefer ops = true) (hmx : P.follows .mixedOrders = true) (hwf : wfB ops T0.size = true) (hgd : ops.all (fun o => o.guard.isNone) = true) (hsl : (SL.all fun t => (List.range ops.size).any fun j => decide (dstOf ops j = some t)) = true)
    (hstep : ∀ (s : Nat → Bool) (T : Array Value) (w : World) (i : Nat) (o : Oper) (K : Act → World → Prop), ops[i]? = some o → s i = false → (∀ j, (∃ e ∈ o.after, e.on = j ∧ Region.binds .any e = true) → s j = true) → TipJ W.heap.size W T0 SL IL val p d ia ib ja jb P0 P1 D0 D1 tp td s T w →
      (∀ T' w', TipJ W.heap.size W T0 SL IL val p d ia ib ja jb P0 P1 D0 D1 tp td (upd s i) T' w' → K ⟨T', DD⟩ w') → Oper.wp P o ⟨T, DD⟩ w K (fun _ _ _ => False))
    (hfin : ∀ (s : Nat → Bool) T w, (∀ j, j < ops.size → s j = true) → TipJ W.heap.size W T0 SL IL val p d ia ib ja jb P0 P1 D0 D1 tp td s T w → (∀ t, FreeM ops ops.size t → T[t]? = T0[t]?) → Q .normal ⟨T, DD⟩ w) :
    (Code.region id ops true).wpIn F n1 P Q ⟨T0, DD⟩ W :=
  region_inv hF hd ha hnd hmx hwf (guards_none hgd) ⟨(Below.refl _ _).drew, rfl, fun _ _ => rfl, fun _ _ h => (by cases h), fun h => (by cases h), fun h => (by cases h), fun h => (by cases h), fun h => (by cases h), fun h => (by cases h)⟩ hstep (fun s T w ha hJ => hfin s T w ha hJ (fun t ht => hJ.frame t (slots_free hsl ht)))
end
end Go.Proofs.YtceejjamngplkaaDoor
