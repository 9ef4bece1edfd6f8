/- A region that draws its order, in a round of a loop over an iterator, and the iterator's own: what is shown of it outside a fence serves there. -/
import Derived.Test.YthmcejeeohlafaaDoorGeoRgt
import Derived.RangeFuncNested
import Derived.RangeFuncBound
import Derived.RangeFuncCalls
import Derived.RangeFuncLeaves
import Derived.Shelf.Abstract
import Derived.WalkKit
import Derived.OwnWalkIn
import Derived.TacticsInMore
import Derived.LoopNIn
import Derived.LoopIn
namespace Go.Proofs.YthmcejeeohlafaaDoor
open Go.ChangeShapes Go.WideShapes Go.ChangeAt Go.RowKit

theorem rows_in {F : Fence} (hF : F.fn = fun _ => True) (hd : F.depth = none) (ha : F.alive = false) {n : Nat} {P : Program} {row : String} {args : Array Value} {w : World} {R : Value → World → Prop} (h : Rows P row args w R) : RowsIn F n P row args w R := by
  intro c cs _
  obtain ⟨v, w', hr, hs⟩ := h c cs
  refine ⟨v, w', hr, ?_⟩
  have := (stepsIn_wide (P := P)).2 hs
  obtain ⟨fn, d, al, ro⟩ := F
  subst hF hd ha
  exact this
theorem calls_in {F : Fence} (hF : F.fn = fun _ => True) (hd : F.depth = none) (ha : F.alive = false) {n : Nat} {P : Program} {f : FuncId} {args : Array Value} {w : World} {R : Ending → World → Prop} (h : Calls P f args w R) : CallsIn F n P f args w R := by
  have := (callsIn_wide (n := n)).2 h
  obtain ⟨fn, d, al, ro⟩ := F
  subst hF hd ha
  exact this
/-- No operation is a defer statement, and none asks to be let out. -/
theorem op_in {F : Fence} (hF : F.fn = fun _ => True) (hd : F.depth = none) (ha : F.alive = false) {n : Nat} {P : Program} {o : Oper} (hnd : ∀ c, o.op ≠ .defer c) {a : Act} {w : World} {K : Act → World → Prop} {Q : Exit → Act → World → Prop} (h : Oper.wp P o a w K Q) : o.wpIn F n P a w K Q := by
  unfold Oper.wpIn
  refine ⟨fun f _ => by rw [hF]; trivial, ?_⟩
  have hs : o.semAt F.round a.eval = execOp a.eval o := by
    cases F.round with
    | none => rfl
    | some l => exact Oper.semAt_some l _ _ hnd
  rw [hs]
  unfold Oper.wp at h
  generalize (execOp a.eval o).run P w = r at *
  cases r with
  | ok x w' =>
    cases x <;> simp only [Oper.upon, Oper.uponIn] at h ⊢ <;>
      first
        | exact h
        | exact ⟨fun e => (by rw [hd] at e; cases e), calls_in hF hd ha h⟩
        | exact ⟨fun e => (by rw [hd] at e; cases e), rows_in hF hd ha h⟩
  | halt x w' => cases x <;> simp only [Oper.upon, Oper.uponIn] at h ⊢ <;> exact h
theorem Oper.wpIn_exits {F : Fence} {n : Nat} {P : Program} {o : Oper} {a : Act} {w : World} {K : Act → World → Prop} {Q Q' : Exit → Act → World → Prop} (h : ∀ e a w, Q e a w → Q' e a w) (hh : o.wpIn F n P a w K Q) : o.wpIn F n P a w K Q' := by
  unfold Oper.wpIn at *
  refine ⟨hh.1, ?_⟩
  have hh := hh.2
  generalize (o.semAt F.round a.eval).run P w = r at *
  have hl : LetsOut Q → LetsOut Q' := fun ⟨a, w, q⟩ => ⟨a, w, h _ _ _ q⟩
  cases r with
  | ok x w' =>
    cases x <;> simp only [Oper.uponIn] at hh ⊢ <;>
      first
        | exact hh
        | exact ⟨hh.1, CallsIn.mono hh.2 (fun e w'' he => by cases e <;> first | exact he | exact h _ _ _ he | exact hl he)⟩
        | exact ⟨hh.1, RoundIn.mono hh.2 (fun e w'' he => by cases e <;> first | exact he | exact h _ _ _ he | exact hl he)⟩
  | halt x w' => cases x <;> simp only [Oper.uponIn] at hh ⊢ <;> first | exact hh | exact h _ _ _ hh
def noDefer (ops : Array Oper) : Bool := ops.all fun o => match o.op with | .defer _ => false | _ => true
theorem noDefer_at {ops : Array Oper} (h : noDefer ops = true) {i : Nat} {o : Oper} (ho : ops[i]? = some o) : ∀ c, o.op ≠ .defer c := by
  intro c e
  have := Array.all_eq_true'.1 h o (Array.mem_of_getElem? ho)
  rw [e] at this
  cases this
section
variable {F : Fence} {n : Nat} {P : Program} {ops : Array Oper} {Q : Exit → Act → World → Prop} {sp : Told} {T0 : Array Value} {D0 : List Deferred} {w0 : World}
theorem opAt_in (hF : F.fn = fun _ => True) (hd : F.depth = none) (ha : F.alive = false) (hnd : noDefer ops = true) (hQ : ¬ LetsOut Q) {i : Nat} {K K' : Act → World → Prop} (hK : ∀ a w, K a w → K' a w) {a : Act} {w : World} (h : wpOp P ops Q i K a w) : wpOpIn F n P ops Q i K' a w := by
  refine wpOpIn_mono hK ?_
  unfold wpOp at h
  unfold wpOpIn
  cases ho : ops[i]? with
  | none => simpa [ho] using h
  | some o =>
    simp only [ho] at h ⊢
    split
    · rename_i hw
      rw [if_pos hw] at h
      rcases h with h | h
      · exact op_in hF hd ha (noDefer_at hnd ho) h
      · exact absurd h.2 hQ
    · rename_i hw
      rw [if_neg hw] at h
      exact ⟨fun f _ => by rw [hF]; trivial, h⟩
theorem any_in (hF : F.fn = fun _ => True) (hd : F.depth = none) (ha : F.alive = false) (hnd : noDefer ops = true) (hQ : ¬ LetsOut Q) : ∀ (fuel : Nat) (listed : Array Bool) (a : Act) (w : World), wpAny P .any ops Q fuel listed a w → wpAnyIn F n P .any ops Q fuel listed a w
  | 0, _, _, _, h => h
  | fuel + 1, _, _, _, h => ⟨h.1, fun i hi => opAt_in hF hd ha hnd hQ (fun a w => any_in hF hd ha hnd hQ fuel _ a w) (h.2 i hi)⟩
theorem region_obs_in {id : Nat} (sp : Told) (hF : F.fn = fun _ => True) (hd : F.depth = none) (ha : F.alive = false) (hnd : noDefer ops = true) (hQ : ¬ LetsOut Q) (hm : P.follows .mixedOrders = true) (hwf : wfB ops T0.size = true) (hob : Obs P ops Q sp T0 D0 w0 ops.toList)
    (hfin : ∀ T w, Below w0.heap.size w0 w → (∀ t, Free ops t → T[t]? = T0[t]?) → T.size = T0.size → (∀ j d, dstOf ops j = some d → ∃ v, T[d]? = some v ∧ Rt sp d v w) → Q .normal ⟨T, D0⟩ w) :
    (Code.region id ops true).wpIn F n P Q ⟨T0, D0⟩ w0 := by
  refine wpIn_region_any hm (any_in hF hd ha hnd hQ _ _ _ _ (any_of_obs hwf hob hfin _ _ _ _ ?_ ?_))
  · have := List.countP_le_length (p := fun j => !(Array.replicate ops.size false).getD j true) (l := List.range ops.size)
    unfold left
    simpa using this
  · exact ⟨(Below.refl w0.heap.size w0).drew, rfl, fun t _ => rfl, rfl, by simp, fun j d hj _ => by
      exfalso
      by_cases hb : j < ops.size
      · simp [Array.getD, hb] at hj
      · simp [Array.getD, hb] at hj⟩
end
/-! ### A region whose last operations wait, each, for all ahead of them -/
def preds (ops : Array Oper) (i : Nat) : List Nat := match ops[i]? with
  | none => []
  | some o => o.after.toList.filterMap fun e => if Region.binds .any e then some e.on else none
def anc (ops : Array Oper) : Nat → Nat → List Nat
  | 0, _ => []
  | f + 1, i => preds ops i ++ (preds ops i).flatMap (anc ops f)
def forced (ops : Array Oper) (m : Nat) : Bool := (List.range ops.size).all fun i => decide (i < m) || (List.range i).all fun j => decide (j ∈ anc ops ops.size i)
def Shut (ops : Array Oper) (listed : Array Bool) : Prop := ∀ i, listed.getD i false = true → ∀ j ∈ preds ops i, listed.getD j false = true
theorem anc_in {ops : Array Oper} {listed : Array Bool} (hs : Shut ops listed) : ∀ (f i : Nat), (∀ j ∈ preds ops i, listed.getD j false = true) → ∀ j ∈ anc ops f i, listed.getD j false = true
  | 0, _, _, _, h => by simp [anc] at h
  | f + 1, i, hp, j, h => by
    simp only [anc, List.mem_append, List.mem_flatMap] at h
    rcases h with h | ⟨k, hk, hj⟩
    · exact hp j h
    · exact anc_in hs f k (hs k (hp k hk)) j hj
theorem forced_at {ops : Array Oper} {m : Nat} (h : forced ops m = true) {i : Nat} (hm : m ≤ i) (hi : i < ops.size) : ∀ j, j < i → j ∈ anc ops ops.size i := by
  have := List.all_eq_true.1 h i (List.mem_range.2 hi)
  simp only [Bool.or_eq_true, decide_eq_true_eq] at this
  rcases this with h | h
  · omega
  · intro j hj
    simpa using List.all_eq_true.1 h j (List.mem_range.2 hj)
theorem ready_preds {ops : Array Oper} {listed : Array Bool} (hsz : listed.size = ops.size) {i : Nat} (hwf : ∀ {i : Nat} {o : Oper}, ops[i]? = some o → ∀ e ∈ o.after, Region.binds .any e = true → e.on < i) (h : i ∈ Region.ready .any ops listed) : ∀ j ∈ preds ops i, listed.getD j false = true := by
  obtain ⟨_, o, ho, hall⟩ := mem_ready.1 h
  have hi := (Array.getElem?_eq_some_iff.1 ho).1
  intro j hj
  unfold preds at hj
  rw [ho] at hj
  simp only [List.mem_filterMap] at hj
  obtain ⟨e, he, hb⟩ := hj
  split at hb
  · rename_i hbb
    simp at hb
    subst hb
    have hlt := hwf ho e (by simpa using he) hbb
    have := hall e (by simpa using he) hbb
    have hb : e.on < listed.size := by omega
    simpa [Array.getD, hb] using this
  · cases hb
theorem getD_tf {listed : Array Bool} {j : Nat} (h : j < listed.size) : listed.getD j true = listed.getD j false := by simp [Array.getD, h]

section
variable {F : Fence} {n : Nat} {P : Program} {ops : Array Oper} {Q : Exit → Act → World → Prop} {sp : Told} {T0 : Array Value} {D0 : List Deferred} {w0 : World}
theorem tail_in {N m : Nat} (hwf : wfB ops N = true) (hfo : forced ops m = true) : ∀ (k i : Nat) (listed : Array Bool) (a : Act) (w : World) (fuel : Nat), m ≤ i → i + k = ops.size → listed.size = ops.size → (∀ j, j < ops.size → (listed.getD j false = true ↔ j < i)) → left ops.size listed ≤ fuel → wpOpsIn F n P ops Q (List.range' i k) a w → wpAnyIn F n P .any ops Q fuel listed a w := by
  intro k
  induction k with
  | zero =>
    intro i listed a w fuel _ hik hsz hl _ h
    have hr : Region.ready .any ops listed = [] := by
      cases hr : Region.ready .any ops listed with
      | nil => rfl
      | cons j r =>
        have hm : j ∈ Region.ready .any ops listed := by rw [hr]; exact List.mem_cons_self ..
        obtain ⟨hj, o, ho, _⟩ := mem_ready.1 hm
        have hlt := (Array.getElem?_eq_some_iff.1 ho).1
        rw [getD_tf (by omega), (hl j hlt).2 (by omega)] at hj
        cases hj
    cases fuel with
    | zero => exact ⟨hr, h⟩
    | succ f => exact ⟨fun _ => h, fun i hi => by rw [hr] at hi; cases hi⟩
  | succ k ih =>
    intro i listed a w fuel hmi hik hsz hl hf h
    have hi : i < ops.size := by omega
    have hun : listed.getD i false = false := by
      cases e : listed.getD i false with
      | false => rfl
      | true => have := (hl i hi).1 e; omega
    have hdec : left ops.size (listed.setIfInBounds i true) < left ops.size listed := countP_lt (fun x _ hx => by
        by_cases hix : i = x
        · subst hix
          have hb : i < listed.size := by omega
          simp [Array.getD, hb] at hx
        · rwa [getD_set_ne true hix] at hx) ⟨i, List.mem_range.2 hi, by rw [getD_tf (by omega), hun]; rfl, by
          have hb : i < listed.size := by omega
          simp [Array.getD, hb]⟩
    obtain ⟨f, rfl⟩ : ∃ f, fuel = f + 1 := ⟨fuel - 1, by omega⟩
    refine ⟨fun hr => ?_, fun i' hi' => ?_⟩
    · have := all_listed hwf hsz hr i hi
      rw [getD_tf (by omega), hun] at this
      cases this
    · have hp := ready_preds hsz (fun ho => wf_after hwf ho) hi'
      obtain ⟨hj, o, ho, _⟩ := mem_ready.1 hi'
      have hlt := (Array.getElem?_eq_some_iff.1 ho).1
      have hge : i ≤ i' := by
        rcases Nat.lt_or_ge i' i with g | g
        · rw [getD_tf (by omega), (hl i' hlt).2 g] at hj; cases hj
        · exact g
      have hsh : Shut ops listed := fun x hx j hjx => by
        have hxs : x < ops.size := by
          rcases Nat.lt_or_ge x ops.size with g | g
          · exact g
          · simp [Array.getD, show ¬ x < listed.size by omega] at hx
        have hxi := (hl x hxs).1 hx
        have : j < x := by
          unfold preds at hjx
          cases hox : ops[x]? with
          | none => rw [hox] at hjx; cases hjx
          | some ox =>
            rw [hox] at hjx
            simp only [List.mem_filterMap] at hjx
            obtain ⟨e, he, hb⟩ := hjx
            split at hb
            · rename_i hbb; simp at hb; subst hb; exact wf_after hwf hox e (by simpa using he) hbb
            · cases hb
        exact (hl j (by omega)).2 (by omega)
      obtain rfl : i' = i := by
        rcases Nat.lt_or_ge i i' with g | g
        · have := anc_in hsh ops.size i' hp i (forced_at hfo (by omega) hlt i g)
          rw [hun] at this; cases this
        · omega
      rw [List.range'_succ, wpOpsIn_cons] at h
      refine wpOpIn_mono (fun a w h => ih (i' + 1) _ a w f (by omega) (by omega) (by simpa using hsz) (fun j hjs => ?_) (by omega) h) h
      by_cases hij : i' = j
      · subst hij
        have hb : i' < listed.size := by omega
        simp [Array.getD, hb]
      · rw [getD_set_ne false hij, hl j hjs]; omega
theorem head_in (hF : F.fn = fun _ => True) (hd : F.depth = none) (ha : F.alive = false) (hnd : noDefer ops = true) {m : Nat} (hm : m < ops.size) (hfo : forced ops m = true) (hwf : wfB ops T0.size = true) (hob : ∀ Q' : Exit → Act → World → Prop, Obs P ops Q' sp T0 D0 w0 (ops.toList.take m))
    (hfin : ∀ T w, Below w0.heap.size w0 w → (∀ t, Free ops t → T[t]? = T0[t]?) → T.size = T0.size → (∀ j d, j < m → dstOf ops j = some d → ∃ v, T[d]? = some v ∧ Rt sp d v w) → wpOpsIn F n P ops Q (List.range' m (ops.size - m)) ⟨T, D0⟩ w) :
    ∀ (fuel : Nat) (listed : Array Bool) (a : Act) (w : World), left ops.size listed ≤ fuel → Inv ops sp T0 D0 w0 listed a w → Shut ops listed → (∀ i, m ≤ i → listed.getD i false = false) → wpAnyIn F n P .any ops Q fuel listed a w := by
  intro fuel
  induction fuel with
  | zero =>
    intro listed a w hl hI _ hno
    exfalso
    have h0 : left ops.size listed = 0 := by omega
    have := List.countP_eq_zero.1 h0 m (List.mem_range.2 hm)
    have hsz := hI.2.2.2.2.1
    rw [getD_tf (by omega), hno m (Nat.le_refl _)] at this
    simp at this
  | succ fuel ih =>
    intro listed a w hl hI hsh hno
    have hsz := hI.2.2.2.2.1
    refine ⟨fun hr => ?_, fun i hi => ?_⟩
    · have := all_listed hwf hsz hr m hm
      rw [getD_tf (by omega), hno m (Nat.le_refl _)] at this
      cases this
    obtain ⟨hun, o, ho, hall⟩ := mem_ready.1 hi
    have hp := ready_preds hsz (fun ho => wf_after hwf ho) hi
    have hlt : i < ops.size := (Array.getElem?_eq_some_iff.1 ho).1
    have hdec : left ops.size (listed.setIfInBounds i true) ≤ fuel := by
      have : left ops.size (listed.setIfInBounds i true) < left ops.size listed := countP_lt (fun x _ hx => by
          by_cases hix : i = x
          · subst hix
            have hb : i < listed.size := by omega
            simp [Array.getD, hb] at hx
          · rwa [getD_set_ne true hix] at hx) ⟨i, List.mem_range.2 hlt, by rw [hun]; rfl, by
            have hb : i < listed.size := by omega
            simp [Array.getD, hb]⟩
      omega
    obtain ⟨T, D⟩ := a
    obtain rfl : D = D0 := hI.2.1
    rcases Nat.lt_or_ge i m with him | him
    · have hob' := (hob fun _ _ _ => False).get (i := i) (o := o) (by rw [List.getElem?_take_of_lt him]; simpa using ho)
      have hst := hob' T w (fun a' w' => wpAnyIn F n P .any ops Q fuel (listed.setIfInBounds i true) a' w') hI.1 hI.2.2.1
        (fun j d ⟨e, he, hej, hb⟩ hjd => by subst hej; exact hI.2.2.2.2.2 e.on d (hall e he hb) hjd)
        (fun v w' hb hv => ih _ _ _ hdec (hI.next hwf ho hb hv) (fun x hx j hj => by
          by_cases hij : i = j
          · subst hij
            have hb : i < listed.size := by omega
            simp [Array.getD, hb]
          · rw [getD_set_ne false hij]
            by_cases hix : i = x
            · subst hix; exact hp j hj
            · rw [getD_set_ne false hix] at hx; exact hsh x hx j hj) (fun j hj => by rw [getD_set_ne false (by omega)]; exact hno j hj))
      unfold wpOpIn
      simp only [ho]
      split
      · rename_i hw
        rw [if_pos hw] at hst
        have := op_in (n := n) hF hd ha (noDefer_at hnd ho) hst
        refine _root_.Go.Proofs.YthmcejeeohlafaaDoor.Oper.wpIn_exits ?_ this
        intro e a w h
        exact h.elim
      · rename_i hw; rw [if_neg hw] at hst; exact ⟨fun f _ => by rw [hF]; trivial, hst⟩
    · have hanc := anc_in hsh ops.size i hp
      obtain rfl : i = m := by
        rcases Nat.lt_or_ge m i with g | g
        · have := hanc m (forced_at hfo him hlt m g)
          rw [hno m (Nat.le_refl _)] at this; cases this
        · omega
      have hfull : ∀ j, j < i → listed.getD j false = true := fun j hj => hanc j (forced_at hfo (Nat.le_refl _) hlt j hj)
      have h := hfin T w hI.1 hI.2.2.1 hI.2.2.2.1 (fun j d hj hjd => hI.2.2.2.2.2 j d (hfull j hj) hjd)
      obtain ⟨k, hk⟩ : ∃ k, ops.size - i = k + 1 := ⟨ops.size - i - 1, by omega⟩
      rw [hk, List.range'_succ, wpOpsIn_cons] at h
      refine wpOpIn_mono (fun a w h => tail_in hwf hfo k (i + 1) _ a w fuel (by omega) (by omega) (by simpa using hsz) (fun j hjs => ?_) hdec h) h
      by_cases hij : i = j
      · subst hij
        have hb : i < listed.size := by omega
        simp [Array.getD, hb]
      · rw [getD_set_ne false hij]
        constructor
        · intro e
          rcases Nat.lt_or_ge j i with g | g
          · omega
          · rw [hno j g] at e; cases e
        · intro g; exact hfull j (by omega)
theorem region_head_in {id : Nat} (sp : Told) (m : Nat) (hF : F.fn = fun _ => True) (hd : F.depth = none) (ha : F.alive = false) (hnd : noDefer ops = true) (hm : m < ops.size) (hfo : forced ops m = true) (hmx : P.follows .mixedOrders = true) (hwf : wfB ops T0.size = true) (hob : ∀ Q' : Exit → Act → World → Prop, Obs P ops Q' sp T0 D0 w0 (ops.toList.take m))
    (hfin : ∀ T w, Below w0.heap.size w0 w → (∀ t, Free ops t → T[t]? = T0[t]?) → T.size = T0.size → (∀ j d, j < m → dstOf ops j = some d → ∃ v, T[d]? = some v ∧ Rt sp d v w) → wpOpsIn F n P ops Q (List.range' m (ops.size - m)) ⟨T, D0⟩ w) :
    (Code.region id ops true).wpIn F n P Q ⟨T0, D0⟩ w0 := by
  have hz : ∀ i, (Array.replicate ops.size false).getD i false = false := fun i => by
    by_cases hb : i < ops.size
    · simp [Array.getD, hb]
    · simp [Array.getD, hb]
  refine wpIn_region_any hmx (head_in hF hd ha hnd hm hfo hwf hob hfin _ _ _ _ ?_ ?_ (fun i hi => by rw [hz] at hi; cases hi) (fun i _ => hz i))
  · have := List.countP_le_length (p := fun j => !(Array.replicate ops.size false).getD j true) (l := List.range ops.size)
    unfold left
    simpa using this
  · exact ⟨(Below.refl w0.heap.size w0).drew, rfl, fun t _ => rfl, rfl, by simp, fun j d hj _ => by rw [hz] at hj; cases hj⟩
end
end Go.Proofs.YthmcejeeohlafaaDoor
