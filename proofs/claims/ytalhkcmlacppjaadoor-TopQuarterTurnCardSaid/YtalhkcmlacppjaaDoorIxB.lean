/- Contracts of package intersect: hasOnItsRight, firstCornerIn, with their closures and the library's IndexFunc and ContainsFunc at them. -/
import Derived.Test.YtalhkcmlacppjaaDoorIxA
import Derived.Test.YtalhkcmlacppjaaDoorIuB
namespace Go.Proofs.YtalhkcmlacppjaaDoor
open Go.ChangeShapes Go.WideShapes Go.ChangeAt Go.RowKit
set_option linter.unusedVariables false
set_option linter.unusedSimpArgs false

/-- The first number for which p holds, or -1. -/
def firstI (p : Nat → Bool) (n : Nat) : Int := match (List.range n).find? p with
  | some i => i
  | none => -1
theorem firstI_some {p : Nat → Bool} {n k : Nat} (hk : k < n) (h0 : ∀ j, j < k → p j = false) (h1 : p k = true) : firstI p n = k := by
  unfold firstI
  have : (List.range n).find? p = some k := by
    rw [List.find?_range_eq_some]
    exact ⟨h1, List.mem_range.2 hk, fun j hj => by rw [h0 j hj]; rfl⟩
  rw [this]
theorem firstI_none {p : Nat → Bool} {n : Nat} (h : ∀ j, j < n → p j = false) : firstI p n = -1 := by
  unfold firstI
  have : (List.range n).find? p = none := by
    rw [List.find?_eq_none]
    intro j hj
    rw [h j (List.mem_range.1 hj)]
    simp
  rw [this]
theorem firstI_cases (p : Nat → Bool) (n : Nat) : (firstI p n = -1 ∧ ∀ j, j < n → p j = false) ∨ ∃ k, k < n ∧ firstI p n = k ∧ p k = true ∧ ∀ j, j < k → p j = false := by
  unfold firstI
  cases h : (List.range n).find? p with
  | none => exact .inl ⟨rfl, fun j hj => by have := List.find?_eq_none.1 h j (List.mem_range.2 hj); simpa using this⟩
  | some k =>
    obtain ⟨h1, h2, h3⟩ := List.find?_range_eq_some.1 h
    exact .inr ⟨k, List.mem_range.1 h2, rfl, h1, fun j hj => by simpa using h3 j hj⟩

/-! ### Is a corner in the other polygon? -/
theorem corclo_is (B : Nat) (bo : Option Addr) (m cb : Nat) (l : List (Int × Int)) (p q : Int) (t : Bool) (w : World) (hm : l.length = m) (ht : Hid (decide (0 ≤ locE l p q) = t)) (h0 : 0 < l.length) (h12 : l.length ≤ 12) (hP : PRow w bo l) (ha : AllR2 l) (hp : InR p) (hq : InR q)
    (hB : w.heap[B]? = some (.cells #[.slice bo m cb] 34 (0, 0))) :
    Calls Tryd.prog 93 #[.agg #[.int .i64 p, .int .i64 q], .pointer (some ⟨B, 0, none⟩)] w fun e w' => e = .returned (.bool t) ∧ Below w.heap.size w w' := by
  have cb' := cell_alloc (blk_cell hB 0 _ rfl) (.cells #[.int .i64 p, .int .i64 q] 23)
  go_enter Tryd.func93, Tryd.ntmps93
  go_wp2_with (go_at_call 94; refine (contains_is bo m cb l p q t _ hm ht h0 h12 (prow_alloc hP _) ha hp hq).mono ?_; rintro e w1 ⟨rfl, hb⟩)
  go_ret
  exact ⟨rfl, (belA (Below.refl _ _) _).trans (hb.mono (by simp))⟩

theorem corindex_is (ao bo : Option Addr) (n cap m cb B : Nat) (a l : List (Int × Int)) (r : Int) (w : World) (hn : a.length = n) (hm : l.length = m) (hr : Hid (firstI (inC a l) n = r)) (hle : n ≤ 1000000) (hA : PRow w ao a) (va : AllR2 a) (h0 : 0 < l.length) (h12 : l.length ≤ 12) (hP : PRow w bo l) (ha : AllR2 l)
    (hB : w.heap[B]? = some (.cells #[.slice bo m cb] 34 (0, 0))) :
    Calls Tryd.prog 88 #[.slice ao n cap, .func (.func 93) #[] #[.pointer (some ⟨B, 0, none⟩)]] w fun e w' => e = .returned (.int .i64 r) ∧ Below w.heap.size w w' := by
  subst hn
  go_enter Tryd.func88, Tryd.ntmps88
  go_wp2
  go_loopw [8] (fun i wr => ∃ k : Nat, k ≤ a.length ∧ i = .int .i64 k ∧ Hid (∀ j, j < k → inC a l j = false) ∧ Below w.heap.size w wr) (fun i _ => a.length - (intOf i).toNat)
  case atStart => exact ⟨0, Nat.zero_le _, rfl, Lib.hid (fun j hj => by omega), Below.refl _ _⟩
  case round =>
    obtain ⟨k, hk, rfl, hno, hb0⟩ := hrel
    by_cases hlt : k < a.length
    · obtain ⟨b, o, rfl, c1, c2⟩ := prow_at hA hlt
      obtain ⟨t, ht⟩ : ∃ t, inC a l k = t := ⟨_, rfl⟩
      have HT : Hid (decide (0 ≤ locE l (cx a k) (cy a k)) = t) := Lib.hid ht
      have HX := Lib.hid ht
      have d1 := (hb0.cell (World.block_lt_of_cell? w _ c1)).trans c1
      have d2 := (hb0.cell (World.block_lt_of_cell? w _ c2)).trans c2
      have hB' := blk_call hB hb0
      have hki : (k : Int) < a.length := by omega
      have v1 := (va k hlt).1
      have v2 := (va k hlt).2
      have hP' := prow_below hP hb0
      clear c1 c2 ht
      cases t
      · go_wp2_with (go_at_call 93; refine (corclo_is B bo m cb l _ _ false _ hm HT h0 h12 hP' ha v1 v2 hB').mono ?_; rintro e w1 ⟨rfl, hb⟩)
        go_roundw
        case rel => exact ⟨k + 1, by omega, by go_num, Lib.hid (fun j hj => by
          by_cases e : j = k
          · subst e; exact HX.out
          · exact hno.out j (by omega)), belT hb0 hb⟩
        case measure => simp [intOf]; omega
      · go_wp2_with (go_at_call 93; refine (corclo_is B bo m cb l _ _ true _ hm HT h0 h12 hP' ha v1 v2 hB').mono ?_; rintro e w1 ⟨rfl, hb⟩)
        go_ret
        exact ⟨ret_int (by rw [← hr.out, firstI_some hlt hno.out HX.out]), belT hb0 hb⟩
    · have e : k = a.length := by omega
      have HE : Hid (firstI (inC a l) a.length = -1) := Lib.hid (firstI_none fun j hj => hno.out j (by omega))
      clear hno e
      go_wp2
      go_ret
      exact ⟨ret_int (by rw [← hr.out, HE.out]), hb0⟩

theorem firstcorner_is (ao bo : Option Addr) (n cap m cb : Nat) (a l : List (Int × Int)) (r : Int) (w : World) (hn : a.length = n) (hm : l.length = m) (hr : Hid (firstI (inC a l) n = r)) (hle : n ≤ 1000000) (hA : PRow w ao a) (va : AllR2 a) (h0 : 0 < l.length) (h12 : l.length ≤ 12) (hP : PRow w bo l) (ha : AllR2 l) :
    Calls Tryd.prog 83 #[.slice ao n cap, .slice bo m cb] w fun e w' => e = .returned (.int .i64 r) ∧ Below w.heap.size w w' := by
  have hB : (w.alloc (.cells #[.slice bo m cb] 34)).heap[w.heap.size]? = some (.cells #[.slice bo m cb] 34 (0, 0)) := blk_new _ _ _ rfl
  go_enter Tryd.func83, Tryd.ntmps83
  go_wp2_with (go_at_call 88; refine (corindex_is ao bo n cap m cb w.heap.size a l r _ hn hm hr hle (prow_alloc hA _) va h0 h12 (prow_alloc hP _) ha hB).mono ?_; rintro e w1 ⟨rfl, hb⟩)
  go_ret
  exact ⟨rfl, (belA (Below.refl _ _) _).trans (hb.mono (by simp))⟩

/-! ### Do all corners lie to the right of an edge? -/
def geB (a b c d p q : Int) : Bool := decide (0 ≤ ori a b c d p q)
def geE (a b c d : Int) (l : List (Int × Int)) (j : Nat) : Bool := geB a b c d (cx l j) (cy l j)
theorem ori_nng (a b c d p q : Int) : decide (0 ≤ ori a b c d p q) = decide (0 ≤ det a b c d p q) := by
  unfold ori det cmpI
  generalize (c - a) * (q - b) = x
  generalize (d - b) * (p - a) = y
  by_cases h : x < y
  · rw [if_pos h, decide_eq_false (show ¬ 0 ≤ x - y by omega)]; rfl
  · rw [if_neg h, decide_eq_true (show 0 ≤ x - y by omega)]
    split <;> rfl
theorem right_first (a l : List (Int × Int)) (i : Nat) : (!decide (0 ≤ firstI (geE (cx a i) (cy a i) (cx a (nx a.length i)) (cy a (nx a.length i)) l) l.length)) = rightB a l i := by
  rcases firstI_cases (geE (cx a i) (cy a i) (cx a (nx a.length i)) (cy a (nx a.length i)) l) l.length with ⟨e, h⟩ | ⟨k, hk, e, h, _⟩
  · rw [e, rightB_iff.2]
    · rfl
    · intro y hy
      obtain ⟨j, hj, rfl⟩ := mem_gp hy
      have := h j hj
      unfold geE geB at this
      rw [ori_nng, decide_eq_false_iff_not] at this
      exact Int.not_le.1 this
  · rw [e, decide_eq_true (by omega)]
    refine (b_no fun g => ?_).symm
    have := rightB_iff.1 g _ (gp_mem hk)
    unfold geE geB at h
    rw [ori_nng, decide_eq_true_eq] at h
    have h : 0 ≤ dt (gp a i) (gp a (nx a.length i)) (gp l k) := h
    omega
end Go.Proofs.YtalhkcmlacppjaaDoor
