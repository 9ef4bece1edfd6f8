/- For every valid arm, narrowing the joint limits removes exactly the solutions that violate the new limits.
Conditions: none on the arguments; the table of rotations lies as the program's text lays it (the card's tie). -/
import Derived.Test.YtceejjamngplkaaDoorIkR
import Derived.Test.YtceejjamngplkaaDoorIkW
import Derived.Test.YtceejjamngplkaaDoorIkT
import Derived.Test.YtceejjamngplkaaDoorAmO
import Derived.Test.YtceejjamngplkaaDoorAmF
import Derived.Test.YtceejjamngplkaaDoorIkU
import Derived.Test.YtceejjamngplkaaDoorBase
import Derived.Test.YtceejjamngplkaaDoorTie
import Derived.Test.YtceejjamngplkaaDoorCards
import Derived.SevenTiedAt
namespace Go.Proofs.YtceejjamngplkaaDoor.invkinNarrowLimits
open Go.ChangeShapes Go.WideShapes Go.ChangeAt Go.RowKit
set_option linter.unusedVariables false
set_option linter.unusedSimpArgs false
set_option maxRecDepth 100000

def fL (m0 m1 m2 p0 p1 p2 : Int) (q : J3) : Bool := fitB m0 m1 m2 p0 p1 p2 q.1 q.2.1 q.2.2
theorem fL_iff (m0 m1 m2 p0 p1 p2 : Int) (q : J3) : fL m0 m1 m2 p0 p1 p2 q = true ↔ In3 m0 m1 m2 p0 p1 p2 q := by
  obtain ⟨x, y, z⟩ := q
  exact decide_eq_true_iff
theorem take_one {L : List J3} {j : Nat} (hj : j < L.length) : L.take (j + 1) = L.take j ++ [L.getD j j0] := by
  rw [List.take_add_one, List.getD_eq_getElem?_getD, List.getElem?_eq_getElem hj]
  rfl
theorem own_snoc {w : World} {base : Nat} {v : Value} {LL L' : List J3} {x y z : Int} (EQ : Hid (L' = LL ++ [(x, y, z)])) (h : w.ownsRow base 25 3 v (LL.length + 1) (flat3 LL ++ [.int .i64 x, .int .i64 y, .int .i64 z])) : w.ownsRow base 25 3 v L'.length (flat3 L') := by
  rw [EQ.out, List.length_append, flat3_append]
  exact h
theorem filt_yes {L : List J3} {f : J3 → Bool} {j : Nat} (hj : j < L.length) (h : f (L.getD j j0) = true) : (L.take (j + 1)).filter f = (L.take j).filter f ++ [L.getD j j0] := by
  rw [take_one hj, List.filter_append, show [L.getD j j0].filter f = [L.getD j j0] by rw [List.filter_cons, if_pos h, List.filter_nil]]
theorem filt_no {L : List J3} {f : J3 → Bool} {j : Nat} (hj : j < L.length) (h : f (L.getD j j0) = false) : (L.take (j + 1)).filter f = (L.take j).filter f := by
  rw [take_one hj, List.filter_append, show [L.getD j j0].filter f = [] by rw [List.filter_cons, if_neg (by rw [h]; decide), List.filter_nil], List.append_nil]
theorem rowK {W W' : World} {base : Nat} {e : TypeId} {n k : Nat} {v : Value} {xs : List Value} (h : W.ownsRow base e n v k xs) (hb : Below W.heap.size W W') : W'.ownsRow base e n v k xs := h.kept (grownB hb) (by cases v.ownBlock <;> simp)
theorem row_base {w : World} {base : Nat} {e : TypeId} {n k : Nat} {v : Value} {xs : List Value} (h : w.ownsRow base e n v k xs) : ∀ g, v.ownBlock = some g → base ≤ g := fun g e' => by
  rcases h.2 with ⟨rfl, _⟩ | ⟨g', cap, cur, rfl, hb, _⟩
  · simp [Value.ownBlock] at e'
  · obtain rfl : g' = g := by simpa [Value.ownBlock] using e'
    exact hb
set_option maxHeartbeats 16000000 in
theorem walk (X Y n0 n1 n2 W l0 l1 l2 h0 h1 h2 : Int) (r0 r1 r2 : Int) (hr0 : 0 ≤ r0 ∧ r0 ≤ 255) (hr1 : 0 ≤ r1 ∧ r1 ≤ 255) (hr2 : 0 ≤ r2 ∧ r2 ≤ 255) (s0 s1 s2 : Int) (hs0 : 0 ≤ s0 ∧ s0 ≤ 255) (hs1 : 0 ≤ s1 ∧ s1 ≤ 255) (hs2 : 0 ≤ s2 ∧ s2 ≤ 255) (t0 t1 t2 : Int) (ht0 : 0 ≤ t0 ∧ t0 ≤ 255) (ht1 : 0 ≤ t1 ∧ t1 ≤ 255) (ht2 : 0 ≤ t2 ∧ t2 ≤ 255) (w : World) (hT : Tab w) :
    Calls Tryd.prog 8 #[.agg #[.int .i64 X, .int .i64 Y, .int .i64 n0, .int .i64 n1, .int .i64 n2, .int .i64 W, .int .i64 l0, .int .i64 l1, .int .i64 l2, .int .i64 h0, .int .i64 h1, .int .i64 h2], .agg #[.int .u8 r0, .int .u8 r1, .int .u8 r2], .agg #[.int .u8 s0, .int .u8 s1, .int .u8 s2], .agg #[.int .u8 t0, .int .u8 t1, .int .u8 t2]] w fun e w' => e = .returned (.bool true) ∧ Below w.heap.size w w' := by
  go_enter Tryd.func8, Tryd.ntmps8
  go_upto_region 1 with fail
  obtain ⟨W0, hW0⟩ : ∃ z, ((((w.alloc (.cells #[.int .i64 X, .int .i64 Y, .int .i64 n0, .int .i64 n1, .int .i64 n2, .int .i64 W, .int .i64 l0, .int .i64 l1, .int .i64 l2, .int .i64 h0, .int .i64 h1, .int .i64 h2] 27)).alloc (.cells #[.int .u8 r0, .int .u8 r1, .int .u8 r2] 30)).alloc (.cells #[.int .u8 s0, .int .u8 s1, .int .u8 s2] 30)).alloc (.cells #[.int .u8 t0, .int .u8 t1, .int .u8 t2] 30)) = z := ⟨_, rfl⟩
  have HA : Hid (W0.heap[w.heap.size]? = some (.cells #[.int .i64 X, .int .i64 Y, .int .i64 n0, .int .i64 n1, .int .i64 n2, .int .i64 W, .int .i64 l0, .int .i64 l1, .int .i64 l2, .int .i64 h0, .int .i64 h1, .int .i64 h2] 27 (0, 0))) := Lib.hid (by rw [← hW0]; exact blk_alloc (blk_alloc (blk_alloc (blk_new _ _ _ rfl) _) _) _)
  have HR : Hid (W0.heap[w.heap.size + 1]? = some (.cells #[.int .u8 r0, .int .u8 r1, .int .u8 r2] 30 (0, 0))) := Lib.hid (by rw [← hW0]; exact blk_alloc (blk_alloc (blk_new _ _ _ (by simp)) _) _)
  have HS : Hid (W0.heap[w.heap.size + 1 + 1]? = some (.cells #[.int .u8 s0, .int .u8 s1, .int .u8 s2] 30 (0, 0))) := Lib.hid (by rw [← hW0]; exact blk_alloc (blk_new _ _ _ (by simp)) _)
  have HU : Hid (W0.heap[w.heap.size + 1 + 1 + 1]? = some (.cells #[.int .u8 t0, .int .u8 t1, .int .u8 t2] 30 (0, 0))) := Lib.hid (by rw [← hW0]; exact blk_new _ _ _ (by simp))
  have B : Hid (Below w.heap.size w W0) := Lib.hid (by rw [← hW0]; go_grown)
  have TT := Lib.hid hT
  rw [hW0]
  clear hW0 hT
  obtain ⟨ba, eba⟩ : ∃ a, w.heap.size = a := ⟨_, rfl⟩
  obtain ⟨br, ebr⟩ : ∃ a, w.heap.size + 1 = a := ⟨_, rfl⟩
  obtain ⟨bs, ebs⟩ : ∃ a, w.heap.size + 1 + 1 = a := ⟨_, rfl⟩
  obtain ⟨bu, ebu⟩ : ∃ a, w.heap.size + 1 + 1 + 1 = a := ⟨_, rfl⟩
  have NE := Lib.hid (show w.heap.size ≤ ba ∧ w.heap.size ≤ br ∧ w.heap.size ≤ bs ∧ w.heap.size ≤ bu ∧ ba ≠ br ∧ ba ≠ bs ∧ ba ≠ bu ∧ br ≠ ba ∧ br ≠ bs ∧ br ≠ bu ∧ bs ≠ ba ∧ bs ≠ br ∧ bs ≠ bu ∧ bu ≠ ba ∧ bu ≠ br ∧ bu ≠ bs by omega)
  rw [ebu, ebs, ebr, eba]
  rw [eba] at HA
  rw [ebr] at HR
  rw [ebs] at HS
  rw [ebu] at HU
  clear eba ebr ebs ebu
  go_upto_region 2 with (go_at_call 10; refine (head8_is _ (Tab.below TT.out B.out)).mono ?_; rintro e W1 ⟨rfl, hb⟩)
  replace HA := Lib.hid (blk_call HA.out hb)
  replace HR := Lib.hid (blk_call HR.out hb)
  replace HS := Lib.hid (blk_call HS.out hb)
  replace HU := Lib.hid (blk_call HU.out hb)
  replace B := Lib.hid (belT B.out hb)
  clear hb
  obtain ⟨t, ht⟩ : ∃ t, armB X Y n0 n1 n2 W l0 l1 l2 h0 h1 h2 = t := ⟨_, rfl⟩
  have HT := Lib.hid ht
  clear ht
  have c0 := blk_cell HA.out 0 _ rfl
  have c1 := blk_cell HA.out 1 _ rfl
  have c2 := blk_cell HA.out 2 _ rfl
  have c3 := blk_cell HA.out 3 _ rfl
  have c4 := blk_cell HA.out 4 _ rfl
  have c5 := blk_cell HA.out 5 _ rfl
  have c6 := blk_cell HA.out 6 _ rfl
  have c7 := blk_cell HA.out 7 _ rfl
  have c8 := blk_cell HA.out 8 _ rfl
  have c9 := blk_cell HA.out 9 _ rfl
  have c10 := blk_cell HA.out 10 _ rfl
  have c11 := blk_cell HA.out 11 _ rfl
  go_upto_region 3 with (go_at_call 11; refine (right7_is X Y n0 n1 n2 W l0 l1 l2 h0 h1 h2 t _ HT).mono ?_; rintro e W3 ⟨rfl, hb⟩)
  clear c0 c1 c2 c3 c4 c5 c6 c7 c8 c9 c10 c11
  replace HA := Lib.hid (blk_call HA.out hb)
  replace HR := Lib.hid (blk_call HR.out hb)
  replace HS := Lib.hid (blk_call HS.out hb)
  replace HU := Lib.hid (blk_call HU.out hb)
  replace B := Lib.hid (belT B.out hb)
  clear hb
  cases t
  · go_wp2_with fail
    go_ret
    exact ⟨rfl, B.out⟩
  have V := HT
  have VR := Lib.hid ((armB_iff X Y n0 n1 n2 W l0 l1 l2 h0 h1 h2).1 V.out)
  have c0 := blk_cell HA.out 0 _ rfl
  have c1 := blk_cell HA.out 1 _ rfl
  have c2 := blk_cell HA.out 2 _ rfl
  have c3 := blk_cell HA.out 3 _ rfl
  have c4 := blk_cell HA.out 4 _ rfl
  have c5 := blk_cell HA.out 5 _ rfl
  have c6 := blk_cell HA.out 6 _ rfl
  have c7 := blk_cell HA.out 7 _ rfl
  have c8 := blk_cell HA.out 8 _ rfl
  have c9 := blk_cell HA.out 9 _ rfl
  have c10 := blk_cell HA.out 10 _ rfl
  have c11 := blk_cell HA.out 11 _ rfl
  have la := blk_lt HA.out
  go_upto_region 6 with fail
  clear c0 c1 c2 c3 c4 c5 c6 c7 c8 c9 c10 c11
  clear la
  have lHAbb := Lib.hid (Nat.ne_of_lt (blk_lt HA.out))
  have lHRbb := Lib.hid (Nat.ne_of_lt (blk_lt HR.out))
  have lHSbb := Lib.hid (Nat.ne_of_lt (blk_lt HS.out))
  have lHUbb := Lib.hid (Nat.ne_of_lt (blk_lt HU.out))
  replace HA := Lib.hid (blk_alloc HA.out (.cells #[.int .i64 X, .int .i64 Y, .int .i64 n0, .int .i64 n1, .int .i64 n2, .int .i64 W, .int .i64 l0, .int .i64 l1, .int .i64 l2, .int .i64 h0, .int .i64 h1, .int .i64 h2] 27))
  replace HR := Lib.hid (blk_alloc HR.out (.cells #[.int .i64 X, .int .i64 Y, .int .i64 n0, .int .i64 n1, .int .i64 n2, .int .i64 W, .int .i64 l0, .int .i64 l1, .int .i64 l2, .int .i64 h0, .int .i64 h1, .int .i64 h2] 27))
  replace HS := Lib.hid (blk_alloc HS.out (.cells #[.int .i64 X, .int .i64 Y, .int .i64 n0, .int .i64 n1, .int .i64 n2, .int .i64 W, .int .i64 l0, .int .i64 l1, .int .i64 l2, .int .i64 h0, .int .i64 h1, .int .i64 h2] 27))
  replace HU := Lib.hid (blk_alloc HU.out (.cells #[.int .i64 X, .int .i64 Y, .int .i64 n0, .int .i64 n1, .int .i64 n2, .int .i64 W, .int .i64 l0, .int .i64 l1, .int .i64 l2, .int .i64 h0, .int .i64 h1, .int .i64 h2] 27))
  have HB := Lib.hid (blk_new W3 (.cells #[.int .i64 X, .int .i64 Y, .int .i64 n0, .int .i64 n1, .int .i64 n2, .int .i64 W, .int .i64 l0, .int .i64 l1, .int .i64 l2, .int .i64 h0, .int .i64 h1, .int .i64 h2] 27) _ rfl)
  have Nbb := Lib.hid (B.out.size)
  replace B := Lib.hid (belA B.out (.cells #[.int .i64 X, .int .i64 Y, .int .i64 n0, .int .i64 n1, .int .i64 n2, .int .i64 W, .int .i64 l0, .int .i64 l1, .int .i64 l2, .int .i64 h0, .int .i64 h1, .int .i64 h2] 27))
  obtain ⟨bb, ebb⟩ : ∃ x, W3.heap.size = x := ⟨_, rfl⟩
  rw [ebb] at HB Nbb lHAbb lHRbb lHSbb lHUbb ⊢
  clear ebb
  generalize W3.alloc (.cells #[.int .i64 X, .int .i64 Y, .int .i64 n0, .int .i64 n1, .int .i64 n2, .int .i64 W, .int .i64 l0, .int .i64 l1, .int .i64 l2, .int .i64 h0, .int .i64 h1, .int .i64 h2] 27) = W4 at *
  have A0 := Lib.hid (jq_bd (l := l0) (h := h0) (by have := VR.out; omega) hs0.1)
  obtain ⟨m0, hm0⟩ : ∃ q, jq l0 h0 s0 = q := ⟨_, rfl⟩
  have em0 : l0 + s0 % (h0 - l0 + 1) = m0 := by rw [← Int.tmod_eq_emod_of_nonneg hs0.1]; exact hm0
  rw [hm0] at A0
  have C0 := Lib.hid (jq_bd (l := m0) (h := h0) (by have := A0.out; omega) ht0.1)
  obtain ⟨p0, hp0⟩ : ∃ q, jq m0 h0 t0 = q := ⟨_, rfl⟩
  have ep0 : m0 + t0 % (h0 - m0 + 1) = p0 := by rw [← Int.tmod_eq_emod_of_nonneg ht0.1]; exact hp0
  rw [hp0] at C0
  clear hm0 hp0
  have EM0 := Lib.hid em0
  have EP0 := Lib.hid ep0
  clear em0 ep0
  have A1 := Lib.hid (jq_bd (l := l1) (h := h1) (by have := VR.out; omega) hs1.1)
  obtain ⟨m1, hm1⟩ : ∃ q, jq l1 h1 s1 = q := ⟨_, rfl⟩
  have em1 : l1 + s1 % (h1 - l1 + 1) = m1 := by rw [← Int.tmod_eq_emod_of_nonneg hs1.1]; exact hm1
  rw [hm1] at A1
  have C1 := Lib.hid (jq_bd (l := m1) (h := h1) (by have := A1.out; omega) ht1.1)
  obtain ⟨p1, hp1⟩ : ∃ q, jq m1 h1 t1 = q := ⟨_, rfl⟩
  have ep1 : m1 + t1 % (h1 - m1 + 1) = p1 := by rw [← Int.tmod_eq_emod_of_nonneg ht1.1]; exact hp1
  rw [hp1] at C1
  clear hm1 hp1
  have EM1 := Lib.hid em1
  have EP1 := Lib.hid ep1
  clear em1 ep1
  have A2 := Lib.hid (jq_bd (l := l2) (h := h2) (by have := VR.out; omega) hs2.1)
  obtain ⟨m2, hm2⟩ : ∃ q, jq l2 h2 s2 = q := ⟨_, rfl⟩
  have em2 : l2 + s2 % (h2 - l2 + 1) = m2 := by rw [← Int.tmod_eq_emod_of_nonneg hs2.1]; exact hm2
  rw [hm2] at A2
  have C2 := Lib.hid (jq_bd (l := m2) (h := h2) (by have := A2.out; omega) ht2.1)
  obtain ⟨p2, hp2⟩ : ∃ q, jq m2 h2 t2 = q := ⟨_, rfl⟩
  have ep2 : m2 + t2 % (h2 - m2 + 1) = p2 := by rw [← Int.tmod_eq_emod_of_nonneg ht2.1]; exact hp2
  rw [hp2] at C2
  clear hm2 hp2
  have EM2 := Lib.hid em2
  have EP2 := Lib.hid ep2
  clear em2 ep2
  go_wp2_with fail
  refine wp_loop_rounds 4 ?_
  have nbb := Nbb.out
  rw [rounds_succ]
  have vb : -17 ≤ l0 ∧ l0 ≤ h0 ∧ h0 ≤ 18 := by have := VR.out; omega
  have ab : l0 ≤ m0 ∧ m0 ≤ h0 := A0.out.2
  have cb : m0 ≤ p0 ∧ p0 ≤ h0 := C0.out.2
  have sb := hs0
  have tb := ht0
  have at1 := A0.out.1
  have ct1 := C0.out.1
  have nz1 : h0 - l0 + 1 ≠ 0 := by omega
  have nz2 : h0 - m0 + 1 ≠ 0 := by omega
  go_upto_region 9 with fail
  have ca := blk_cell HA.out 6 _ rfl
  have ch := blk_cell HA.out 9 _ rfl
  have cs := blk_cell HS.out 0 _ rfl
  have E9 := EM0
  obtain ⟨sp, hsp⟩ : ∃ sp : ToldS, sp = [none, none, none, none, none, none, none, none, none, none, none, none, none, none, none, none, none, none, none, none, none, none, none, none, none, none, none, none, none, none, none, some (eqS (.int .i64 0)), some (eqS (.int .i64 0)), some (eqS (.pointer (some ⟨ba, 6, none⟩))), some (eqS (.pointer (some ⟨ba, 6, none⟩))), some (eqS (.int .i64 l0)), some (eqS (.int .i64 0)), some (eqS (.pointer (some ⟨bs, 0, none⟩))), some (eqS (.int .u8 s0)), some (eqS (.int .i64 s0)), some (eqS (.int .i64 0)), some (eqS (.pointer (some ⟨ba, 9, none⟩))), some (eqS (.pointer (some ⟨ba, 9, none⟩))), some (eqS (.int .i64 h0)), some (eqS (.int .i64 0)), some (eqS (.pointer (some ⟨ba, 6, none⟩))), some (eqS (.pointer (some ⟨ba, 6, none⟩))), some (eqS (.int .i64 l0)), some (eqS (.int .i64 (h0 - l0))), some (eqS (.int .i64 (h0 - l0 + 1))), some (eqS (.int .i64 (s0.tmod (h0 - l0 + 1)))), some (eqS (.int .i64 m0)), some (eqS (.pointer (some ⟨bb, 6, none⟩))), some (eqS (.pointer (some ⟨bb, 6, none⟩)))] := ⟨_, rfl⟩
  have s31 : sp.getD 31 none = some (eqS (.int .i64 0)) := by rw [hsp]; rfl
  have s32 : sp.getD 32 none = some (eqS (.int .i64 0)) := by rw [hsp]; rfl
  have s33 : sp.getD 33 none = some (eqS (.pointer (some ⟨ba, 6, none⟩))) := by rw [hsp]; rfl
  have s34 : sp.getD 34 none = some (eqS (.pointer (some ⟨ba, 6, none⟩))) := by rw [hsp]; rfl
  have s35 : sp.getD 35 none = some (eqS (.int .i64 l0)) := by rw [hsp]; rfl
  have s36 : sp.getD 36 none = some (eqS (.int .i64 0)) := by rw [hsp]; rfl
  have s37 : sp.getD 37 none = some (eqS (.pointer (some ⟨bs, 0, none⟩))) := by rw [hsp]; rfl
  have s38 : sp.getD 38 none = some (eqS (.int .u8 s0)) := by rw [hsp]; rfl
  have s39 : sp.getD 39 none = some (eqS (.int .i64 s0)) := by rw [hsp]; rfl
  have s40 : sp.getD 40 none = some (eqS (.int .i64 0)) := by rw [hsp]; rfl
  have s41 : sp.getD 41 none = some (eqS (.pointer (some ⟨ba, 9, none⟩))) := by rw [hsp]; rfl
  have s42 : sp.getD 42 none = some (eqS (.pointer (some ⟨ba, 9, none⟩))) := by rw [hsp]; rfl
  have s43 : sp.getD 43 none = some (eqS (.int .i64 h0)) := by rw [hsp]; rfl
  have s44 : sp.getD 44 none = some (eqS (.int .i64 0)) := by rw [hsp]; rfl
  have s45 : sp.getD 45 none = some (eqS (.pointer (some ⟨ba, 6, none⟩))) := by rw [hsp]; rfl
  have s46 : sp.getD 46 none = some (eqS (.pointer (some ⟨ba, 6, none⟩))) := by rw [hsp]; rfl
  have s47 : sp.getD 47 none = some (eqS (.int .i64 l0)) := by rw [hsp]; rfl
  have s48 : sp.getD 48 none = some (eqS (.int .i64 (h0 - l0))) := by rw [hsp]; rfl
  have s49 : sp.getD 49 none = some (eqS (.int .i64 (h0 - l0 + 1))) := by rw [hsp]; rfl
  have s50 : sp.getD 50 none = some (eqS (.int .i64 (s0.tmod (h0 - l0 + 1)))) := by rw [hsp]; rfl
  have s51 : sp.getD 51 none = some (eqS (.int .i64 m0)) := by rw [hsp]; rfl
  have s52 : sp.getD 52 none = some (eqS (.pointer (some ⟨bb, 6, none⟩))) := by rw [hsp]; rfl
  have s53 : sp.getD 53 none = some (eqS (.pointer (some ⟨bb, 6, none⟩))) := by rw [hsp]; rfl
  clear hsp
  refine (wpIn_wide (n := 0)).1 (region_headR (RtS sp) (rtS_keep sp) 23 rfl rfl rfl (by kernel_rfl) (by decide) (by kernel_rfl) (by kernel_rfl) (by kernel_rfl) ?_ ?_)
  · intro Q'; show ObsR _ _ _ _ _ _ _ _ (List.take _ _); simp only [List.take_succ_cons, List.take_zero]
    refine obsR_cons ?_ ?_
    · intro T wx K hB hF hD hK
      have g12 : T[12]? = some (.int .i64 0) := hF 12 (freeM_of (by kernel_rfl))
      refine ob_yes (wanted_none rfl) ?_
      clear hF hD
      go_simp
      exact hK _ _ (Below.refl _ _) (rt_eqS s31)
    refine obsR_cons ?_ ?_
    · intro T wx K hB hF hD hK
      have g12 : T[12]? = some (.int .i64 0) := hF 12 (freeM_of (by kernel_rfl))
      refine ob_yes (wanted_none rfl) ?_
      clear hF hD
      go_simp
      exact hK _ _ (Below.refl _ _) (rt_eqS s32)
    refine obsR_cons ?_ ?_
    · intro T wx K hB hF hD hK
      have g4 : T[4]? = some (.pointer (some ⟨ba, 0, none⟩)) := hF 4 (freeM_of (by kernel_rfl))
      refine ob_yes (wanted_none rfl) ?_
      clear hF hD
      go_simp
      exact hK _ _ (Below.refl _ _) (rt_eqS s33)
    refine obsR_cons ?_ ?_
    · intro T wx K hB hF hD hK
      have g33 := get_eqS (hD 2 33 (by simp [Region.binds]) (by kernel_rfl)) s33
      have g32 := get_eqS (hD 1 32 (by simp [Region.binds]) (by kernel_rfl)) s32
      refine ob_yes (wanted_none rfl) ?_
      clear hF hD
      go_simp
      exact hK _ _ (Below.refl _ _) (rt_eqS s34)
    refine obsR_cons ?_ ?_
    · intro T wx K hB hF hD hK
      have g34 := get_eqS (hD 3 34 (by simp [Region.binds]) (by kernel_rfl)) s34
      refine ob_yes (wanted_none rfl) ?_
      clear hF hD
      have j9 := (hB.cell (World.block_lt_of_cell? _ _ ca)).trans ca
      go_simp
      exact hK _ _ (Below.refl _ _) (rt_eqS s35)
    refine obsR_cons ?_ ?_
    · intro T wx K hB hF hD hK
      have g12 : T[12]? = some (.int .i64 0) := hF 12 (freeM_of (by kernel_rfl))
      refine ob_yes (wanted_none rfl) ?_
      clear hF hD
      go_simp
      exact hK _ _ (Below.refl _ _) (rt_eqS s36)
    refine obsR_cons ?_ ?_
    · intro T wx K hB hF hD hK
      have g6 : T[6]? = some (.pointer (some ⟨bs, 0, none⟩)) := hF 6 (freeM_of (by kernel_rfl))
      have g36 := get_eqS (hD 5 36 (by simp [Region.binds]) (by kernel_rfl)) s36
      refine ob_yes (wanted_none rfl) ?_
      clear hF hD
      go_simp
      exact hK _ _ (Below.refl _ _) (rt_eqS s37)
    refine obsR_cons ?_ ?_
    · intro T wx K hB hF hD hK
      have g37 := get_eqS (hD 6 37 (by simp [Region.binds]) (by kernel_rfl)) s37
      refine ob_yes (wanted_none rfl) ?_
      clear hF hD
      have j9 := (hB.cell (World.block_lt_of_cell? _ _ cs)).trans cs
      go_simp
      exact hK _ _ (Below.refl _ _) (rt_eqS s38)
    refine obsR_cons ?_ ?_
    · intro T wx K hB hF hD hK
      have g38 := get_eqS (hD 7 38 (by simp [Region.binds]) (by kernel_rfl)) s38
      refine ob_yes (wanted_none rfl) ?_
      clear hF hD
      go_simp
      first | exact hK _ _ (Below.refl _ _) (rt_eqS s39) | exact hK _ _ (Below.refl _ _) (rt_eqS' s39 (congrArg (Value.int .i64) (wrap_k _ (by omega))))
    refine obsR_cons ?_ ?_
    · intro T wx K hB hF hD hK
      have g12 : T[12]? = some (.int .i64 0) := hF 12 (freeM_of (by kernel_rfl))
      refine ob_yes (wanted_none rfl) ?_
      clear hF hD
      go_simp
      exact hK _ _ (Below.refl _ _) (rt_eqS s40)
    refine obsR_cons ?_ ?_
    · intro T wx K hB hF hD hK
      have g4 : T[4]? = some (.pointer (some ⟨ba, 0, none⟩)) := hF 4 (freeM_of (by kernel_rfl))
      refine ob_yes (wanted_none rfl) ?_
      clear hF hD
      go_simp
      exact hK _ _ (Below.refl _ _) (rt_eqS s41)
    refine obsR_cons ?_ ?_
    · intro T wx K hB hF hD hK
      have g41 := get_eqS (hD 10 41 (by simp [Region.binds]) (by kernel_rfl)) s41
      have g40 := get_eqS (hD 9 40 (by simp [Region.binds]) (by kernel_rfl)) s40
      refine ob_yes (wanted_none rfl) ?_
      clear hF hD
      go_simp
      exact hK _ _ (Below.refl _ _) (rt_eqS s42)
    refine obsR_cons ?_ ?_
    · intro T wx K hB hF hD hK
      have g42 := get_eqS (hD 11 42 (by simp [Region.binds]) (by kernel_rfl)) s42
      refine ob_yes (wanted_none rfl) ?_
      clear hF hD
      have j9 := (hB.cell (World.block_lt_of_cell? _ _ ch)).trans ch
      go_simp
      exact hK _ _ (Below.refl _ _) (rt_eqS s43)
    refine obsR_cons ?_ ?_
    · intro T wx K hB hF hD hK
      have g12 : T[12]? = some (.int .i64 0) := hF 12 (freeM_of (by kernel_rfl))
      refine ob_yes (wanted_none rfl) ?_
      clear hF hD
      go_simp
      exact hK _ _ (Below.refl _ _) (rt_eqS s44)
    refine obsR_cons ?_ ?_
    · intro T wx K hB hF hD hK
      have g4 : T[4]? = some (.pointer (some ⟨ba, 0, none⟩)) := hF 4 (freeM_of (by kernel_rfl))
      refine ob_yes (wanted_none rfl) ?_
      clear hF hD
      go_simp
      exact hK _ _ (Below.refl _ _) (rt_eqS s45)
    refine obsR_cons ?_ ?_
    · intro T wx K hB hF hD hK
      have g45 := get_eqS (hD 14 45 (by simp [Region.binds]) (by kernel_rfl)) s45
      have g44 := get_eqS (hD 13 44 (by simp [Region.binds]) (by kernel_rfl)) s44
      refine ob_yes (wanted_none rfl) ?_
      clear hF hD
      go_simp
      exact hK _ _ (Below.refl _ _) (rt_eqS s46)
    refine obsR_cons ?_ ?_
    · intro T wx K hB hF hD hK
      have g46 := get_eqS (hD 15 46 (by simp [Region.binds]) (by kernel_rfl)) s46
      refine ob_yes (wanted_none rfl) ?_
      clear hF hD
      have j9 := (hB.cell (World.block_lt_of_cell? _ _ ca)).trans ca
      go_simp
      exact hK _ _ (Below.refl _ _) (rt_eqS s47)
    refine obsR_cons ?_ ?_
    · intro T wx K hB hF hD hK
      have g43 := get_eqS (hD 12 43 (by simp [Region.binds]) (by kernel_rfl)) s43
      have g47 := get_eqS (hD 16 47 (by simp [Region.binds]) (by kernel_rfl)) s47
      refine ob_yes (wanted_none rfl) ?_
      clear hF hD
      go_simp
      first | exact hK _ _ (Below.refl _ _) (rt_eqS s48) | exact hK _ _ (Below.refl _ _) (rt_eqS' s48 (congrArg (Value.int .i64) (wrap_k _ (by omega))))
    refine obsR_cons ?_ ?_
    · intro T wx K hB hF hD hK
      have g48 := get_eqS (hD 17 48 (by simp [Region.binds]) (by kernel_rfl)) s48
      refine ob_yes (wanted_none rfl) ?_
      clear hF hD
      go_simp
      first | exact hK _ _ (Below.refl _ _) (rt_eqS s49) | exact hK _ _ (Below.refl _ _) (rt_eqS' s49 (congrArg (Value.int .i64) (wrap_k _ (by omega))))
    refine obsR_cons ?_ ?_
    · intro T wx K hB hF hD hK
      have g39 := get_eqS (hD 8 39 (by simp [Region.binds]) (by kernel_rfl)) s39
      have g49 := get_eqS (hD 18 49 (by simp [Region.binds]) (by kernel_rfl)) s49
      refine ob_yes (wanted_none rfl) ?_
      clear hF hD
      go_simp
      first | exact hK _ _ (Below.refl _ _) (rt_eqS s50) | exact hK _ _ (Below.refl _ _) (rt_eqS' s50 (congrArg (Value.int .i64) (by simp; omega)))
    refine obsR_cons ?_ ?_
    · intro T wx K hB hF hD hK
      have g35 := get_eqS (hD 4 35 (by simp [Region.binds]) (by kernel_rfl)) s35
      have g50 := get_eqS (hD 19 50 (by simp [Region.binds]) (by kernel_rfl)) s50
      refine ob_yes (wanted_none rfl) ?_
      clear hF hD
      have e9 := (Int.tmod_eq_emod_of_nonneg (b := h0 - l0 + 1) (show 0 ≤ s0 by omega))
      go_simp
      first | exact hK _ _ (Below.refl _ _) (rt_eqS s51) | exact hK _ _ (Below.refl _ _) (rt_eqS' s51 (congrArg (Value.int .i64) ((wrap_k _ (by rw [E9.out]; omega)).trans E9.out)))
    refine obsR_cons ?_ ?_
    · intro T wx K hB hF hD hK
      have g11 : T[11]? = some (.pointer (some ⟨bb, 0, none⟩)) := hF 11 (freeM_of (by kernel_rfl))
      refine ob_yes (wanted_none rfl) ?_
      clear hF hD
      go_simp
      exact hK _ _ (Below.refl _ _) (rt_eqS s52)
    refine obsR_cons ?_ ?_
    · intro T wx K hB hF hD hK
      have g52 := get_eqS (hD 21 52 (by simp [Region.binds]) (by kernel_rfl)) s52
      have g31 := get_eqS (hD 0 31 (by simp [Region.binds]) (by kernel_rfl)) s31
      refine ob_yes (wanted_none rfl) ?_
      clear hF hD
      go_simp
      exact hK _ _ (Below.refl _ _) (rt_eqS s53)
    exact obsR_nil
  · intro T9 w8 hb8 hF hs hD
    have g31 := get_eqS (hD 0 31 (by decide) (by kernel_rfl)) s31
    have g32 := get_eqS (hD 1 32 (by decide) (by kernel_rfl)) s32
    have g33 := get_eqS (hD 2 33 (by decide) (by kernel_rfl)) s33
    have g34 := get_eqS (hD 3 34 (by decide) (by kernel_rfl)) s34
    have g35 := get_eqS (hD 4 35 (by decide) (by kernel_rfl)) s35
    have g36 := get_eqS (hD 5 36 (by decide) (by kernel_rfl)) s36
    have g37 := get_eqS (hD 6 37 (by decide) (by kernel_rfl)) s37
    have g38 := get_eqS (hD 7 38 (by decide) (by kernel_rfl)) s38
    have g39 := get_eqS (hD 8 39 (by decide) (by kernel_rfl)) s39
    have g40 := get_eqS (hD 9 40 (by decide) (by kernel_rfl)) s40
    have g41 := get_eqS (hD 10 41 (by decide) (by kernel_rfl)) s41
    have g42 := get_eqS (hD 11 42 (by decide) (by kernel_rfl)) s42
    have g43 := get_eqS (hD 12 43 (by decide) (by kernel_rfl)) s43
    have g44 := get_eqS (hD 13 44 (by decide) (by kernel_rfl)) s44
    have g45 := get_eqS (hD 14 45 (by decide) (by kernel_rfl)) s45
    have g46 := get_eqS (hD 15 46 (by decide) (by kernel_rfl)) s46
    have g47 := get_eqS (hD 16 47 (by decide) (by kernel_rfl)) s47
    have g48 := get_eqS (hD 17 48 (by decide) (by kernel_rfl)) s48
    have g49 := get_eqS (hD 18 49 (by decide) (by kernel_rfl)) s49
    have g50 := get_eqS (hD 19 50 (by decide) (by kernel_rfl)) s50
    have g51 := get_eqS (hD 20 51 (by decide) (by kernel_rfl)) s51
    have g52 := get_eqS (hD 21 52 (by decide) (by kernel_rfl)) s52
    have g53 := get_eqS (hD 22 53 (by decide) (by kernel_rfl)) s53
    have hT9 := conc [(31, .int .i64 0), (32, .int .i64 0), (33, .pointer (some ⟨ba, 6, none⟩)), (34, .pointer (some ⟨ba, 6, none⟩)), (35, .int .i64 l0), (36, .int .i64 0), (37, .pointer (some ⟨bs, 0, none⟩)), (38, .int .u8 s0), (39, .int .i64 s0), (40, .int .i64 0), (41, .pointer (some ⟨ba, 9, none⟩)), (42, .pointer (some ⟨ba, 9, none⟩)), (43, .int .i64 h0), (44, .int .i64 0), (45, .pointer (some ⟨ba, 6, none⟩)), (46, .pointer (some ⟨ba, 6, none⟩)), (47, .int .i64 l0), (48, .int .i64 (h0 - l0)), (49, .int .i64 (h0 - l0 + 1)), (50, .int .i64 (s0.tmod (h0 - l0 + 1))), (51, .int .i64 m0), (52, .pointer (some ⟨bb, 6, none⟩)), (53, .pointer (some ⟨bb, 6, none⟩))] hs hF (by simp only [List.forall_mem_cons]; exact ⟨g31, g32, g33, g34, g35, g36, g37, g38, g39, g40, g41, g42, g43, g44, g45, g46, g47, g48, g49, g50, g51, g52, g53, fun p hp => absurd hp List.not_mem_nil⟩) (by kernel_rfl)
    simp only [List.foldl, List.setIfInBounds_toArray, List.set_cons_succ, List.set_cons_zero] at hT9
    subst hT9
    clear hF hD hs g31 g32 g33 g34 g35 g36 g37 g38 g39 g40 g41 g42 g43 g44 g45 g46 g47 g48 g49 g50 g51 g52 g53 s31 s32 s33 s34 s35 s36 s37 s38 s39 s40 s41 s42 s43 s44 s45 s46 s47 s48 s49 s50 s51 s52 s53
    show wpOpsIn _ _ _ _ _ [23] _ _
    clear ca ch cs E9 vb ab cb sb tb at1 ct1 nz1 nz2
    replace HA := Lib.hid (blk_call HA.out hb8)
    replace HR := Lib.hid (blk_call HR.out hb8)
    replace HS := Lib.hid (blk_call HS.out hb8)
    replace HU := Lib.hid (blk_call HU.out hb8)
    replace HB := Lib.hid (blk_call HB.out hb8)
    replace B := Lib.hid (belT B.out hb8)
    clear hb8
    have ce := blk_cell HB.out 6 _ rfl
    have fe := blk_fz HB.out 6
    refine tail_one rfl rfl rfl rfl rfl (by intro c e; cases e) ?_
    go_simp
    simp only [wpOpsIn]
    clear ce fe
    replace HA := Lib.hid (blk_other (j := 6) HA.out (fun e => lHAbb.out e.symm) (.int .i64 m0))
    replace HR := Lib.hid (blk_other (j := 6) HR.out (fun e => lHRbb.out e.symm) (.int .i64 m0))
    replace HS := Lib.hid (blk_other (j := 6) HS.out (fun e => lHSbb.out e.symm) (.int .i64 m0))
    replace HU := Lib.hid (blk_other (j := 6) HU.out (fun e => lHUbb.out e.symm) (.int .i64 m0))
    replace HB : Hid ((w8.setCell ⟨bb, 6, none⟩ (.int .i64 m0)).heap[bb]? = some (.cells #[.int .i64 X, .int .i64 Y, .int .i64 n0, .int .i64 n1, .int .i64 n2, .int .i64 W, .int .i64 m0, .int .i64 l1, .int .i64 l2, .int .i64 h0, .int .i64 h1, .int .i64 h2] 27 (0, 0))) := Lib.hid (blk_set (j := 6) HB.out (.int .i64 m0))
    replace B := Lib.hid (belS (p := ⟨bb, 6, none⟩) B.out nbb (.int .i64 m0))
    generalize (w8.setCell ⟨bb, 6, none⟩ (.int .i64 m0)) = Wa0 at *
    have vb : -17 ≤ l0 ∧ l0 ≤ h0 ∧ h0 ≤ 18 := by have := VR.out; omega
    have ab : l0 ≤ m0 ∧ m0 ≤ h0 := A0.out.2
    have cb : m0 ≤ p0 ∧ p0 ≤ h0 := C0.out.2
    have sb := hs0
    have tb := ht0
    have at1 := A0.out.1
    have ct1 := C0.out.1
    have nz1 : h0 - l0 + 1 ≠ 0 := by omega
    have nz2 : h0 - m0 + 1 ≠ 0 := by omega
    go_upto_region 10 with fail
    have ca := blk_cell HB.out 6 _ rfl
    have ch := blk_cell HA.out 9 _ rfl
    have cs := blk_cell HU.out 0 _ rfl
    have E9 := EP0
    obtain ⟨sp, hsp⟩ : ∃ sp : ToldS, sp = [none, none, none, none, none, none, none, none, none, none, none, none, none, none, none, none, none, none, none, none, none, none, none, none, none, none, none, none, none, none, none, none, none, none, none, none, none, none, none, none, none, none, none, none, none, none, none, none, none, none, none, none, none, none, some (eqS (.int .i64 0)), some (eqS (.int .i64 0)), some (eqS (.pointer (some ⟨bb, 6, none⟩))), some (eqS (.pointer (some ⟨bb, 6, none⟩))), some (eqS (.int .i64 m0)), some (eqS (.int .i64 0)), some (eqS (.pointer (some ⟨bu, 0, none⟩))), some (eqS (.int .u8 t0)), some (eqS (.int .i64 t0)), some (eqS (.int .i64 0)), some (eqS (.pointer (some ⟨ba, 9, none⟩))), some (eqS (.pointer (some ⟨ba, 9, none⟩))), some (eqS (.int .i64 h0)), some (eqS (.int .i64 0)), some (eqS (.pointer (some ⟨bb, 6, none⟩))), some (eqS (.pointer (some ⟨bb, 6, none⟩))), some (eqS (.int .i64 m0)), some (eqS (.int .i64 (h0 - m0))), some (eqS (.int .i64 (h0 - m0 + 1))), some (eqS (.int .i64 (t0.tmod (h0 - m0 + 1)))), some (eqS (.int .i64 p0)), some (eqS (.pointer (some ⟨bb, 9, none⟩))), some (eqS (.pointer (some ⟨bb, 9, none⟩)))] := ⟨_, rfl⟩
    have s54 : sp.getD 54 none = some (eqS (.int .i64 0)) := by rw [hsp]; rfl
    have s55 : sp.getD 55 none = some (eqS (.int .i64 0)) := by rw [hsp]; rfl
    have s56 : sp.getD 56 none = some (eqS (.pointer (some ⟨bb, 6, none⟩))) := by rw [hsp]; rfl
    have s57 : sp.getD 57 none = some (eqS (.pointer (some ⟨bb, 6, none⟩))) := by rw [hsp]; rfl
    have s58 : sp.getD 58 none = some (eqS (.int .i64 m0)) := by rw [hsp]; rfl
    have s59 : sp.getD 59 none = some (eqS (.int .i64 0)) := by rw [hsp]; rfl
    have s60 : sp.getD 60 none = some (eqS (.pointer (some ⟨bu, 0, none⟩))) := by rw [hsp]; rfl
    have s61 : sp.getD 61 none = some (eqS (.int .u8 t0)) := by rw [hsp]; rfl
    have s62 : sp.getD 62 none = some (eqS (.int .i64 t0)) := by rw [hsp]; rfl
    have s63 : sp.getD 63 none = some (eqS (.int .i64 0)) := by rw [hsp]; rfl
    have s64 : sp.getD 64 none = some (eqS (.pointer (some ⟨ba, 9, none⟩))) := by rw [hsp]; rfl
    have s65 : sp.getD 65 none = some (eqS (.pointer (some ⟨ba, 9, none⟩))) := by rw [hsp]; rfl
    have s66 : sp.getD 66 none = some (eqS (.int .i64 h0)) := by rw [hsp]; rfl
    have s67 : sp.getD 67 none = some (eqS (.int .i64 0)) := by rw [hsp]; rfl
    have s68 : sp.getD 68 none = some (eqS (.pointer (some ⟨bb, 6, none⟩))) := by rw [hsp]; rfl
    have s69 : sp.getD 69 none = some (eqS (.pointer (some ⟨bb, 6, none⟩))) := by rw [hsp]; rfl
    have s70 : sp.getD 70 none = some (eqS (.int .i64 m0)) := by rw [hsp]; rfl
    have s71 : sp.getD 71 none = some (eqS (.int .i64 (h0 - m0))) := by rw [hsp]; rfl
    have s72 : sp.getD 72 none = some (eqS (.int .i64 (h0 - m0 + 1))) := by rw [hsp]; rfl
    have s73 : sp.getD 73 none = some (eqS (.int .i64 (t0.tmod (h0 - m0 + 1)))) := by rw [hsp]; rfl
    have s74 : sp.getD 74 none = some (eqS (.int .i64 p0)) := by rw [hsp]; rfl
    have s75 : sp.getD 75 none = some (eqS (.pointer (some ⟨bb, 9, none⟩))) := by rw [hsp]; rfl
    have s76 : sp.getD 76 none = some (eqS (.pointer (some ⟨bb, 9, none⟩))) := by rw [hsp]; rfl
    clear hsp
    refine (wpIn_wide (n := 0)).1 (region_headR (RtS sp) (rtS_keep sp) 23 rfl rfl rfl (by kernel_rfl) (by decide) (by kernel_rfl) (by kernel_rfl) (by kernel_rfl) ?_ ?_)
    · intro Q'; show ObsR _ _ _ _ _ _ _ _ (List.take _ _); simp only [List.take_succ_cons, List.take_zero]
      refine obsR_cons ?_ ?_
      · intro T wx K hB hF hD hK
        have g12 : T[12]? = some (.int .i64 0) := hF 12 (freeM_of (by kernel_rfl))
        refine ob_yes (wanted_none rfl) ?_
        clear hF hD
        go_simp
        exact hK _ _ (Below.refl _ _) (rt_eqS s54)
      refine obsR_cons ?_ ?_
      · intro T wx K hB hF hD hK
        have g12 : T[12]? = some (.int .i64 0) := hF 12 (freeM_of (by kernel_rfl))
        refine ob_yes (wanted_none rfl) ?_
        clear hF hD
        go_simp
        exact hK _ _ (Below.refl _ _) (rt_eqS s55)
      refine obsR_cons ?_ ?_
      · intro T wx K hB hF hD hK
        have g11 : T[11]? = some (.pointer (some ⟨bb, 0, none⟩)) := hF 11 (freeM_of (by kernel_rfl))
        refine ob_yes (wanted_none rfl) ?_
        clear hF hD
        go_simp
        exact hK _ _ (Below.refl _ _) (rt_eqS s56)
      refine obsR_cons ?_ ?_
      · intro T wx K hB hF hD hK
        have g56 := get_eqS (hD 2 56 (by simp [Region.binds]) (by kernel_rfl)) s56
        have g55 := get_eqS (hD 1 55 (by simp [Region.binds]) (by kernel_rfl)) s55
        refine ob_yes (wanted_none rfl) ?_
        clear hF hD
        go_simp
        exact hK _ _ (Below.refl _ _) (rt_eqS s57)
      refine obsR_cons ?_ ?_
      · intro T wx K hB hF hD hK
        have g57 := get_eqS (hD 3 57 (by simp [Region.binds]) (by kernel_rfl)) s57
        refine ob_yes (wanted_none rfl) ?_
        clear hF hD
        have j9 := (hB.cell (World.block_lt_of_cell? _ _ ca)).trans ca
        go_simp
        exact hK _ _ (Below.refl _ _) (rt_eqS s58)
      refine obsR_cons ?_ ?_
      · intro T wx K hB hF hD hK
        have g12 : T[12]? = some (.int .i64 0) := hF 12 (freeM_of (by kernel_rfl))
        refine ob_yes (wanted_none rfl) ?_
        clear hF hD
        go_simp
        exact hK _ _ (Below.refl _ _) (rt_eqS s59)
      refine obsR_cons ?_ ?_
      · intro T wx K hB hF hD hK
        have g7 : T[7]? = some (.pointer (some ⟨bu, 0, none⟩)) := hF 7 (freeM_of (by kernel_rfl))
        have g59 := get_eqS (hD 5 59 (by simp [Region.binds]) (by kernel_rfl)) s59
        refine ob_yes (wanted_none rfl) ?_
        clear hF hD
        go_simp
        exact hK _ _ (Below.refl _ _) (rt_eqS s60)
      refine obsR_cons ?_ ?_
      · intro T wx K hB hF hD hK
        have g60 := get_eqS (hD 6 60 (by simp [Region.binds]) (by kernel_rfl)) s60
        refine ob_yes (wanted_none rfl) ?_
        clear hF hD
        have j9 := (hB.cell (World.block_lt_of_cell? _ _ cs)).trans cs
        go_simp
        exact hK _ _ (Below.refl _ _) (rt_eqS s61)
      refine obsR_cons ?_ ?_
      · intro T wx K hB hF hD hK
        have g61 := get_eqS (hD 7 61 (by simp [Region.binds]) (by kernel_rfl)) s61
        refine ob_yes (wanted_none rfl) ?_
        clear hF hD
        go_simp
        first | exact hK _ _ (Below.refl _ _) (rt_eqS s62) | exact hK _ _ (Below.refl _ _) (rt_eqS' s62 (congrArg (Value.int .i64) (wrap_k _ (by omega))))
      refine obsR_cons ?_ ?_
      · intro T wx K hB hF hD hK
        have g12 : T[12]? = some (.int .i64 0) := hF 12 (freeM_of (by kernel_rfl))
        refine ob_yes (wanted_none rfl) ?_
        clear hF hD
        go_simp
        exact hK _ _ (Below.refl _ _) (rt_eqS s63)
      refine obsR_cons ?_ ?_
      · intro T wx K hB hF hD hK
        have g4 : T[4]? = some (.pointer (some ⟨ba, 0, none⟩)) := hF 4 (freeM_of (by kernel_rfl))
        refine ob_yes (wanted_none rfl) ?_
        clear hF hD
        go_simp
        exact hK _ _ (Below.refl _ _) (rt_eqS s64)
      refine obsR_cons ?_ ?_
      · intro T wx K hB hF hD hK
        have g64 := get_eqS (hD 10 64 (by simp [Region.binds]) (by kernel_rfl)) s64
        have g63 := get_eqS (hD 9 63 (by simp [Region.binds]) (by kernel_rfl)) s63
        refine ob_yes (wanted_none rfl) ?_
        clear hF hD
        go_simp
        exact hK _ _ (Below.refl _ _) (rt_eqS s65)
      refine obsR_cons ?_ ?_
      · intro T wx K hB hF hD hK
        have g65 := get_eqS (hD 11 65 (by simp [Region.binds]) (by kernel_rfl)) s65
        refine ob_yes (wanted_none rfl) ?_
        clear hF hD
        have j9 := (hB.cell (World.block_lt_of_cell? _ _ ch)).trans ch
        go_simp
        exact hK _ _ (Below.refl _ _) (rt_eqS s66)
      refine obsR_cons ?_ ?_
      · intro T wx K hB hF hD hK
        have g12 : T[12]? = some (.int .i64 0) := hF 12 (freeM_of (by kernel_rfl))
        refine ob_yes (wanted_none rfl) ?_
        clear hF hD
        go_simp
        exact hK _ _ (Below.refl _ _) (rt_eqS s67)
      refine obsR_cons ?_ ?_
      · intro T wx K hB hF hD hK
        have g11 : T[11]? = some (.pointer (some ⟨bb, 0, none⟩)) := hF 11 (freeM_of (by kernel_rfl))
        refine ob_yes (wanted_none rfl) ?_
        clear hF hD
        go_simp
        exact hK _ _ (Below.refl _ _) (rt_eqS s68)
      refine obsR_cons ?_ ?_
      · intro T wx K hB hF hD hK
        have g68 := get_eqS (hD 14 68 (by simp [Region.binds]) (by kernel_rfl)) s68
        have g67 := get_eqS (hD 13 67 (by simp [Region.binds]) (by kernel_rfl)) s67
        refine ob_yes (wanted_none rfl) ?_
        clear hF hD
        go_simp
        exact hK _ _ (Below.refl _ _) (rt_eqS s69)
      refine obsR_cons ?_ ?_
      · intro T wx K hB hF hD hK
        have g69 := get_eqS (hD 15 69 (by simp [Region.binds]) (by kernel_rfl)) s69
        refine ob_yes (wanted_none rfl) ?_
        clear hF hD
        have j9 := (hB.cell (World.block_lt_of_cell? _ _ ca)).trans ca
        go_simp
        exact hK _ _ (Below.refl _ _) (rt_eqS s70)
      refine obsR_cons ?_ ?_
      · intro T wx K hB hF hD hK
        have g66 := get_eqS (hD 12 66 (by simp [Region.binds]) (by kernel_rfl)) s66
        have g70 := get_eqS (hD 16 70 (by simp [Region.binds]) (by kernel_rfl)) s70
        refine ob_yes (wanted_none rfl) ?_
        clear hF hD
        go_simp
        first | exact hK _ _ (Below.refl _ _) (rt_eqS s71) | exact hK _ _ (Below.refl _ _) (rt_eqS' s71 (congrArg (Value.int .i64) (wrap_k _ (by omega))))
      refine obsR_cons ?_ ?_
      · intro T wx K hB hF hD hK
        have g71 := get_eqS (hD 17 71 (by simp [Region.binds]) (by kernel_rfl)) s71
        refine ob_yes (wanted_none rfl) ?_
        clear hF hD
        go_simp
        first | exact hK _ _ (Below.refl _ _) (rt_eqS s72) | exact hK _ _ (Below.refl _ _) (rt_eqS' s72 (congrArg (Value.int .i64) (wrap_k _ (by omega))))
      refine obsR_cons ?_ ?_
      · intro T wx K hB hF hD hK
        have g62 := get_eqS (hD 8 62 (by simp [Region.binds]) (by kernel_rfl)) s62
        have g72 := get_eqS (hD 18 72 (by simp [Region.binds]) (by kernel_rfl)) s72
        refine ob_yes (wanted_none rfl) ?_
        clear hF hD
        go_simp
        first | exact hK _ _ (Below.refl _ _) (rt_eqS s73) | exact hK _ _ (Below.refl _ _) (rt_eqS' s73 (congrArg (Value.int .i64) (by simp; omega)))
      refine obsR_cons ?_ ?_
      · intro T wx K hB hF hD hK
        have g58 := get_eqS (hD 4 58 (by simp [Region.binds]) (by kernel_rfl)) s58
        have g73 := get_eqS (hD 19 73 (by simp [Region.binds]) (by kernel_rfl)) s73
        refine ob_yes (wanted_none rfl) ?_
        clear hF hD
        have e9 := (Int.tmod_eq_emod_of_nonneg (b := h0 - m0 + 1) (show 0 ≤ t0 by omega))
        go_simp
        first | exact hK _ _ (Below.refl _ _) (rt_eqS s74) | exact hK _ _ (Below.refl _ _) (rt_eqS' s74 (congrArg (Value.int .i64) ((wrap_k _ (by rw [E9.out]; omega)).trans E9.out)))
      refine obsR_cons ?_ ?_
      · intro T wx K hB hF hD hK
        have g11 : T[11]? = some (.pointer (some ⟨bb, 0, none⟩)) := hF 11 (freeM_of (by kernel_rfl))
        refine ob_yes (wanted_none rfl) ?_
        clear hF hD
        go_simp
        exact hK _ _ (Below.refl _ _) (rt_eqS s75)
      refine obsR_cons ?_ ?_
      · intro T wx K hB hF hD hK
        have g75 := get_eqS (hD 21 75 (by simp [Region.binds]) (by kernel_rfl)) s75
        have g54 := get_eqS (hD 0 54 (by simp [Region.binds]) (by kernel_rfl)) s54
        refine ob_yes (wanted_none rfl) ?_
        clear hF hD
        go_simp
        exact hK _ _ (Below.refl _ _) (rt_eqS s76)
      exact obsR_nil
    · intro T9 w8 hb8 hF hs hD
      have g54 := get_eqS (hD 0 54 (by decide) (by kernel_rfl)) s54
      have g55 := get_eqS (hD 1 55 (by decide) (by kernel_rfl)) s55
      have g56 := get_eqS (hD 2 56 (by decide) (by kernel_rfl)) s56
      have g57 := get_eqS (hD 3 57 (by decide) (by kernel_rfl)) s57
      have g58 := get_eqS (hD 4 58 (by decide) (by kernel_rfl)) s58
      have g59 := get_eqS (hD 5 59 (by decide) (by kernel_rfl)) s59
      have g60 := get_eqS (hD 6 60 (by decide) (by kernel_rfl)) s60
      have g61 := get_eqS (hD 7 61 (by decide) (by kernel_rfl)) s61
      have g62 := get_eqS (hD 8 62 (by decide) (by kernel_rfl)) s62
      have g63 := get_eqS (hD 9 63 (by decide) (by kernel_rfl)) s63
      have g64 := get_eqS (hD 10 64 (by decide) (by kernel_rfl)) s64
      have g65 := get_eqS (hD 11 65 (by decide) (by kernel_rfl)) s65
      have g66 := get_eqS (hD 12 66 (by decide) (by kernel_rfl)) s66
      have g67 := get_eqS (hD 13 67 (by decide) (by kernel_rfl)) s67
      have g68 := get_eqS (hD 14 68 (by decide) (by kernel_rfl)) s68
      have g69 := get_eqS (hD 15 69 (by decide) (by kernel_rfl)) s69
      have g70 := get_eqS (hD 16 70 (by decide) (by kernel_rfl)) s70
      have g71 := get_eqS (hD 17 71 (by decide) (by kernel_rfl)) s71
      have g72 := get_eqS (hD 18 72 (by decide) (by kernel_rfl)) s72
      have g73 := get_eqS (hD 19 73 (by decide) (by kernel_rfl)) s73
      have g74 := get_eqS (hD 20 74 (by decide) (by kernel_rfl)) s74
      have g75 := get_eqS (hD 21 75 (by decide) (by kernel_rfl)) s75
      have g76 := get_eqS (hD 22 76 (by decide) (by kernel_rfl)) s76
      have hT9 := conc [(54, .int .i64 0), (55, .int .i64 0), (56, .pointer (some ⟨bb, 6, none⟩)), (57, .pointer (some ⟨bb, 6, none⟩)), (58, .int .i64 m0), (59, .int .i64 0), (60, .pointer (some ⟨bu, 0, none⟩)), (61, .int .u8 t0), (62, .int .i64 t0), (63, .int .i64 0), (64, .pointer (some ⟨ba, 9, none⟩)), (65, .pointer (some ⟨ba, 9, none⟩)), (66, .int .i64 h0), (67, .int .i64 0), (68, .pointer (some ⟨bb, 6, none⟩)), (69, .pointer (some ⟨bb, 6, none⟩)), (70, .int .i64 m0), (71, .int .i64 (h0 - m0)), (72, .int .i64 (h0 - m0 + 1)), (73, .int .i64 (t0.tmod (h0 - m0 + 1))), (74, .int .i64 p0), (75, .pointer (some ⟨bb, 9, none⟩)), (76, .pointer (some ⟨bb, 9, none⟩))] hs hF (by simp only [List.forall_mem_cons]; exact ⟨g54, g55, g56, g57, g58, g59, g60, g61, g62, g63, g64, g65, g66, g67, g68, g69, g70, g71, g72, g73, g74, g75, g76, fun p hp => absurd hp List.not_mem_nil⟩) (by kernel_rfl)
      simp only [List.foldl, List.setIfInBounds_toArray, List.set_cons_succ, List.set_cons_zero] at hT9
      subst hT9
      clear hF hD hs g54 g55 g56 g57 g58 g59 g60 g61 g62 g63 g64 g65 g66 g67 g68 g69 g70 g71 g72 g73 g74 g75 g76 s54 s55 s56 s57 s58 s59 s60 s61 s62 s63 s64 s65 s66 s67 s68 s69 s70 s71 s72 s73 s74 s75 s76
      show wpOpsIn _ _ _ _ _ [23] _ _
      clear ca ch cs E9 vb ab cb sb tb at1 ct1 nz1 nz2
      replace HA := Lib.hid (blk_call HA.out hb8)
      replace HR := Lib.hid (blk_call HR.out hb8)
      replace HS := Lib.hid (blk_call HS.out hb8)
      replace HU := Lib.hid (blk_call HU.out hb8)
      replace HB := Lib.hid (blk_call HB.out hb8)
      replace B := Lib.hid (belT B.out hb8)
      clear hb8
      have ce := blk_cell HB.out 9 _ rfl
      have fe := blk_fz HB.out 9
      refine tail_one rfl rfl rfl rfl rfl (by intro c e; cases e) ?_
      go_simp
      simp only [wpOpsIn]
      clear ce fe
      replace HA := Lib.hid (blk_other (j := 9) HA.out (fun e => lHAbb.out e.symm) (.int .i64 p0))
      replace HR := Lib.hid (blk_other (j := 9) HR.out (fun e => lHRbb.out e.symm) (.int .i64 p0))
      replace HS := Lib.hid (blk_other (j := 9) HS.out (fun e => lHSbb.out e.symm) (.int .i64 p0))
      replace HU := Lib.hid (blk_other (j := 9) HU.out (fun e => lHUbb.out e.symm) (.int .i64 p0))
      replace HB : Hid ((w8.setCell ⟨bb, 9, none⟩ (.int .i64 p0)).heap[bb]? = some (.cells #[.int .i64 X, .int .i64 Y, .int .i64 n0, .int .i64 n1, .int .i64 n2, .int .i64 W, .int .i64 m0, .int .i64 l1, .int .i64 l2, .int .i64 p0, .int .i64 h1, .int .i64 h2] 27 (0, 0))) := Lib.hid (blk_set (j := 9) HB.out (.int .i64 p0))
      replace B := Lib.hid (belS (p := ⟨bb, 9, none⟩) B.out nbb (.int .i64 p0))
      generalize (w8.setCell ⟨bb, 9, none⟩ (.int .i64 p0)) = Wb0 at *
      go_wp2_with fail
      rw [rounds_succ]
      have vb : -17 ≤ l1 ∧ l1 ≤ h1 ∧ h1 ≤ 18 := by have := VR.out; omega
      have ab : l1 ≤ m1 ∧ m1 ≤ h1 := A1.out.2
      have cb : m1 ≤ p1 ∧ p1 ≤ h1 := C1.out.2
      have sb := hs1
      have tb := ht1
      have at1 := A1.out.1
      have ct1 := C1.out.1
      have nz1 : h1 - l1 + 1 ≠ 0 := by omega
      have nz2 : h1 - m1 + 1 ≠ 0 := by omega
      go_upto_region 9 with fail
      have ca := blk_cell HA.out 7 _ rfl
      have ch := blk_cell HA.out 10 _ rfl
      have cs := blk_cell HS.out 1 _ rfl
      have E9 := EM1
      obtain ⟨sp, hsp⟩ : ∃ sp : ToldS, sp = [none, none, none, none, none, none, none, none, none, none, none, none, none, none, none, none, none, none, none, none, none, none, none, none, none, none, none, none, none, none, none, some (eqS (.int .i64 1)), some (eqS (.int .i64 1)), some (eqS (.pointer (some ⟨ba, 6, none⟩))), some (eqS (.pointer (some ⟨ba, 7, none⟩))), some (eqS (.int .i64 l1)), some (eqS (.int .i64 1)), some (eqS (.pointer (some ⟨bs, 1, none⟩))), some (eqS (.int .u8 s1)), some (eqS (.int .i64 s1)), some (eqS (.int .i64 1)), some (eqS (.pointer (some ⟨ba, 9, none⟩))), some (eqS (.pointer (some ⟨ba, 10, none⟩))), some (eqS (.int .i64 h1)), some (eqS (.int .i64 1)), some (eqS (.pointer (some ⟨ba, 6, none⟩))), some (eqS (.pointer (some ⟨ba, 7, none⟩))), some (eqS (.int .i64 l1)), some (eqS (.int .i64 (h1 - l1))), some (eqS (.int .i64 (h1 - l1 + 1))), some (eqS (.int .i64 (s1.tmod (h1 - l1 + 1)))), some (eqS (.int .i64 m1)), some (eqS (.pointer (some ⟨bb, 6, none⟩))), some (eqS (.pointer (some ⟨bb, 7, none⟩)))] := ⟨_, rfl⟩
      have s31 : sp.getD 31 none = some (eqS (.int .i64 1)) := by rw [hsp]; rfl
      have s32 : sp.getD 32 none = some (eqS (.int .i64 1)) := by rw [hsp]; rfl
      have s33 : sp.getD 33 none = some (eqS (.pointer (some ⟨ba, 6, none⟩))) := by rw [hsp]; rfl
      have s34 : sp.getD 34 none = some (eqS (.pointer (some ⟨ba, 7, none⟩))) := by rw [hsp]; rfl
      have s35 : sp.getD 35 none = some (eqS (.int .i64 l1)) := by rw [hsp]; rfl
      have s36 : sp.getD 36 none = some (eqS (.int .i64 1)) := by rw [hsp]; rfl
      have s37 : sp.getD 37 none = some (eqS (.pointer (some ⟨bs, 1, none⟩))) := by rw [hsp]; rfl
      have s38 : sp.getD 38 none = some (eqS (.int .u8 s1)) := by rw [hsp]; rfl
      have s39 : sp.getD 39 none = some (eqS (.int .i64 s1)) := by rw [hsp]; rfl
      have s40 : sp.getD 40 none = some (eqS (.int .i64 1)) := by rw [hsp]; rfl
      have s41 : sp.getD 41 none = some (eqS (.pointer (some ⟨ba, 9, none⟩))) := by rw [hsp]; rfl
      have s42 : sp.getD 42 none = some (eqS (.pointer (some ⟨ba, 10, none⟩))) := by rw [hsp]; rfl
      have s43 : sp.getD 43 none = some (eqS (.int .i64 h1)) := by rw [hsp]; rfl
      have s44 : sp.getD 44 none = some (eqS (.int .i64 1)) := by rw [hsp]; rfl
      have s45 : sp.getD 45 none = some (eqS (.pointer (some ⟨ba, 6, none⟩))) := by rw [hsp]; rfl
      have s46 : sp.getD 46 none = some (eqS (.pointer (some ⟨ba, 7, none⟩))) := by rw [hsp]; rfl
      have s47 : sp.getD 47 none = some (eqS (.int .i64 l1)) := by rw [hsp]; rfl
      have s48 : sp.getD 48 none = some (eqS (.int .i64 (h1 - l1))) := by rw [hsp]; rfl
      have s49 : sp.getD 49 none = some (eqS (.int .i64 (h1 - l1 + 1))) := by rw [hsp]; rfl
      have s50 : sp.getD 50 none = some (eqS (.int .i64 (s1.tmod (h1 - l1 + 1)))) := by rw [hsp]; rfl
      have s51 : sp.getD 51 none = some (eqS (.int .i64 m1)) := by rw [hsp]; rfl
      have s52 : sp.getD 52 none = some (eqS (.pointer (some ⟨bb, 6, none⟩))) := by rw [hsp]; rfl
      have s53 : sp.getD 53 none = some (eqS (.pointer (some ⟨bb, 7, none⟩))) := by rw [hsp]; rfl
      clear hsp
      refine (wpIn_wide (n := 0)).1 (region_headR (RtS sp) (rtS_keep sp) 23 rfl rfl rfl (by kernel_rfl) (by decide) (by kernel_rfl) (by kernel_rfl) (by kernel_rfl) ?_ ?_)
      · intro Q'; show ObsR _ _ _ _ _ _ _ _ (List.take _ _); simp only [List.take_succ_cons, List.take_zero]
        refine obsR_cons ?_ ?_
        · intro T wx K hB hF hD hK
          have g12 : T[12]? = some (.int .i64 1) := hF 12 (freeM_of (by kernel_rfl))
          refine ob_yes (wanted_none rfl) ?_
          clear hF hD
          go_simp
          exact hK _ _ (Below.refl _ _) (rt_eqS s31)
        refine obsR_cons ?_ ?_
        · intro T wx K hB hF hD hK
          have g12 : T[12]? = some (.int .i64 1) := hF 12 (freeM_of (by kernel_rfl))
          refine ob_yes (wanted_none rfl) ?_
          clear hF hD
          go_simp
          exact hK _ _ (Below.refl _ _) (rt_eqS s32)
        refine obsR_cons ?_ ?_
        · intro T wx K hB hF hD hK
          have g4 : T[4]? = some (.pointer (some ⟨ba, 0, none⟩)) := hF 4 (freeM_of (by kernel_rfl))
          refine ob_yes (wanted_none rfl) ?_
          clear hF hD
          go_simp
          exact hK _ _ (Below.refl _ _) (rt_eqS s33)
        refine obsR_cons ?_ ?_
        · intro T wx K hB hF hD hK
          have g33 := get_eqS (hD 2 33 (by simp [Region.binds]) (by kernel_rfl)) s33
          have g32 := get_eqS (hD 1 32 (by simp [Region.binds]) (by kernel_rfl)) s32
          refine ob_yes (wanted_none rfl) ?_
          clear hF hD
          go_simp
          exact hK _ _ (Below.refl _ _) (rt_eqS s34)
        refine obsR_cons ?_ ?_
        · intro T wx K hB hF hD hK
          have g34 := get_eqS (hD 3 34 (by simp [Region.binds]) (by kernel_rfl)) s34
          refine ob_yes (wanted_none rfl) ?_
          clear hF hD
          have j9 := (hB.cell (World.block_lt_of_cell? _ _ ca)).trans ca
          go_simp
          exact hK _ _ (Below.refl _ _) (rt_eqS s35)
        refine obsR_cons ?_ ?_
        · intro T wx K hB hF hD hK
          have g12 : T[12]? = some (.int .i64 1) := hF 12 (freeM_of (by kernel_rfl))
          refine ob_yes (wanted_none rfl) ?_
          clear hF hD
          go_simp
          exact hK _ _ (Below.refl _ _) (rt_eqS s36)
        refine obsR_cons ?_ ?_
        · intro T wx K hB hF hD hK
          have g6 : T[6]? = some (.pointer (some ⟨bs, 0, none⟩)) := hF 6 (freeM_of (by kernel_rfl))
          have g36 := get_eqS (hD 5 36 (by simp [Region.binds]) (by kernel_rfl)) s36
          refine ob_yes (wanted_none rfl) ?_
          clear hF hD
          go_simp
          exact hK _ _ (Below.refl _ _) (rt_eqS s37)
        refine obsR_cons ?_ ?_
        · intro T wx K hB hF hD hK
          have g37 := get_eqS (hD 6 37 (by simp [Region.binds]) (by kernel_rfl)) s37
          refine ob_yes (wanted_none rfl) ?_
          clear hF hD
          have j9 := (hB.cell (World.block_lt_of_cell? _ _ cs)).trans cs
          go_simp
          exact hK _ _ (Below.refl _ _) (rt_eqS s38)
        refine obsR_cons ?_ ?_
        · intro T wx K hB hF hD hK
          have g38 := get_eqS (hD 7 38 (by simp [Region.binds]) (by kernel_rfl)) s38
          refine ob_yes (wanted_none rfl) ?_
          clear hF hD
          go_simp
          first | exact hK _ _ (Below.refl _ _) (rt_eqS s39) | exact hK _ _ (Below.refl _ _) (rt_eqS' s39 (congrArg (Value.int .i64) (wrap_k _ (by omega))))
        refine obsR_cons ?_ ?_
        · intro T wx K hB hF hD hK
          have g12 : T[12]? = some (.int .i64 1) := hF 12 (freeM_of (by kernel_rfl))
          refine ob_yes (wanted_none rfl) ?_
          clear hF hD
          go_simp
          exact hK _ _ (Below.refl _ _) (rt_eqS s40)
        refine obsR_cons ?_ ?_
        · intro T wx K hB hF hD hK
          have g4 : T[4]? = some (.pointer (some ⟨ba, 0, none⟩)) := hF 4 (freeM_of (by kernel_rfl))
          refine ob_yes (wanted_none rfl) ?_
          clear hF hD
          go_simp
          exact hK _ _ (Below.refl _ _) (rt_eqS s41)
        refine obsR_cons ?_ ?_
        · intro T wx K hB hF hD hK
          have g41 := get_eqS (hD 10 41 (by simp [Region.binds]) (by kernel_rfl)) s41
          have g40 := get_eqS (hD 9 40 (by simp [Region.binds]) (by kernel_rfl)) s40
          refine ob_yes (wanted_none rfl) ?_
          clear hF hD
          go_simp
          exact hK _ _ (Below.refl _ _) (rt_eqS s42)
        refine obsR_cons ?_ ?_
        · intro T wx K hB hF hD hK
          have g42 := get_eqS (hD 11 42 (by simp [Region.binds]) (by kernel_rfl)) s42
          refine ob_yes (wanted_none rfl) ?_
          clear hF hD
          have j9 := (hB.cell (World.block_lt_of_cell? _ _ ch)).trans ch
          go_simp
          exact hK _ _ (Below.refl _ _) (rt_eqS s43)
        refine obsR_cons ?_ ?_
        · intro T wx K hB hF hD hK
          have g12 : T[12]? = some (.int .i64 1) := hF 12 (freeM_of (by kernel_rfl))
          refine ob_yes (wanted_none rfl) ?_
          clear hF hD
          go_simp
          exact hK _ _ (Below.refl _ _) (rt_eqS s44)
        refine obsR_cons ?_ ?_
        · intro T wx K hB hF hD hK
          have g4 : T[4]? = some (.pointer (some ⟨ba, 0, none⟩)) := hF 4 (freeM_of (by kernel_rfl))
          refine ob_yes (wanted_none rfl) ?_
          clear hF hD
          go_simp
          exact hK _ _ (Below.refl _ _) (rt_eqS s45)
        refine obsR_cons ?_ ?_
        · intro T wx K hB hF hD hK
          have g45 := get_eqS (hD 14 45 (by simp [Region.binds]) (by kernel_rfl)) s45
          have g44 := get_eqS (hD 13 44 (by simp [Region.binds]) (by kernel_rfl)) s44
          refine ob_yes (wanted_none rfl) ?_
          clear hF hD
          go_simp
          exact hK _ _ (Below.refl _ _) (rt_eqS s46)
        refine obsR_cons ?_ ?_
        · intro T wx K hB hF hD hK
          have g46 := get_eqS (hD 15 46 (by simp [Region.binds]) (by kernel_rfl)) s46
          refine ob_yes (wanted_none rfl) ?_
          clear hF hD
          have j9 := (hB.cell (World.block_lt_of_cell? _ _ ca)).trans ca
          go_simp
          exact hK _ _ (Below.refl _ _) (rt_eqS s47)
        refine obsR_cons ?_ ?_
        · intro T wx K hB hF hD hK
          have g43 := get_eqS (hD 12 43 (by simp [Region.binds]) (by kernel_rfl)) s43
          have g47 := get_eqS (hD 16 47 (by simp [Region.binds]) (by kernel_rfl)) s47
          refine ob_yes (wanted_none rfl) ?_
          clear hF hD
          go_simp
          first | exact hK _ _ (Below.refl _ _) (rt_eqS s48) | exact hK _ _ (Below.refl _ _) (rt_eqS' s48 (congrArg (Value.int .i64) (wrap_k _ (by omega))))
        refine obsR_cons ?_ ?_
        · intro T wx K hB hF hD hK
          have g48 := get_eqS (hD 17 48 (by simp [Region.binds]) (by kernel_rfl)) s48
          refine ob_yes (wanted_none rfl) ?_
          clear hF hD
          go_simp
          first | exact hK _ _ (Below.refl _ _) (rt_eqS s49) | exact hK _ _ (Below.refl _ _) (rt_eqS' s49 (congrArg (Value.int .i64) (wrap_k _ (by omega))))
        refine obsR_cons ?_ ?_
        · intro T wx K hB hF hD hK
          have g39 := get_eqS (hD 8 39 (by simp [Region.binds]) (by kernel_rfl)) s39
          have g49 := get_eqS (hD 18 49 (by simp [Region.binds]) (by kernel_rfl)) s49
          refine ob_yes (wanted_none rfl) ?_
          clear hF hD
          go_simp
          first | exact hK _ _ (Below.refl _ _) (rt_eqS s50) | exact hK _ _ (Below.refl _ _) (rt_eqS' s50 (congrArg (Value.int .i64) (by simp; omega)))
        refine obsR_cons ?_ ?_
        · intro T wx K hB hF hD hK
          have g35 := get_eqS (hD 4 35 (by simp [Region.binds]) (by kernel_rfl)) s35
          have g50 := get_eqS (hD 19 50 (by simp [Region.binds]) (by kernel_rfl)) s50
          refine ob_yes (wanted_none rfl) ?_
          clear hF hD
          have e9 := (Int.tmod_eq_emod_of_nonneg (b := h1 - l1 + 1) (show 0 ≤ s1 by omega))
          go_simp
          first | exact hK _ _ (Below.refl _ _) (rt_eqS s51) | exact hK _ _ (Below.refl _ _) (rt_eqS' s51 (congrArg (Value.int .i64) ((wrap_k _ (by rw [E9.out]; omega)).trans E9.out)))
        refine obsR_cons ?_ ?_
        · intro T wx K hB hF hD hK
          have g11 : T[11]? = some (.pointer (some ⟨bb, 0, none⟩)) := hF 11 (freeM_of (by kernel_rfl))
          refine ob_yes (wanted_none rfl) ?_
          clear hF hD
          go_simp
          exact hK _ _ (Below.refl _ _) (rt_eqS s52)
        refine obsR_cons ?_ ?_
        · intro T wx K hB hF hD hK
          have g52 := get_eqS (hD 21 52 (by simp [Region.binds]) (by kernel_rfl)) s52
          have g31 := get_eqS (hD 0 31 (by simp [Region.binds]) (by kernel_rfl)) s31
          refine ob_yes (wanted_none rfl) ?_
          clear hF hD
          go_simp
          exact hK _ _ (Below.refl _ _) (rt_eqS s53)
        exact obsR_nil
      · intro T9 w8 hb8 hF hs hD
        have g31 := get_eqS (hD 0 31 (by decide) (by kernel_rfl)) s31
        have g32 := get_eqS (hD 1 32 (by decide) (by kernel_rfl)) s32
        have g33 := get_eqS (hD 2 33 (by decide) (by kernel_rfl)) s33
        have g34 := get_eqS (hD 3 34 (by decide) (by kernel_rfl)) s34
        have g35 := get_eqS (hD 4 35 (by decide) (by kernel_rfl)) s35
        have g36 := get_eqS (hD 5 36 (by decide) (by kernel_rfl)) s36
        have g37 := get_eqS (hD 6 37 (by decide) (by kernel_rfl)) s37
        have g38 := get_eqS (hD 7 38 (by decide) (by kernel_rfl)) s38
        have g39 := get_eqS (hD 8 39 (by decide) (by kernel_rfl)) s39
        have g40 := get_eqS (hD 9 40 (by decide) (by kernel_rfl)) s40
        have g41 := get_eqS (hD 10 41 (by decide) (by kernel_rfl)) s41
        have g42 := get_eqS (hD 11 42 (by decide) (by kernel_rfl)) s42
        have g43 := get_eqS (hD 12 43 (by decide) (by kernel_rfl)) s43
        have g44 := get_eqS (hD 13 44 (by decide) (by kernel_rfl)) s44
        have g45 := get_eqS (hD 14 45 (by decide) (by kernel_rfl)) s45
        have g46 := get_eqS (hD 15 46 (by decide) (by kernel_rfl)) s46
        have g47 := get_eqS (hD 16 47 (by decide) (by kernel_rfl)) s47
        have g48 := get_eqS (hD 17 48 (by decide) (by kernel_rfl)) s48
        have g49 := get_eqS (hD 18 49 (by decide) (by kernel_rfl)) s49
        have g50 := get_eqS (hD 19 50 (by decide) (by kernel_rfl)) s50
        have g51 := get_eqS (hD 20 51 (by decide) (by kernel_rfl)) s51
        have g52 := get_eqS (hD 21 52 (by decide) (by kernel_rfl)) s52
        have g53 := get_eqS (hD 22 53 (by decide) (by kernel_rfl)) s53
        have hT9 := conc [(31, .int .i64 1), (32, .int .i64 1), (33, .pointer (some ⟨ba, 6, none⟩)), (34, .pointer (some ⟨ba, 7, none⟩)), (35, .int .i64 l1), (36, .int .i64 1), (37, .pointer (some ⟨bs, 1, none⟩)), (38, .int .u8 s1), (39, .int .i64 s1), (40, .int .i64 1), (41, .pointer (some ⟨ba, 9, none⟩)), (42, .pointer (some ⟨ba, 10, none⟩)), (43, .int .i64 h1), (44, .int .i64 1), (45, .pointer (some ⟨ba, 6, none⟩)), (46, .pointer (some ⟨ba, 7, none⟩)), (47, .int .i64 l1), (48, .int .i64 (h1 - l1)), (49, .int .i64 (h1 - l1 + 1)), (50, .int .i64 (s1.tmod (h1 - l1 + 1))), (51, .int .i64 m1), (52, .pointer (some ⟨bb, 6, none⟩)), (53, .pointer (some ⟨bb, 7, none⟩))] hs hF (by simp only [List.forall_mem_cons]; exact ⟨g31, g32, g33, g34, g35, g36, g37, g38, g39, g40, g41, g42, g43, g44, g45, g46, g47, g48, g49, g50, g51, g52, g53, fun p hp => absurd hp List.not_mem_nil⟩) (by kernel_rfl)
        simp only [List.foldl, List.setIfInBounds_toArray, List.set_cons_succ, List.set_cons_zero] at hT9
        subst hT9
        clear hF hD hs g31 g32 g33 g34 g35 g36 g37 g38 g39 g40 g41 g42 g43 g44 g45 g46 g47 g48 g49 g50 g51 g52 g53 s31 s32 s33 s34 s35 s36 s37 s38 s39 s40 s41 s42 s43 s44 s45 s46 s47 s48 s49 s50 s51 s52 s53
        show wpOpsIn _ _ _ _ _ [23] _ _
        clear ca ch cs E9 vb ab cb sb tb at1 ct1 nz1 nz2
        replace HA := Lib.hid (blk_call HA.out hb8)
        replace HR := Lib.hid (blk_call HR.out hb8)
        replace HS := Lib.hid (blk_call HS.out hb8)
        replace HU := Lib.hid (blk_call HU.out hb8)
        replace HB := Lib.hid (blk_call HB.out hb8)
        replace B := Lib.hid (belT B.out hb8)
        clear hb8
        have ce := blk_cell HB.out 7 _ rfl
        have fe := blk_fz HB.out 7
        refine tail_one rfl rfl rfl rfl rfl (by intro c e; cases e) ?_
        go_simp
        simp only [wpOpsIn]
        clear ce fe
        replace HA := Lib.hid (blk_other (j := 7) HA.out (fun e => lHAbb.out e.symm) (.int .i64 m1))
        replace HR := Lib.hid (blk_other (j := 7) HR.out (fun e => lHRbb.out e.symm) (.int .i64 m1))
        replace HS := Lib.hid (blk_other (j := 7) HS.out (fun e => lHSbb.out e.symm) (.int .i64 m1))
        replace HU := Lib.hid (blk_other (j := 7) HU.out (fun e => lHUbb.out e.symm) (.int .i64 m1))
        replace HB : Hid ((w8.setCell ⟨bb, 7, none⟩ (.int .i64 m1)).heap[bb]? = some (.cells #[.int .i64 X, .int .i64 Y, .int .i64 n0, .int .i64 n1, .int .i64 n2, .int .i64 W, .int .i64 m0, .int .i64 m1, .int .i64 l2, .int .i64 p0, .int .i64 h1, .int .i64 h2] 27 (0, 0))) := Lib.hid (blk_set (j := 7) HB.out (.int .i64 m1))
        replace B := Lib.hid (belS (p := ⟨bb, 7, none⟩) B.out nbb (.int .i64 m1))
        generalize (w8.setCell ⟨bb, 7, none⟩ (.int .i64 m1)) = Wa1 at *
        have vb : -17 ≤ l1 ∧ l1 ≤ h1 ∧ h1 ≤ 18 := by have := VR.out; omega
        have ab : l1 ≤ m1 ∧ m1 ≤ h1 := A1.out.2
        have cb : m1 ≤ p1 ∧ p1 ≤ h1 := C1.out.2
        have sb := hs1
        have tb := ht1
        have at1 := A1.out.1
        have ct1 := C1.out.1
        have nz1 : h1 - l1 + 1 ≠ 0 := by omega
        have nz2 : h1 - m1 + 1 ≠ 0 := by omega
        go_upto_region 10 with fail
        have ca := blk_cell HB.out 7 _ rfl
        have ch := blk_cell HA.out 10 _ rfl
        have cs := blk_cell HU.out 1 _ rfl
        have E9 := EP1
        obtain ⟨sp, hsp⟩ : ∃ sp : ToldS, sp = [none, none, none, none, none, none, none, none, none, none, none, none, none, none, none, none, none, none, none, none, none, none, none, none, none, none, none, none, none, none, none, none, none, none, none, none, none, none, none, none, none, none, none, none, none, none, none, none, none, none, none, none, none, none, some (eqS (.int .i64 1)), some (eqS (.int .i64 1)), some (eqS (.pointer (some ⟨bb, 6, none⟩))), some (eqS (.pointer (some ⟨bb, 7, none⟩))), some (eqS (.int .i64 m1)), some (eqS (.int .i64 1)), some (eqS (.pointer (some ⟨bu, 1, none⟩))), some (eqS (.int .u8 t1)), some (eqS (.int .i64 t1)), some (eqS (.int .i64 1)), some (eqS (.pointer (some ⟨ba, 9, none⟩))), some (eqS (.pointer (some ⟨ba, 10, none⟩))), some (eqS (.int .i64 h1)), some (eqS (.int .i64 1)), some (eqS (.pointer (some ⟨bb, 6, none⟩))), some (eqS (.pointer (some ⟨bb, 7, none⟩))), some (eqS (.int .i64 m1)), some (eqS (.int .i64 (h1 - m1))), some (eqS (.int .i64 (h1 - m1 + 1))), some (eqS (.int .i64 (t1.tmod (h1 - m1 + 1)))), some (eqS (.int .i64 p1)), some (eqS (.pointer (some ⟨bb, 9, none⟩))), some (eqS (.pointer (some ⟨bb, 10, none⟩)))] := ⟨_, rfl⟩
        have s54 : sp.getD 54 none = some (eqS (.int .i64 1)) := by rw [hsp]; rfl
        have s55 : sp.getD 55 none = some (eqS (.int .i64 1)) := by rw [hsp]; rfl
        have s56 : sp.getD 56 none = some (eqS (.pointer (some ⟨bb, 6, none⟩))) := by rw [hsp]; rfl
        have s57 : sp.getD 57 none = some (eqS (.pointer (some ⟨bb, 7, none⟩))) := by rw [hsp]; rfl
        have s58 : sp.getD 58 none = some (eqS (.int .i64 m1)) := by rw [hsp]; rfl
        have s59 : sp.getD 59 none = some (eqS (.int .i64 1)) := by rw [hsp]; rfl
        have s60 : sp.getD 60 none = some (eqS (.pointer (some ⟨bu, 1, none⟩))) := by rw [hsp]; rfl
        have s61 : sp.getD 61 none = some (eqS (.int .u8 t1)) := by rw [hsp]; rfl
        have s62 : sp.getD 62 none = some (eqS (.int .i64 t1)) := by rw [hsp]; rfl
        have s63 : sp.getD 63 none = some (eqS (.int .i64 1)) := by rw [hsp]; rfl
        have s64 : sp.getD 64 none = some (eqS (.pointer (some ⟨ba, 9, none⟩))) := by rw [hsp]; rfl
        have s65 : sp.getD 65 none = some (eqS (.pointer (some ⟨ba, 10, none⟩))) := by rw [hsp]; rfl
        have s66 : sp.getD 66 none = some (eqS (.int .i64 h1)) := by rw [hsp]; rfl
        have s67 : sp.getD 67 none = some (eqS (.int .i64 1)) := by rw [hsp]; rfl
        have s68 : sp.getD 68 none = some (eqS (.pointer (some ⟨bb, 6, none⟩))) := by rw [hsp]; rfl
        have s69 : sp.getD 69 none = some (eqS (.pointer (some ⟨bb, 7, none⟩))) := by rw [hsp]; rfl
        have s70 : sp.getD 70 none = some (eqS (.int .i64 m1)) := by rw [hsp]; rfl
        have s71 : sp.getD 71 none = some (eqS (.int .i64 (h1 - m1))) := by rw [hsp]; rfl
        have s72 : sp.getD 72 none = some (eqS (.int .i64 (h1 - m1 + 1))) := by rw [hsp]; rfl
        have s73 : sp.getD 73 none = some (eqS (.int .i64 (t1.tmod (h1 - m1 + 1)))) := by rw [hsp]; rfl
        have s74 : sp.getD 74 none = some (eqS (.int .i64 p1)) := by rw [hsp]; rfl
        have s75 : sp.getD 75 none = some (eqS (.pointer (some ⟨bb, 9, none⟩))) := by rw [hsp]; rfl
        have s76 : sp.getD 76 none = some (eqS (.pointer (some ⟨bb, 10, none⟩))) := by rw [hsp]; rfl
        clear hsp
        refine (wpIn_wide (n := 0)).1 (region_headR (RtS sp) (rtS_keep sp) 23 rfl rfl rfl (by kernel_rfl) (by decide) (by kernel_rfl) (by kernel_rfl) (by kernel_rfl) ?_ ?_)
        · intro Q'; show ObsR _ _ _ _ _ _ _ _ (List.take _ _); simp only [List.take_succ_cons, List.take_zero]
          refine obsR_cons ?_ ?_
          · intro T wx K hB hF hD hK
            have g12 : T[12]? = some (.int .i64 1) := hF 12 (freeM_of (by kernel_rfl))
            refine ob_yes (wanted_none rfl) ?_
            clear hF hD
            go_simp
            exact hK _ _ (Below.refl _ _) (rt_eqS s54)
          refine obsR_cons ?_ ?_
          · intro T wx K hB hF hD hK
            have g12 : T[12]? = some (.int .i64 1) := hF 12 (freeM_of (by kernel_rfl))
            refine ob_yes (wanted_none rfl) ?_
            clear hF hD
            go_simp
            exact hK _ _ (Below.refl _ _) (rt_eqS s55)
          refine obsR_cons ?_ ?_
          · intro T wx K hB hF hD hK
            have g11 : T[11]? = some (.pointer (some ⟨bb, 0, none⟩)) := hF 11 (freeM_of (by kernel_rfl))
            refine ob_yes (wanted_none rfl) ?_
            clear hF hD
            go_simp
            exact hK _ _ (Below.refl _ _) (rt_eqS s56)
          refine obsR_cons ?_ ?_
          · intro T wx K hB hF hD hK
            have g56 := get_eqS (hD 2 56 (by simp [Region.binds]) (by kernel_rfl)) s56
            have g55 := get_eqS (hD 1 55 (by simp [Region.binds]) (by kernel_rfl)) s55
            refine ob_yes (wanted_none rfl) ?_
            clear hF hD
            go_simp
            exact hK _ _ (Below.refl _ _) (rt_eqS s57)
          refine obsR_cons ?_ ?_
          · intro T wx K hB hF hD hK
            have g57 := get_eqS (hD 3 57 (by simp [Region.binds]) (by kernel_rfl)) s57
            refine ob_yes (wanted_none rfl) ?_
            clear hF hD
            have j9 := (hB.cell (World.block_lt_of_cell? _ _ ca)).trans ca
            go_simp
            exact hK _ _ (Below.refl _ _) (rt_eqS s58)
          refine obsR_cons ?_ ?_
          · intro T wx K hB hF hD hK
            have g12 : T[12]? = some (.int .i64 1) := hF 12 (freeM_of (by kernel_rfl))
            refine ob_yes (wanted_none rfl) ?_
            clear hF hD
            go_simp
            exact hK _ _ (Below.refl _ _) (rt_eqS s59)
          refine obsR_cons ?_ ?_
          · intro T wx K hB hF hD hK
            have g7 : T[7]? = some (.pointer (some ⟨bu, 0, none⟩)) := hF 7 (freeM_of (by kernel_rfl))
            have g59 := get_eqS (hD 5 59 (by simp [Region.binds]) (by kernel_rfl)) s59
            refine ob_yes (wanted_none rfl) ?_
            clear hF hD
            go_simp
            exact hK _ _ (Below.refl _ _) (rt_eqS s60)
          refine obsR_cons ?_ ?_
          · intro T wx K hB hF hD hK
            have g60 := get_eqS (hD 6 60 (by simp [Region.binds]) (by kernel_rfl)) s60
            refine ob_yes (wanted_none rfl) ?_
            clear hF hD
            have j9 := (hB.cell (World.block_lt_of_cell? _ _ cs)).trans cs
            go_simp
            exact hK _ _ (Below.refl _ _) (rt_eqS s61)
          refine obsR_cons ?_ ?_
          · intro T wx K hB hF hD hK
            have g61 := get_eqS (hD 7 61 (by simp [Region.binds]) (by kernel_rfl)) s61
            refine ob_yes (wanted_none rfl) ?_
            clear hF hD
            go_simp
            first | exact hK _ _ (Below.refl _ _) (rt_eqS s62) | exact hK _ _ (Below.refl _ _) (rt_eqS' s62 (congrArg (Value.int .i64) (wrap_k _ (by omega))))
          refine obsR_cons ?_ ?_
          · intro T wx K hB hF hD hK
            have g12 : T[12]? = some (.int .i64 1) := hF 12 (freeM_of (by kernel_rfl))
            refine ob_yes (wanted_none rfl) ?_
            clear hF hD
            go_simp
            exact hK _ _ (Below.refl _ _) (rt_eqS s63)
          refine obsR_cons ?_ ?_
          · intro T wx K hB hF hD hK
            have g4 : T[4]? = some (.pointer (some ⟨ba, 0, none⟩)) := hF 4 (freeM_of (by kernel_rfl))
            refine ob_yes (wanted_none rfl) ?_
            clear hF hD
            go_simp
            exact hK _ _ (Below.refl _ _) (rt_eqS s64)
          refine obsR_cons ?_ ?_
          · intro T wx K hB hF hD hK
            have g64 := get_eqS (hD 10 64 (by simp [Region.binds]) (by kernel_rfl)) s64
            have g63 := get_eqS (hD 9 63 (by simp [Region.binds]) (by kernel_rfl)) s63
            refine ob_yes (wanted_none rfl) ?_
            clear hF hD
            go_simp
            exact hK _ _ (Below.refl _ _) (rt_eqS s65)
          refine obsR_cons ?_ ?_
          · intro T wx K hB hF hD hK
            have g65 := get_eqS (hD 11 65 (by simp [Region.binds]) (by kernel_rfl)) s65
            refine ob_yes (wanted_none rfl) ?_
            clear hF hD
            have j9 := (hB.cell (World.block_lt_of_cell? _ _ ch)).trans ch
            go_simp
            exact hK _ _ (Below.refl _ _) (rt_eqS s66)
          refine obsR_cons ?_ ?_
          · intro T wx K hB hF hD hK
            have g12 : T[12]? = some (.int .i64 1) := hF 12 (freeM_of (by kernel_rfl))
            refine ob_yes (wanted_none rfl) ?_
            clear hF hD
            go_simp
            exact hK _ _ (Below.refl _ _) (rt_eqS s67)
          refine obsR_cons ?_ ?_
          · intro T wx K hB hF hD hK
            have g11 : T[11]? = some (.pointer (some ⟨bb, 0, none⟩)) := hF 11 (freeM_of (by kernel_rfl))
            refine ob_yes (wanted_none rfl) ?_
            clear hF hD
            go_simp
            exact hK _ _ (Below.refl _ _) (rt_eqS s68)
          refine obsR_cons ?_ ?_
          · intro T wx K hB hF hD hK
            have g68 := get_eqS (hD 14 68 (by simp [Region.binds]) (by kernel_rfl)) s68
            have g67 := get_eqS (hD 13 67 (by simp [Region.binds]) (by kernel_rfl)) s67
            refine ob_yes (wanted_none rfl) ?_
            clear hF hD
            go_simp
            exact hK _ _ (Below.refl _ _) (rt_eqS s69)
          refine obsR_cons ?_ ?_
          · intro T wx K hB hF hD hK
            have g69 := get_eqS (hD 15 69 (by simp [Region.binds]) (by kernel_rfl)) s69
            refine ob_yes (wanted_none rfl) ?_
            clear hF hD
            have j9 := (hB.cell (World.block_lt_of_cell? _ _ ca)).trans ca
            go_simp
            exact hK _ _ (Below.refl _ _) (rt_eqS s70)
          refine obsR_cons ?_ ?_
          · intro T wx K hB hF hD hK
            have g66 := get_eqS (hD 12 66 (by simp [Region.binds]) (by kernel_rfl)) s66
            have g70 := get_eqS (hD 16 70 (by simp [Region.binds]) (by kernel_rfl)) s70
            refine ob_yes (wanted_none rfl) ?_
            clear hF hD
            go_simp
            first | exact hK _ _ (Below.refl _ _) (rt_eqS s71) | exact hK _ _ (Below.refl _ _) (rt_eqS' s71 (congrArg (Value.int .i64) (wrap_k _ (by omega))))
          refine obsR_cons ?_ ?_
          · intro T wx K hB hF hD hK
            have g71 := get_eqS (hD 17 71 (by simp [Region.binds]) (by kernel_rfl)) s71
            refine ob_yes (wanted_none rfl) ?_
            clear hF hD
            go_simp
            first | exact hK _ _ (Below.refl _ _) (rt_eqS s72) | exact hK _ _ (Below.refl _ _) (rt_eqS' s72 (congrArg (Value.int .i64) (wrap_k _ (by omega))))
          refine obsR_cons ?_ ?_
          · intro T wx K hB hF hD hK
            have g62 := get_eqS (hD 8 62 (by simp [Region.binds]) (by kernel_rfl)) s62
            have g72 := get_eqS (hD 18 72 (by simp [Region.binds]) (by kernel_rfl)) s72
            refine ob_yes (wanted_none rfl) ?_
            clear hF hD
            go_simp
            first | exact hK _ _ (Below.refl _ _) (rt_eqS s73) | exact hK _ _ (Below.refl _ _) (rt_eqS' s73 (congrArg (Value.int .i64) (by simp; omega)))
          refine obsR_cons ?_ ?_
          · intro T wx K hB hF hD hK
            have g58 := get_eqS (hD 4 58 (by simp [Region.binds]) (by kernel_rfl)) s58
            have g73 := get_eqS (hD 19 73 (by simp [Region.binds]) (by kernel_rfl)) s73
            refine ob_yes (wanted_none rfl) ?_
            clear hF hD
            have e9 := (Int.tmod_eq_emod_of_nonneg (b := h1 - m1 + 1) (show 0 ≤ t1 by omega))
            go_simp
            first | exact hK _ _ (Below.refl _ _) (rt_eqS s74) | exact hK _ _ (Below.refl _ _) (rt_eqS' s74 (congrArg (Value.int .i64) ((wrap_k _ (by rw [E9.out]; omega)).trans E9.out)))
          refine obsR_cons ?_ ?_
          · intro T wx K hB hF hD hK
            have g11 : T[11]? = some (.pointer (some ⟨bb, 0, none⟩)) := hF 11 (freeM_of (by kernel_rfl))
            refine ob_yes (wanted_none rfl) ?_
            clear hF hD
            go_simp
            exact hK _ _ (Below.refl _ _) (rt_eqS s75)
          refine obsR_cons ?_ ?_
          · intro T wx K hB hF hD hK
            have g75 := get_eqS (hD 21 75 (by simp [Region.binds]) (by kernel_rfl)) s75
            have g54 := get_eqS (hD 0 54 (by simp [Region.binds]) (by kernel_rfl)) s54
            refine ob_yes (wanted_none rfl) ?_
            clear hF hD
            go_simp
            exact hK _ _ (Below.refl _ _) (rt_eqS s76)
          exact obsR_nil
        · intro T9 w8 hb8 hF hs hD
          have g54 := get_eqS (hD 0 54 (by decide) (by kernel_rfl)) s54
          have g55 := get_eqS (hD 1 55 (by decide) (by kernel_rfl)) s55
          have g56 := get_eqS (hD 2 56 (by decide) (by kernel_rfl)) s56
          have g57 := get_eqS (hD 3 57 (by decide) (by kernel_rfl)) s57
          have g58 := get_eqS (hD 4 58 (by decide) (by kernel_rfl)) s58
          have g59 := get_eqS (hD 5 59 (by decide) (by kernel_rfl)) s59
          have g60 := get_eqS (hD 6 60 (by decide) (by kernel_rfl)) s60
          have g61 := get_eqS (hD 7 61 (by decide) (by kernel_rfl)) s61
          have g62 := get_eqS (hD 8 62 (by decide) (by kernel_rfl)) s62
          have g63 := get_eqS (hD 9 63 (by decide) (by kernel_rfl)) s63
          have g64 := get_eqS (hD 10 64 (by decide) (by kernel_rfl)) s64
          have g65 := get_eqS (hD 11 65 (by decide) (by kernel_rfl)) s65
          have g66 := get_eqS (hD 12 66 (by decide) (by kernel_rfl)) s66
          have g67 := get_eqS (hD 13 67 (by decide) (by kernel_rfl)) s67
          have g68 := get_eqS (hD 14 68 (by decide) (by kernel_rfl)) s68
          have g69 := get_eqS (hD 15 69 (by decide) (by kernel_rfl)) s69
          have g70 := get_eqS (hD 16 70 (by decide) (by kernel_rfl)) s70
          have g71 := get_eqS (hD 17 71 (by decide) (by kernel_rfl)) s71
          have g72 := get_eqS (hD 18 72 (by decide) (by kernel_rfl)) s72
          have g73 := get_eqS (hD 19 73 (by decide) (by kernel_rfl)) s73
          have g74 := get_eqS (hD 20 74 (by decide) (by kernel_rfl)) s74
          have g75 := get_eqS (hD 21 75 (by decide) (by kernel_rfl)) s75
          have g76 := get_eqS (hD 22 76 (by decide) (by kernel_rfl)) s76
          have hT9 := conc [(54, .int .i64 1), (55, .int .i64 1), (56, .pointer (some ⟨bb, 6, none⟩)), (57, .pointer (some ⟨bb, 7, none⟩)), (58, .int .i64 m1), (59, .int .i64 1), (60, .pointer (some ⟨bu, 1, none⟩)), (61, .int .u8 t1), (62, .int .i64 t1), (63, .int .i64 1), (64, .pointer (some ⟨ba, 9, none⟩)), (65, .pointer (some ⟨ba, 10, none⟩)), (66, .int .i64 h1), (67, .int .i64 1), (68, .pointer (some ⟨bb, 6, none⟩)), (69, .pointer (some ⟨bb, 7, none⟩)), (70, .int .i64 m1), (71, .int .i64 (h1 - m1)), (72, .int .i64 (h1 - m1 + 1)), (73, .int .i64 (t1.tmod (h1 - m1 + 1))), (74, .int .i64 p1), (75, .pointer (some ⟨bb, 9, none⟩)), (76, .pointer (some ⟨bb, 10, none⟩))] hs hF (by simp only [List.forall_mem_cons]; exact ⟨g54, g55, g56, g57, g58, g59, g60, g61, g62, g63, g64, g65, g66, g67, g68, g69, g70, g71, g72, g73, g74, g75, g76, fun p hp => absurd hp List.not_mem_nil⟩) (by kernel_rfl)
          simp only [List.foldl, List.setIfInBounds_toArray, List.set_cons_succ, List.set_cons_zero] at hT9
          subst hT9
          clear hF hD hs g54 g55 g56 g57 g58 g59 g60 g61 g62 g63 g64 g65 g66 g67 g68 g69 g70 g71 g72 g73 g74 g75 g76 s54 s55 s56 s57 s58 s59 s60 s61 s62 s63 s64 s65 s66 s67 s68 s69 s70 s71 s72 s73 s74 s75 s76
          show wpOpsIn _ _ _ _ _ [23] _ _
          clear ca ch cs E9 vb ab cb sb tb at1 ct1 nz1 nz2
          replace HA := Lib.hid (blk_call HA.out hb8)
          replace HR := Lib.hid (blk_call HR.out hb8)
          replace HS := Lib.hid (blk_call HS.out hb8)
          replace HU := Lib.hid (blk_call HU.out hb8)
          replace HB := Lib.hid (blk_call HB.out hb8)
          replace B := Lib.hid (belT B.out hb8)
          clear hb8
          have ce := blk_cell HB.out 10 _ rfl
          have fe := blk_fz HB.out 10
          refine tail_one rfl rfl rfl rfl rfl (by intro c e; cases e) ?_
          go_simp
          simp only [wpOpsIn]
          clear ce fe
          replace HA := Lib.hid (blk_other (j := 10) HA.out (fun e => lHAbb.out e.symm) (.int .i64 p1))
          replace HR := Lib.hid (blk_other (j := 10) HR.out (fun e => lHRbb.out e.symm) (.int .i64 p1))
          replace HS := Lib.hid (blk_other (j := 10) HS.out (fun e => lHSbb.out e.symm) (.int .i64 p1))
          replace HU := Lib.hid (blk_other (j := 10) HU.out (fun e => lHUbb.out e.symm) (.int .i64 p1))
          replace HB : Hid ((w8.setCell ⟨bb, 10, none⟩ (.int .i64 p1)).heap[bb]? = some (.cells #[.int .i64 X, .int .i64 Y, .int .i64 n0, .int .i64 n1, .int .i64 n2, .int .i64 W, .int .i64 m0, .int .i64 m1, .int .i64 l2, .int .i64 p0, .int .i64 p1, .int .i64 h2] 27 (0, 0))) := Lib.hid (blk_set (j := 10) HB.out (.int .i64 p1))
          replace B := Lib.hid (belS (p := ⟨bb, 10, none⟩) B.out nbb (.int .i64 p1))
          generalize (w8.setCell ⟨bb, 10, none⟩ (.int .i64 p1)) = Wb1 at *
          go_wp2_with fail
          rw [rounds_succ]
          have vb : -17 ≤ l2 ∧ l2 ≤ h2 ∧ h2 ≤ 18 := by have := VR.out; omega
          have ab : l2 ≤ m2 ∧ m2 ≤ h2 := A2.out.2
          have cb : m2 ≤ p2 ∧ p2 ≤ h2 := C2.out.2
          have sb := hs2
          have tb := ht2
          have at1 := A2.out.1
          have ct1 := C2.out.1
          have nz1 : h2 - l2 + 1 ≠ 0 := by omega
          have nz2 : h2 - m2 + 1 ≠ 0 := by omega
          go_upto_region 9 with fail
          have ca := blk_cell HA.out 8 _ rfl
          have ch := blk_cell HA.out 11 _ rfl
          have cs := blk_cell HS.out 2 _ rfl
          have E9 := EM2
          obtain ⟨sp, hsp⟩ : ∃ sp : ToldS, sp = [none, none, none, none, none, none, none, none, none, none, none, none, none, none, none, none, none, none, none, none, none, none, none, none, none, none, none, none, none, none, none, some (eqS (.int .i64 2)), some (eqS (.int .i64 2)), some (eqS (.pointer (some ⟨ba, 6, none⟩))), some (eqS (.pointer (some ⟨ba, 8, none⟩))), some (eqS (.int .i64 l2)), some (eqS (.int .i64 2)), some (eqS (.pointer (some ⟨bs, 2, none⟩))), some (eqS (.int .u8 s2)), some (eqS (.int .i64 s2)), some (eqS (.int .i64 2)), some (eqS (.pointer (some ⟨ba, 9, none⟩))), some (eqS (.pointer (some ⟨ba, 11, none⟩))), some (eqS (.int .i64 h2)), some (eqS (.int .i64 2)), some (eqS (.pointer (some ⟨ba, 6, none⟩))), some (eqS (.pointer (some ⟨ba, 8, none⟩))), some (eqS (.int .i64 l2)), some (eqS (.int .i64 (h2 - l2))), some (eqS (.int .i64 (h2 - l2 + 1))), some (eqS (.int .i64 (s2.tmod (h2 - l2 + 1)))), some (eqS (.int .i64 m2)), some (eqS (.pointer (some ⟨bb, 6, none⟩))), some (eqS (.pointer (some ⟨bb, 8, none⟩)))] := ⟨_, rfl⟩
          have s31 : sp.getD 31 none = some (eqS (.int .i64 2)) := by rw [hsp]; rfl
          have s32 : sp.getD 32 none = some (eqS (.int .i64 2)) := by rw [hsp]; rfl
          have s33 : sp.getD 33 none = some (eqS (.pointer (some ⟨ba, 6, none⟩))) := by rw [hsp]; rfl
          have s34 : sp.getD 34 none = some (eqS (.pointer (some ⟨ba, 8, none⟩))) := by rw [hsp]; rfl
          have s35 : sp.getD 35 none = some (eqS (.int .i64 l2)) := by rw [hsp]; rfl
          have s36 : sp.getD 36 none = some (eqS (.int .i64 2)) := by rw [hsp]; rfl
          have s37 : sp.getD 37 none = some (eqS (.pointer (some ⟨bs, 2, none⟩))) := by rw [hsp]; rfl
          have s38 : sp.getD 38 none = some (eqS (.int .u8 s2)) := by rw [hsp]; rfl
          have s39 : sp.getD 39 none = some (eqS (.int .i64 s2)) := by rw [hsp]; rfl
          have s40 : sp.getD 40 none = some (eqS (.int .i64 2)) := by rw [hsp]; rfl
          have s41 : sp.getD 41 none = some (eqS (.pointer (some ⟨ba, 9, none⟩))) := by rw [hsp]; rfl
          have s42 : sp.getD 42 none = some (eqS (.pointer (some ⟨ba, 11, none⟩))) := by rw [hsp]; rfl
          have s43 : sp.getD 43 none = some (eqS (.int .i64 h2)) := by rw [hsp]; rfl
          have s44 : sp.getD 44 none = some (eqS (.int .i64 2)) := by rw [hsp]; rfl
          have s45 : sp.getD 45 none = some (eqS (.pointer (some ⟨ba, 6, none⟩))) := by rw [hsp]; rfl
          have s46 : sp.getD 46 none = some (eqS (.pointer (some ⟨ba, 8, none⟩))) := by rw [hsp]; rfl
          have s47 : sp.getD 47 none = some (eqS (.int .i64 l2)) := by rw [hsp]; rfl
          have s48 : sp.getD 48 none = some (eqS (.int .i64 (h2 - l2))) := by rw [hsp]; rfl
          have s49 : sp.getD 49 none = some (eqS (.int .i64 (h2 - l2 + 1))) := by rw [hsp]; rfl
          have s50 : sp.getD 50 none = some (eqS (.int .i64 (s2.tmod (h2 - l2 + 1)))) := by rw [hsp]; rfl
          have s51 : sp.getD 51 none = some (eqS (.int .i64 m2)) := by rw [hsp]; rfl
          have s52 : sp.getD 52 none = some (eqS (.pointer (some ⟨bb, 6, none⟩))) := by rw [hsp]; rfl
          have s53 : sp.getD 53 none = some (eqS (.pointer (some ⟨bb, 8, none⟩))) := by rw [hsp]; rfl
          clear hsp
          refine (wpIn_wide (n := 0)).1 (region_headR (RtS sp) (rtS_keep sp) 23 rfl rfl rfl (by kernel_rfl) (by decide) (by kernel_rfl) (by kernel_rfl) (by kernel_rfl) ?_ ?_)
          · intro Q'; show ObsR _ _ _ _ _ _ _ _ (List.take _ _); simp only [List.take_succ_cons, List.take_zero]
            refine obsR_cons ?_ ?_
            · intro T wx K hB hF hD hK
              have g12 : T[12]? = some (.int .i64 2) := hF 12 (freeM_of (by kernel_rfl))
              refine ob_yes (wanted_none rfl) ?_
              clear hF hD
              go_simp
              exact hK _ _ (Below.refl _ _) (rt_eqS s31)
            refine obsR_cons ?_ ?_
            · intro T wx K hB hF hD hK
              have g12 : T[12]? = some (.int .i64 2) := hF 12 (freeM_of (by kernel_rfl))
              refine ob_yes (wanted_none rfl) ?_
              clear hF hD
              go_simp
              exact hK _ _ (Below.refl _ _) (rt_eqS s32)
            refine obsR_cons ?_ ?_
            · intro T wx K hB hF hD hK
              have g4 : T[4]? = some (.pointer (some ⟨ba, 0, none⟩)) := hF 4 (freeM_of (by kernel_rfl))
              refine ob_yes (wanted_none rfl) ?_
              clear hF hD
              go_simp
              exact hK _ _ (Below.refl _ _) (rt_eqS s33)
            refine obsR_cons ?_ ?_
            · intro T wx K hB hF hD hK
              have g33 := get_eqS (hD 2 33 (by simp [Region.binds]) (by kernel_rfl)) s33
              have g32 := get_eqS (hD 1 32 (by simp [Region.binds]) (by kernel_rfl)) s32
              refine ob_yes (wanted_none rfl) ?_
              clear hF hD
              go_simp
              exact hK _ _ (Below.refl _ _) (rt_eqS s34)
            refine obsR_cons ?_ ?_
            · intro T wx K hB hF hD hK
              have g34 := get_eqS (hD 3 34 (by simp [Region.binds]) (by kernel_rfl)) s34
              refine ob_yes (wanted_none rfl) ?_
              clear hF hD
              have j9 := (hB.cell (World.block_lt_of_cell? _ _ ca)).trans ca
              go_simp
              exact hK _ _ (Below.refl _ _) (rt_eqS s35)
            refine obsR_cons ?_ ?_
            · intro T wx K hB hF hD hK
              have g12 : T[12]? = some (.int .i64 2) := hF 12 (freeM_of (by kernel_rfl))
              refine ob_yes (wanted_none rfl) ?_
              clear hF hD
              go_simp
              exact hK _ _ (Below.refl _ _) (rt_eqS s36)
            refine obsR_cons ?_ ?_
            · intro T wx K hB hF hD hK
              have g6 : T[6]? = some (.pointer (some ⟨bs, 0, none⟩)) := hF 6 (freeM_of (by kernel_rfl))
              have g36 := get_eqS (hD 5 36 (by simp [Region.binds]) (by kernel_rfl)) s36
              refine ob_yes (wanted_none rfl) ?_
              clear hF hD
              go_simp
              exact hK _ _ (Below.refl _ _) (rt_eqS s37)
            refine obsR_cons ?_ ?_
            · intro T wx K hB hF hD hK
              have g37 := get_eqS (hD 6 37 (by simp [Region.binds]) (by kernel_rfl)) s37
              refine ob_yes (wanted_none rfl) ?_
              clear hF hD
              have j9 := (hB.cell (World.block_lt_of_cell? _ _ cs)).trans cs
              go_simp
              exact hK _ _ (Below.refl _ _) (rt_eqS s38)
            refine obsR_cons ?_ ?_
            · intro T wx K hB hF hD hK
              have g38 := get_eqS (hD 7 38 (by simp [Region.binds]) (by kernel_rfl)) s38
              refine ob_yes (wanted_none rfl) ?_
              clear hF hD
              go_simp
              first | exact hK _ _ (Below.refl _ _) (rt_eqS s39) | exact hK _ _ (Below.refl _ _) (rt_eqS' s39 (congrArg (Value.int .i64) (wrap_k _ (by omega))))
            refine obsR_cons ?_ ?_
            · intro T wx K hB hF hD hK
              have g12 : T[12]? = some (.int .i64 2) := hF 12 (freeM_of (by kernel_rfl))
              refine ob_yes (wanted_none rfl) ?_
              clear hF hD
              go_simp
              exact hK _ _ (Below.refl _ _) (rt_eqS s40)
            refine obsR_cons ?_ ?_
            · intro T wx K hB hF hD hK
              have g4 : T[4]? = some (.pointer (some ⟨ba, 0, none⟩)) := hF 4 (freeM_of (by kernel_rfl))
              refine ob_yes (wanted_none rfl) ?_
              clear hF hD
              go_simp
              exact hK _ _ (Below.refl _ _) (rt_eqS s41)
            refine obsR_cons ?_ ?_
            · intro T wx K hB hF hD hK
              have g41 := get_eqS (hD 10 41 (by simp [Region.binds]) (by kernel_rfl)) s41
              have g40 := get_eqS (hD 9 40 (by simp [Region.binds]) (by kernel_rfl)) s40
              refine ob_yes (wanted_none rfl) ?_
              clear hF hD
              go_simp
              exact hK _ _ (Below.refl _ _) (rt_eqS s42)
            refine obsR_cons ?_ ?_
            · intro T wx K hB hF hD hK
              have g42 := get_eqS (hD 11 42 (by simp [Region.binds]) (by kernel_rfl)) s42
              refine ob_yes (wanted_none rfl) ?_
              clear hF hD
              have j9 := (hB.cell (World.block_lt_of_cell? _ _ ch)).trans ch
              go_simp
              exact hK _ _ (Below.refl _ _) (rt_eqS s43)
            refine obsR_cons ?_ ?_
            · intro T wx K hB hF hD hK
              have g12 : T[12]? = some (.int .i64 2) := hF 12 (freeM_of (by kernel_rfl))
              refine ob_yes (wanted_none rfl) ?_
              clear hF hD
              go_simp
              exact hK _ _ (Below.refl _ _) (rt_eqS s44)
            refine obsR_cons ?_ ?_
            · intro T wx K hB hF hD hK
              have g4 : T[4]? = some (.pointer (some ⟨ba, 0, none⟩)) := hF 4 (freeM_of (by kernel_rfl))
              refine ob_yes (wanted_none rfl) ?_
              clear hF hD
              go_simp
              exact hK _ _ (Below.refl _ _) (rt_eqS s45)
            refine obsR_cons ?_ ?_
            · intro T wx K hB hF hD hK
              have g45 := get_eqS (hD 14 45 (by simp [Region.binds]) (by kernel_rfl)) s45
              have g44 := get_eqS (hD 13 44 (by simp [Region.binds]) (by kernel_rfl)) s44
              refine ob_yes (wanted_none rfl) ?_
              clear hF hD
              go_simp
              exact hK _ _ (Below.refl _ _) (rt_eqS s46)
            refine obsR_cons ?_ ?_
            · intro T wx K hB hF hD hK
              have g46 := get_eqS (hD 15 46 (by simp [Region.binds]) (by kernel_rfl)) s46
              refine ob_yes (wanted_none rfl) ?_
              clear hF hD
              have j9 := (hB.cell (World.block_lt_of_cell? _ _ ca)).trans ca
              go_simp
              exact hK _ _ (Below.refl _ _) (rt_eqS s47)
            refine obsR_cons ?_ ?_
            · intro T wx K hB hF hD hK
              have g43 := get_eqS (hD 12 43 (by simp [Region.binds]) (by kernel_rfl)) s43
              have g47 := get_eqS (hD 16 47 (by simp [Region.binds]) (by kernel_rfl)) s47
              refine ob_yes (wanted_none rfl) ?_
              clear hF hD
              go_simp
              first | exact hK _ _ (Below.refl _ _) (rt_eqS s48) | exact hK _ _ (Below.refl _ _) (rt_eqS' s48 (congrArg (Value.int .i64) (wrap_k _ (by omega))))
            refine obsR_cons ?_ ?_
            · intro T wx K hB hF hD hK
              have g48 := get_eqS (hD 17 48 (by simp [Region.binds]) (by kernel_rfl)) s48
              refine ob_yes (wanted_none rfl) ?_
              clear hF hD
              go_simp
              first | exact hK _ _ (Below.refl _ _) (rt_eqS s49) | exact hK _ _ (Below.refl _ _) (rt_eqS' s49 (congrArg (Value.int .i64) (wrap_k _ (by omega))))
            refine obsR_cons ?_ ?_
            · intro T wx K hB hF hD hK
              have g39 := get_eqS (hD 8 39 (by simp [Region.binds]) (by kernel_rfl)) s39
              have g49 := get_eqS (hD 18 49 (by simp [Region.binds]) (by kernel_rfl)) s49
              refine ob_yes (wanted_none rfl) ?_
              clear hF hD
              go_simp
              first | exact hK _ _ (Below.refl _ _) (rt_eqS s50) | exact hK _ _ (Below.refl _ _) (rt_eqS' s50 (congrArg (Value.int .i64) (by simp; omega)))
            refine obsR_cons ?_ ?_
            · intro T wx K hB hF hD hK
              have g35 := get_eqS (hD 4 35 (by simp [Region.binds]) (by kernel_rfl)) s35
              have g50 := get_eqS (hD 19 50 (by simp [Region.binds]) (by kernel_rfl)) s50
              refine ob_yes (wanted_none rfl) ?_
              clear hF hD
              have e9 := (Int.tmod_eq_emod_of_nonneg (b := h2 - l2 + 1) (show 0 ≤ s2 by omega))
              go_simp
              first | exact hK _ _ (Below.refl _ _) (rt_eqS s51) | exact hK _ _ (Below.refl _ _) (rt_eqS' s51 (congrArg (Value.int .i64) ((wrap_k _ (by rw [E9.out]; omega)).trans E9.out)))
            refine obsR_cons ?_ ?_
            · intro T wx K hB hF hD hK
              have g11 : T[11]? = some (.pointer (some ⟨bb, 0, none⟩)) := hF 11 (freeM_of (by kernel_rfl))
              refine ob_yes (wanted_none rfl) ?_
              clear hF hD
              go_simp
              exact hK _ _ (Below.refl _ _) (rt_eqS s52)
            refine obsR_cons ?_ ?_
            · intro T wx K hB hF hD hK
              have g52 := get_eqS (hD 21 52 (by simp [Region.binds]) (by kernel_rfl)) s52
              have g31 := get_eqS (hD 0 31 (by simp [Region.binds]) (by kernel_rfl)) s31
              refine ob_yes (wanted_none rfl) ?_
              clear hF hD
              go_simp
              exact hK _ _ (Below.refl _ _) (rt_eqS s53)
            exact obsR_nil
          · intro T9 w8 hb8 hF hs hD
            have g31 := get_eqS (hD 0 31 (by decide) (by kernel_rfl)) s31
            have g32 := get_eqS (hD 1 32 (by decide) (by kernel_rfl)) s32
            have g33 := get_eqS (hD 2 33 (by decide) (by kernel_rfl)) s33
            have g34 := get_eqS (hD 3 34 (by decide) (by kernel_rfl)) s34
            have g35 := get_eqS (hD 4 35 (by decide) (by kernel_rfl)) s35
            have g36 := get_eqS (hD 5 36 (by decide) (by kernel_rfl)) s36
            have g37 := get_eqS (hD 6 37 (by decide) (by kernel_rfl)) s37
            have g38 := get_eqS (hD 7 38 (by decide) (by kernel_rfl)) s38
            have g39 := get_eqS (hD 8 39 (by decide) (by kernel_rfl)) s39
            have g40 := get_eqS (hD 9 40 (by decide) (by kernel_rfl)) s40
            have g41 := get_eqS (hD 10 41 (by decide) (by kernel_rfl)) s41
            have g42 := get_eqS (hD 11 42 (by decide) (by kernel_rfl)) s42
            have g43 := get_eqS (hD 12 43 (by decide) (by kernel_rfl)) s43
            have g44 := get_eqS (hD 13 44 (by decide) (by kernel_rfl)) s44
            have g45 := get_eqS (hD 14 45 (by decide) (by kernel_rfl)) s45
            have g46 := get_eqS (hD 15 46 (by decide) (by kernel_rfl)) s46
            have g47 := get_eqS (hD 16 47 (by decide) (by kernel_rfl)) s47
            have g48 := get_eqS (hD 17 48 (by decide) (by kernel_rfl)) s48
            have g49 := get_eqS (hD 18 49 (by decide) (by kernel_rfl)) s49
            have g50 := get_eqS (hD 19 50 (by decide) (by kernel_rfl)) s50
            have g51 := get_eqS (hD 20 51 (by decide) (by kernel_rfl)) s51
            have g52 := get_eqS (hD 21 52 (by decide) (by kernel_rfl)) s52
            have g53 := get_eqS (hD 22 53 (by decide) (by kernel_rfl)) s53
            have hT9 := conc [(31, .int .i64 2), (32, .int .i64 2), (33, .pointer (some ⟨ba, 6, none⟩)), (34, .pointer (some ⟨ba, 8, none⟩)), (35, .int .i64 l2), (36, .int .i64 2), (37, .pointer (some ⟨bs, 2, none⟩)), (38, .int .u8 s2), (39, .int .i64 s2), (40, .int .i64 2), (41, .pointer (some ⟨ba, 9, none⟩)), (42, .pointer (some ⟨ba, 11, none⟩)), (43, .int .i64 h2), (44, .int .i64 2), (45, .pointer (some ⟨ba, 6, none⟩)), (46, .pointer (some ⟨ba, 8, none⟩)), (47, .int .i64 l2), (48, .int .i64 (h2 - l2)), (49, .int .i64 (h2 - l2 + 1)), (50, .int .i64 (s2.tmod (h2 - l2 + 1))), (51, .int .i64 m2), (52, .pointer (some ⟨bb, 6, none⟩)), (53, .pointer (some ⟨bb, 8, none⟩))] hs hF (by simp only [List.forall_mem_cons]; exact ⟨g31, g32, g33, g34, g35, g36, g37, g38, g39, g40, g41, g42, g43, g44, g45, g46, g47, g48, g49, g50, g51, g52, g53, fun p hp => absurd hp List.not_mem_nil⟩) (by kernel_rfl)
            simp only [List.foldl, List.setIfInBounds_toArray, List.set_cons_succ, List.set_cons_zero] at hT9
            subst hT9
            clear hF hD hs g31 g32 g33 g34 g35 g36 g37 g38 g39 g40 g41 g42 g43 g44 g45 g46 g47 g48 g49 g50 g51 g52 g53 s31 s32 s33 s34 s35 s36 s37 s38 s39 s40 s41 s42 s43 s44 s45 s46 s47 s48 s49 s50 s51 s52 s53
            show wpOpsIn _ _ _ _ _ [23] _ _
            clear ca ch cs E9 vb ab cb sb tb at1 ct1 nz1 nz2
            replace HA := Lib.hid (blk_call HA.out hb8)
            replace HR := Lib.hid (blk_call HR.out hb8)
            replace HS := Lib.hid (blk_call HS.out hb8)
            replace HU := Lib.hid (blk_call HU.out hb8)
            replace HB := Lib.hid (blk_call HB.out hb8)
            replace B := Lib.hid (belT B.out hb8)
            clear hb8
            have ce := blk_cell HB.out 8 _ rfl
            have fe := blk_fz HB.out 8
            refine tail_one rfl rfl rfl rfl rfl (by intro c e; cases e) ?_
            go_simp
            simp only [wpOpsIn]
            clear ce fe
            replace HA := Lib.hid (blk_other (j := 8) HA.out (fun e => lHAbb.out e.symm) (.int .i64 m2))
            replace HR := Lib.hid (blk_other (j := 8) HR.out (fun e => lHRbb.out e.symm) (.int .i64 m2))
            replace HS := Lib.hid (blk_other (j := 8) HS.out (fun e => lHSbb.out e.symm) (.int .i64 m2))
            replace HU := Lib.hid (blk_other (j := 8) HU.out (fun e => lHUbb.out e.symm) (.int .i64 m2))
            replace HB : Hid ((w8.setCell ⟨bb, 8, none⟩ (.int .i64 m2)).heap[bb]? = some (.cells #[.int .i64 X, .int .i64 Y, .int .i64 n0, .int .i64 n1, .int .i64 n2, .int .i64 W, .int .i64 m0, .int .i64 m1, .int .i64 m2, .int .i64 p0, .int .i64 p1, .int .i64 h2] 27 (0, 0))) := Lib.hid (blk_set (j := 8) HB.out (.int .i64 m2))
            replace B := Lib.hid (belS (p := ⟨bb, 8, none⟩) B.out nbb (.int .i64 m2))
            generalize (w8.setCell ⟨bb, 8, none⟩ (.int .i64 m2)) = Wa2 at *
            have vb : -17 ≤ l2 ∧ l2 ≤ h2 ∧ h2 ≤ 18 := by have := VR.out; omega
            have ab : l2 ≤ m2 ∧ m2 ≤ h2 := A2.out.2
            have cb : m2 ≤ p2 ∧ p2 ≤ h2 := C2.out.2
            have sb := hs2
            have tb := ht2
            have at1 := A2.out.1
            have ct1 := C2.out.1
            have nz1 : h2 - l2 + 1 ≠ 0 := by omega
            have nz2 : h2 - m2 + 1 ≠ 0 := by omega
            go_upto_region 10 with fail
            have ca := blk_cell HB.out 8 _ rfl
            have ch := blk_cell HA.out 11 _ rfl
            have cs := blk_cell HU.out 2 _ rfl
            have E9 := EP2
            obtain ⟨sp, hsp⟩ : ∃ sp : ToldS, sp = [none, none, none, none, none, none, none, none, none, none, none, none, none, none, none, none, none, none, none, none, none, none, none, none, none, none, none, none, none, none, none, none, none, none, none, none, none, none, none, none, none, none, none, none, none, none, none, none, none, none, none, none, none, none, some (eqS (.int .i64 2)), some (eqS (.int .i64 2)), some (eqS (.pointer (some ⟨bb, 6, none⟩))), some (eqS (.pointer (some ⟨bb, 8, none⟩))), some (eqS (.int .i64 m2)), some (eqS (.int .i64 2)), some (eqS (.pointer (some ⟨bu, 2, none⟩))), some (eqS (.int .u8 t2)), some (eqS (.int .i64 t2)), some (eqS (.int .i64 2)), some (eqS (.pointer (some ⟨ba, 9, none⟩))), some (eqS (.pointer (some ⟨ba, 11, none⟩))), some (eqS (.int .i64 h2)), some (eqS (.int .i64 2)), some (eqS (.pointer (some ⟨bb, 6, none⟩))), some (eqS (.pointer (some ⟨bb, 8, none⟩))), some (eqS (.int .i64 m2)), some (eqS (.int .i64 (h2 - m2))), some (eqS (.int .i64 (h2 - m2 + 1))), some (eqS (.int .i64 (t2.tmod (h2 - m2 + 1)))), some (eqS (.int .i64 p2)), some (eqS (.pointer (some ⟨bb, 9, none⟩))), some (eqS (.pointer (some ⟨bb, 11, none⟩)))] := ⟨_, rfl⟩
            have s54 : sp.getD 54 none = some (eqS (.int .i64 2)) := by rw [hsp]; rfl
            have s55 : sp.getD 55 none = some (eqS (.int .i64 2)) := by rw [hsp]; rfl
            have s56 : sp.getD 56 none = some (eqS (.pointer (some ⟨bb, 6, none⟩))) := by rw [hsp]; rfl
            have s57 : sp.getD 57 none = some (eqS (.pointer (some ⟨bb, 8, none⟩))) := by rw [hsp]; rfl
            have s58 : sp.getD 58 none = some (eqS (.int .i64 m2)) := by rw [hsp]; rfl
            have s59 : sp.getD 59 none = some (eqS (.int .i64 2)) := by rw [hsp]; rfl
            have s60 : sp.getD 60 none = some (eqS (.pointer (some ⟨bu, 2, none⟩))) := by rw [hsp]; rfl
            have s61 : sp.getD 61 none = some (eqS (.int .u8 t2)) := by rw [hsp]; rfl
            have s62 : sp.getD 62 none = some (eqS (.int .i64 t2)) := by rw [hsp]; rfl
            have s63 : sp.getD 63 none = some (eqS (.int .i64 2)) := by rw [hsp]; rfl
            have s64 : sp.getD 64 none = some (eqS (.pointer (some ⟨ba, 9, none⟩))) := by rw [hsp]; rfl
            have s65 : sp.getD 65 none = some (eqS (.pointer (some ⟨ba, 11, none⟩))) := by rw [hsp]; rfl
            have s66 : sp.getD 66 none = some (eqS (.int .i64 h2)) := by rw [hsp]; rfl
            have s67 : sp.getD 67 none = some (eqS (.int .i64 2)) := by rw [hsp]; rfl
            have s68 : sp.getD 68 none = some (eqS (.pointer (some ⟨bb, 6, none⟩))) := by rw [hsp]; rfl
            have s69 : sp.getD 69 none = some (eqS (.pointer (some ⟨bb, 8, none⟩))) := by rw [hsp]; rfl
            have s70 : sp.getD 70 none = some (eqS (.int .i64 m2)) := by rw [hsp]; rfl
            have s71 : sp.getD 71 none = some (eqS (.int .i64 (h2 - m2))) := by rw [hsp]; rfl
            have s72 : sp.getD 72 none = some (eqS (.int .i64 (h2 - m2 + 1))) := by rw [hsp]; rfl
            have s73 : sp.getD 73 none = some (eqS (.int .i64 (t2.tmod (h2 - m2 + 1)))) := by rw [hsp]; rfl
            have s74 : sp.getD 74 none = some (eqS (.int .i64 p2)) := by rw [hsp]; rfl
            have s75 : sp.getD 75 none = some (eqS (.pointer (some ⟨bb, 9, none⟩))) := by rw [hsp]; rfl
            have s76 : sp.getD 76 none = some (eqS (.pointer (some ⟨bb, 11, none⟩))) := by rw [hsp]; rfl
            clear hsp
            refine (wpIn_wide (n := 0)).1 (region_headR (RtS sp) (rtS_keep sp) 23 rfl rfl rfl (by kernel_rfl) (by decide) (by kernel_rfl) (by kernel_rfl) (by kernel_rfl) ?_ ?_)
            · intro Q'; show ObsR _ _ _ _ _ _ _ _ (List.take _ _); simp only [List.take_succ_cons, List.take_zero]
              refine obsR_cons ?_ ?_
              · intro T wx K hB hF hD hK
                have g12 : T[12]? = some (.int .i64 2) := hF 12 (freeM_of (by kernel_rfl))
                refine ob_yes (wanted_none rfl) ?_
                clear hF hD
                go_simp
                exact hK _ _ (Below.refl _ _) (rt_eqS s54)
              refine obsR_cons ?_ ?_
              · intro T wx K hB hF hD hK
                have g12 : T[12]? = some (.int .i64 2) := hF 12 (freeM_of (by kernel_rfl))
                refine ob_yes (wanted_none rfl) ?_
                clear hF hD
                go_simp
                exact hK _ _ (Below.refl _ _) (rt_eqS s55)
              refine obsR_cons ?_ ?_
              · intro T wx K hB hF hD hK
                have g11 : T[11]? = some (.pointer (some ⟨bb, 0, none⟩)) := hF 11 (freeM_of (by kernel_rfl))
                refine ob_yes (wanted_none rfl) ?_
                clear hF hD
                go_simp
                exact hK _ _ (Below.refl _ _) (rt_eqS s56)
              refine obsR_cons ?_ ?_
              · intro T wx K hB hF hD hK
                have g56 := get_eqS (hD 2 56 (by simp [Region.binds]) (by kernel_rfl)) s56
                have g55 := get_eqS (hD 1 55 (by simp [Region.binds]) (by kernel_rfl)) s55
                refine ob_yes (wanted_none rfl) ?_
                clear hF hD
                go_simp
                exact hK _ _ (Below.refl _ _) (rt_eqS s57)
              refine obsR_cons ?_ ?_
              · intro T wx K hB hF hD hK
                have g57 := get_eqS (hD 3 57 (by simp [Region.binds]) (by kernel_rfl)) s57
                refine ob_yes (wanted_none rfl) ?_
                clear hF hD
                have j9 := (hB.cell (World.block_lt_of_cell? _ _ ca)).trans ca
                go_simp
                exact hK _ _ (Below.refl _ _) (rt_eqS s58)
              refine obsR_cons ?_ ?_
              · intro T wx K hB hF hD hK
                have g12 : T[12]? = some (.int .i64 2) := hF 12 (freeM_of (by kernel_rfl))
                refine ob_yes (wanted_none rfl) ?_
                clear hF hD
                go_simp
                exact hK _ _ (Below.refl _ _) (rt_eqS s59)
              refine obsR_cons ?_ ?_
              · intro T wx K hB hF hD hK
                have g7 : T[7]? = some (.pointer (some ⟨bu, 0, none⟩)) := hF 7 (freeM_of (by kernel_rfl))
                have g59 := get_eqS (hD 5 59 (by simp [Region.binds]) (by kernel_rfl)) s59
                refine ob_yes (wanted_none rfl) ?_
                clear hF hD
                go_simp
                exact hK _ _ (Below.refl _ _) (rt_eqS s60)
              refine obsR_cons ?_ ?_
              · intro T wx K hB hF hD hK
                have g60 := get_eqS (hD 6 60 (by simp [Region.binds]) (by kernel_rfl)) s60
                refine ob_yes (wanted_none rfl) ?_
                clear hF hD
                have j9 := (hB.cell (World.block_lt_of_cell? _ _ cs)).trans cs
                go_simp
                exact hK _ _ (Below.refl _ _) (rt_eqS s61)
              refine obsR_cons ?_ ?_
              · intro T wx K hB hF hD hK
                have g61 := get_eqS (hD 7 61 (by simp [Region.binds]) (by kernel_rfl)) s61
                refine ob_yes (wanted_none rfl) ?_
                clear hF hD
                go_simp
                first | exact hK _ _ (Below.refl _ _) (rt_eqS s62) | exact hK _ _ (Below.refl _ _) (rt_eqS' s62 (congrArg (Value.int .i64) (wrap_k _ (by omega))))
              refine obsR_cons ?_ ?_
              · intro T wx K hB hF hD hK
                have g12 : T[12]? = some (.int .i64 2) := hF 12 (freeM_of (by kernel_rfl))
                refine ob_yes (wanted_none rfl) ?_
                clear hF hD
                go_simp
                exact hK _ _ (Below.refl _ _) (rt_eqS s63)
              refine obsR_cons ?_ ?_
              · intro T wx K hB hF hD hK
                have g4 : T[4]? = some (.pointer (some ⟨ba, 0, none⟩)) := hF 4 (freeM_of (by kernel_rfl))
                refine ob_yes (wanted_none rfl) ?_
                clear hF hD
                go_simp
                exact hK _ _ (Below.refl _ _) (rt_eqS s64)
              refine obsR_cons ?_ ?_
              · intro T wx K hB hF hD hK
                have g64 := get_eqS (hD 10 64 (by simp [Region.binds]) (by kernel_rfl)) s64
                have g63 := get_eqS (hD 9 63 (by simp [Region.binds]) (by kernel_rfl)) s63
                refine ob_yes (wanted_none rfl) ?_
                clear hF hD
                go_simp
                exact hK _ _ (Below.refl _ _) (rt_eqS s65)
              refine obsR_cons ?_ ?_
              · intro T wx K hB hF hD hK
                have g65 := get_eqS (hD 11 65 (by simp [Region.binds]) (by kernel_rfl)) s65
                refine ob_yes (wanted_none rfl) ?_
                clear hF hD
                have j9 := (hB.cell (World.block_lt_of_cell? _ _ ch)).trans ch
                go_simp
                exact hK _ _ (Below.refl _ _) (rt_eqS s66)
              refine obsR_cons ?_ ?_
              · intro T wx K hB hF hD hK
                have g12 : T[12]? = some (.int .i64 2) := hF 12 (freeM_of (by kernel_rfl))
                refine ob_yes (wanted_none rfl) ?_
                clear hF hD
                go_simp
                exact hK _ _ (Below.refl _ _) (rt_eqS s67)
              refine obsR_cons ?_ ?_
              · intro T wx K hB hF hD hK
                have g11 : T[11]? = some (.pointer (some ⟨bb, 0, none⟩)) := hF 11 (freeM_of (by kernel_rfl))
                refine ob_yes (wanted_none rfl) ?_
                clear hF hD
                go_simp
                exact hK _ _ (Below.refl _ _) (rt_eqS s68)
              refine obsR_cons ?_ ?_
              · intro T wx K hB hF hD hK
                have g68 := get_eqS (hD 14 68 (by simp [Region.binds]) (by kernel_rfl)) s68
                have g67 := get_eqS (hD 13 67 (by simp [Region.binds]) (by kernel_rfl)) s67
                refine ob_yes (wanted_none rfl) ?_
                clear hF hD
                go_simp
                exact hK _ _ (Below.refl _ _) (rt_eqS s69)
              refine obsR_cons ?_ ?_
              · intro T wx K hB hF hD hK
                have g69 := get_eqS (hD 15 69 (by simp [Region.binds]) (by kernel_rfl)) s69
                refine ob_yes (wanted_none rfl) ?_
                clear hF hD
                have j9 := (hB.cell (World.block_lt_of_cell? _ _ ca)).trans ca
                go_simp
                exact hK _ _ (Below.refl _ _) (rt_eqS s70)
              refine obsR_cons ?_ ?_
              · intro T wx K hB hF hD hK
                have g66 := get_eqS (hD 12 66 (by simp [Region.binds]) (by kernel_rfl)) s66
                have g70 := get_eqS (hD 16 70 (by simp [Region.binds]) (by kernel_rfl)) s70
                refine ob_yes (wanted_none rfl) ?_
                clear hF hD
                go_simp
                first | exact hK _ _ (Below.refl _ _) (rt_eqS s71) | exact hK _ _ (Below.refl _ _) (rt_eqS' s71 (congrArg (Value.int .i64) (wrap_k _ (by omega))))
              refine obsR_cons ?_ ?_
              · intro T wx K hB hF hD hK
                have g71 := get_eqS (hD 17 71 (by simp [Region.binds]) (by kernel_rfl)) s71
                refine ob_yes (wanted_none rfl) ?_
                clear hF hD
                go_simp
                first | exact hK _ _ (Below.refl _ _) (rt_eqS s72) | exact hK _ _ (Below.refl _ _) (rt_eqS' s72 (congrArg (Value.int .i64) (wrap_k _ (by omega))))
              refine obsR_cons ?_ ?_
              · intro T wx K hB hF hD hK
                have g62 := get_eqS (hD 8 62 (by simp [Region.binds]) (by kernel_rfl)) s62
                have g72 := get_eqS (hD 18 72 (by simp [Region.binds]) (by kernel_rfl)) s72
                refine ob_yes (wanted_none rfl) ?_
                clear hF hD
                go_simp
                first | exact hK _ _ (Below.refl _ _) (rt_eqS s73) | exact hK _ _ (Below.refl _ _) (rt_eqS' s73 (congrArg (Value.int .i64) (by simp; omega)))
              refine obsR_cons ?_ ?_
              · intro T wx K hB hF hD hK
                have g58 := get_eqS (hD 4 58 (by simp [Region.binds]) (by kernel_rfl)) s58
                have g73 := get_eqS (hD 19 73 (by simp [Region.binds]) (by kernel_rfl)) s73
                refine ob_yes (wanted_none rfl) ?_
                clear hF hD
                have e9 := (Int.tmod_eq_emod_of_nonneg (b := h2 - m2 + 1) (show 0 ≤ t2 by omega))
                go_simp
                first | exact hK _ _ (Below.refl _ _) (rt_eqS s74) | exact hK _ _ (Below.refl _ _) (rt_eqS' s74 (congrArg (Value.int .i64) ((wrap_k _ (by rw [E9.out]; omega)).trans E9.out)))
              refine obsR_cons ?_ ?_
              · intro T wx K hB hF hD hK
                have g11 : T[11]? = some (.pointer (some ⟨bb, 0, none⟩)) := hF 11 (freeM_of (by kernel_rfl))
                refine ob_yes (wanted_none rfl) ?_
                clear hF hD
                go_simp
                exact hK _ _ (Below.refl _ _) (rt_eqS s75)
              refine obsR_cons ?_ ?_
              · intro T wx K hB hF hD hK
                have g75 := get_eqS (hD 21 75 (by simp [Region.binds]) (by kernel_rfl)) s75
                have g54 := get_eqS (hD 0 54 (by simp [Region.binds]) (by kernel_rfl)) s54
                refine ob_yes (wanted_none rfl) ?_
                clear hF hD
                go_simp
                exact hK _ _ (Below.refl _ _) (rt_eqS s76)
              exact obsR_nil
            · intro T9 w8 hb8 hF hs hD
              have g54 := get_eqS (hD 0 54 (by decide) (by kernel_rfl)) s54
              have g55 := get_eqS (hD 1 55 (by decide) (by kernel_rfl)) s55
              have g56 := get_eqS (hD 2 56 (by decide) (by kernel_rfl)) s56
              have g57 := get_eqS (hD 3 57 (by decide) (by kernel_rfl)) s57
              have g58 := get_eqS (hD 4 58 (by decide) (by kernel_rfl)) s58
              have g59 := get_eqS (hD 5 59 (by decide) (by kernel_rfl)) s59
              have g60 := get_eqS (hD 6 60 (by decide) (by kernel_rfl)) s60
              have g61 := get_eqS (hD 7 61 (by decide) (by kernel_rfl)) s61
              have g62 := get_eqS (hD 8 62 (by decide) (by kernel_rfl)) s62
              have g63 := get_eqS (hD 9 63 (by decide) (by kernel_rfl)) s63
              have g64 := get_eqS (hD 10 64 (by decide) (by kernel_rfl)) s64
              have g65 := get_eqS (hD 11 65 (by decide) (by kernel_rfl)) s65
              have g66 := get_eqS (hD 12 66 (by decide) (by kernel_rfl)) s66
              have g67 := get_eqS (hD 13 67 (by decide) (by kernel_rfl)) s67
              have g68 := get_eqS (hD 14 68 (by decide) (by kernel_rfl)) s68
              have g69 := get_eqS (hD 15 69 (by decide) (by kernel_rfl)) s69
              have g70 := get_eqS (hD 16 70 (by decide) (by kernel_rfl)) s70
              have g71 := get_eqS (hD 17 71 (by decide) (by kernel_rfl)) s71
              have g72 := get_eqS (hD 18 72 (by decide) (by kernel_rfl)) s72
              have g73 := get_eqS (hD 19 73 (by decide) (by kernel_rfl)) s73
              have g74 := get_eqS (hD 20 74 (by decide) (by kernel_rfl)) s74
              have g75 := get_eqS (hD 21 75 (by decide) (by kernel_rfl)) s75
              have g76 := get_eqS (hD 22 76 (by decide) (by kernel_rfl)) s76
              have hT9 := conc [(54, .int .i64 2), (55, .int .i64 2), (56, .pointer (some ⟨bb, 6, none⟩)), (57, .pointer (some ⟨bb, 8, none⟩)), (58, .int .i64 m2), (59, .int .i64 2), (60, .pointer (some ⟨bu, 2, none⟩)), (61, .int .u8 t2), (62, .int .i64 t2), (63, .int .i64 2), (64, .pointer (some ⟨ba, 9, none⟩)), (65, .pointer (some ⟨ba, 11, none⟩)), (66, .int .i64 h2), (67, .int .i64 2), (68, .pointer (some ⟨bb, 6, none⟩)), (69, .pointer (some ⟨bb, 8, none⟩)), (70, .int .i64 m2), (71, .int .i64 (h2 - m2)), (72, .int .i64 (h2 - m2 + 1)), (73, .int .i64 (t2.tmod (h2 - m2 + 1))), (74, .int .i64 p2), (75, .pointer (some ⟨bb, 9, none⟩)), (76, .pointer (some ⟨bb, 11, none⟩))] hs hF (by simp only [List.forall_mem_cons]; exact ⟨g54, g55, g56, g57, g58, g59, g60, g61, g62, g63, g64, g65, g66, g67, g68, g69, g70, g71, g72, g73, g74, g75, g76, fun p hp => absurd hp List.not_mem_nil⟩) (by kernel_rfl)
              simp only [List.foldl, List.setIfInBounds_toArray, List.set_cons_succ, List.set_cons_zero] at hT9
              subst hT9
              clear hF hD hs g54 g55 g56 g57 g58 g59 g60 g61 g62 g63 g64 g65 g66 g67 g68 g69 g70 g71 g72 g73 g74 g75 g76 s54 s55 s56 s57 s58 s59 s60 s61 s62 s63 s64 s65 s66 s67 s68 s69 s70 s71 s72 s73 s74 s75 s76
              show wpOpsIn _ _ _ _ _ [23] _ _
              clear ca ch cs E9 vb ab cb sb tb at1 ct1 nz1 nz2
              replace HA := Lib.hid (blk_call HA.out hb8)
              replace HR := Lib.hid (blk_call HR.out hb8)
              replace HS := Lib.hid (blk_call HS.out hb8)
              replace HU := Lib.hid (blk_call HU.out hb8)
              replace HB := Lib.hid (blk_call HB.out hb8)
              replace B := Lib.hid (belT B.out hb8)
              clear hb8
              have ce := blk_cell HB.out 11 _ rfl
              have fe := blk_fz HB.out 11
              refine tail_one rfl rfl rfl rfl rfl (by intro c e; cases e) ?_
              go_simp
              simp only [wpOpsIn]
              clear ce fe
              replace HA := Lib.hid (blk_other (j := 11) HA.out (fun e => lHAbb.out e.symm) (.int .i64 p2))
              replace HR := Lib.hid (blk_other (j := 11) HR.out (fun e => lHRbb.out e.symm) (.int .i64 p2))
              replace HS := Lib.hid (blk_other (j := 11) HS.out (fun e => lHSbb.out e.symm) (.int .i64 p2))
              replace HU := Lib.hid (blk_other (j := 11) HU.out (fun e => lHUbb.out e.symm) (.int .i64 p2))
              replace HB : Hid ((w8.setCell ⟨bb, 11, none⟩ (.int .i64 p2)).heap[bb]? = some (.cells #[.int .i64 X, .int .i64 Y, .int .i64 n0, .int .i64 n1, .int .i64 n2, .int .i64 W, .int .i64 m0, .int .i64 m1, .int .i64 m2, .int .i64 p0, .int .i64 p1, .int .i64 p2] 27 (0, 0))) := Lib.hid (blk_set (j := 11) HB.out (.int .i64 p2))
              replace B := Lib.hid (belS (p := ⟨bb, 11, none⟩) B.out nbb (.int .i64 p2))
              generalize (w8.setCell ⟨bb, 11, none⟩ (.int .i64 p2)) = Wb2 at *
              go_wp2_with fail
              rw [rounds_succ]
              go_upto_region 11 with fail
              clear nbb
              have V2 : Hid (armB X Y n0 n1 n2 W m0 m1 m2 p0 p1 p2 = true) := Lib.hid (by have v := VR.out; have a0 := A0.out.2; have a1 := A1.out.2; have a2 := A2.out.2; have c0 := C0.out.2; have c1 := C1.out.2; have c2 := C2.out.2; refine (armB_iff X Y n0 n1 n2 W m0 m1 m2 p0 p1 p2).2 ?_; omega)
              have VR := Lib.hid ((armB_iff X Y n0 n1 n2 W l0 l1 l2 h0 h1 h2).1 V.out)
              have JB0 := Lib.hid (jq_bd (l := l0) (h := h0) (by have := VR.out; omega) hr0.1)
              obtain ⟨q0, hq0⟩ : ∃ q, jq l0 h0 r0 = q := ⟨_, rfl⟩
              rw [hq0] at JB0
              have k0 : -1000 ≤ q0 ∧ q0 ≤ 1000 := by have := VR.out; have := JB0.out; omega
              replace hq0 := Lib.hid hq0
              have JB1 := Lib.hid (jq_bd (l := l1) (h := h1) (by have := VR.out; omega) hr1.1)
              obtain ⟨q1, hq1⟩ : ∃ q, jq l1 h1 r1 = q := ⟨_, rfl⟩
              rw [hq1] at JB1
              have k1 : -1000 ≤ q1 ∧ q1 ≤ 1000 := by have := VR.out; have := JB1.out; omega
              replace hq1 := Lib.hid hq1
              have JB2 := Lib.hid (jq_bd (l := l2) (h := h2) (by have := VR.out; omega) hr2.1)
              obtain ⟨q2, hq2⟩ : ∃ q, jq l2 h2 r2 = q := ⟨_, rfl⟩
              rw [hq2] at JB2
              have k2 : -1000 ≤ q2 ∧ q2 ≤ 1000 := by have := VR.out; have := JB2.out; omega
              replace hq2 := Lib.hid hq2
              have JQ : Hid (∀ w : World, Calls Tryd.prog 17 #[.agg #[.int .i64 X, .int .i64 Y, .int .i64 n0, .int .i64 n1, .int .i64 n2, .int .i64 W, .int .i64 l0, .int .i64 l1, .int .i64 l2, .int .i64 h0, .int .i64 h1, .int .i64 h2], .agg #[.int .u8 r0, .int .u8 r1, .int .u8 r2]] w fun e w' => e = .returned (.agg #[.int .i64 q0, .int .i64 q1, .int .i64 q2]) ∧ Below w.heap.size w w') := Lib.hid (fun w => by rw [← hq0.out, ← hq1.out, ← hq2.out]; exact joint_is X Y n0 n1 n2 W l0 l1 l2 h0 h1 h2 r0 r1 r2 w V hr0 hr1 hr2)
              obtain ⟨x1, x2, x3, y1, y2, y3, u1, u2, u3, v1, v2, v3, a1, a2, a3, b1, b2, b3, PP⟩ := pose_ex X Y n0 n1 n2 q0 q1 q2
              replace PP := Lib.hid PP
              have D1 := Lib.hid (vd_one q0 x1 y1 (Lib.hid PP.out.e1))
              have D2 := Lib.hid (vd_two (x1, y1) q1 x2 y2 1 2 D1.out (by omega) rfl (Lib.hid PP.out.e2))
              have D3 := Lib.hid (vd_two (x2, y2) q2 x3 y3 2 3 D2.out (by omega) rfl (Lib.hid PP.out.e3))
              have PB := Lib.hid (show (-439400000 ≤ a3 ∧ a3 ≤ 439400000) ∧ -439400000 ≤ b3 ∧ b3 ≤ 439400000 by have := pose_bd PP.out V.out; have := VR.out; omega)
              have PB0 := PB.out.1
              have PB1 := PB.out.2
              obtain ⟨L, hL⟩ : ∃ L, solL X Y n0 n1 n2 l0 l1 l2 h0 h1 h2 a3 b3 x3 y3 = L := ⟨_, rfl⟩
              obtain ⟨N, hN⟩ : ∃ N, L.length = N := ⟨_, rfl⟩
              have LB := Lib.hid (show L.length ≤ 36 by rw [← hL]; exact solL_36 (by have := VR.out; omega) (by have := VR.out; omega) (by have := VR.out; omega) (by have := VR.out; omega))
              have HL := Lib.hid hL
              have HN := Lib.hid hN
              clear hL hN
              have TW := Lib.hid (Tab.below TT.out B.out)
              refine (wpIn_wide (n := 0)).1 (region_tip [78, 79, 80, 81, 82, 77, 83, 84, 13, 14] [(0, 78), (1, 79), (2, 80), (3, 81), (4, 82), (5, 77), (6, 83), (7, 84)] (fun t => match t with | 78 => .agg #[.int .i64 X, .int .i64 Y, .int .i64 n0, .int .i64 n1, .int .i64 n2, .int .i64 W, .int .i64 l0, .int .i64 l1, .int .i64 l2, .int .i64 h0, .int .i64 h1, .int .i64 h2] | 79 => .agg #[.int .i64 X, .int .i64 Y, .int .i64 n0, .int .i64 n1, .int .i64 n2, .int .i64 W, .int .i64 l0, .int .i64 l1, .int .i64 l2, .int .i64 h0, .int .i64 h1, .int .i64 h2] | 80 => .agg #[.int .u8 r0, .int .u8 r1, .int .u8 r2] | 81 => .agg #[.int .i64 q0, .int .i64 q1, .int .i64 q2] | 82 => .tuple #[.agg #[.int .i64 a3, .int .i64 b3], .agg #[.int .i64 x3, .int .i64 y3, .int .i64 3]] | 77 => .tuple #[.agg #[.int .i64 a3, .int .i64 b3], .agg #[.int .i64 x3, .int .i64 y3, .int .i64 3]] | 83 => .agg #[.int .i64 a3, .int .i64 b3] | 84 => .agg #[.int .i64 x3, .int .i64 y3, .int .i64 3] | _ => undef) 13 14 8 9 10 11 #[.int .i64 0, .int .i64 0] #[.int .i64 a3, .int .i64 b3] #[.int .i64 0, .int .i64 0, .int .i64 0] #[.int .i64 x3, .int .i64 y3, .int .i64 3] 23 29 rfl rfl rfl (by kernel_rfl) (by kernel_rfl) (by kernel_rfl) (by kernel_rfl) (by kernel_rfl) ?_ ?_)
              · intro s T w i o K ho hs hpre hJ hK
                have hi := (Array.getElem?_eq_some_iff.1 ho).1
                have hi' : i = 0 ∨ i = 1 ∨ i = 2 ∨ i = 3 ∨ i = 4 ∨ i = 5 ∨ i = 6 ∨ i = 7 ∨ i = 8 ∨ i = 9 ∨ i = 10 ∨ i = 11 := by simp at hi; omega
                clear hi
                rcases hi' with rfl | rfl | rfl | rfl | rfl | rfl | rfl | rfl | rfl | rfl | rfl | rfl
                · obtain rfl := Option.some.inj ho
                  have g : T[4]? = some (.pointer (some ⟨ba, 0, none⟩)) := hJ.frame 4 (by decide)
                  exact wp_load_row 27 (.tmp 4) rfl _ (eval_tmp g) _ _ _ _ (blk_call HA.out hJ.bel) Tryd.underlying27 rfl (by kernel_rfl) (hK _ _ (hJ.pure (i := 0) (q := 78) (by decide) (by decide) (by decide) (by simp) (by decide) hJ.bel.size (Below.refl _ _)))
                · obtain rfl := Option.some.inj ho
                  have g : T[4]? = some (.pointer (some ⟨ba, 0, none⟩)) := hJ.frame 4 (by decide)
                  exact wp_load_row 27 (.tmp 4) rfl _ (eval_tmp g) _ _ _ _ (blk_call HA.out hJ.bel) Tryd.underlying27 rfl (by kernel_rfl) (hK _ _ (hJ.pure (i := 1) (q := 79) (by decide) (by decide) (by decide) (by simp) (by decide) hJ.bel.size (Below.refl _ _)))
                · obtain rfl := Option.some.inj ho
                  have g : T[5]? = some (.pointer (some ⟨br, 0, none⟩)) := hJ.frame 5 (by decide)
                  exact wp_load_row 30 (.tmp 5) rfl _ (eval_tmp g) _ _ _ _ (blk_call HR.out hJ.bel) Tryd.underlying30 rfl (by kernel_rfl) (hK _ _ (hJ.pure (i := 2) (q := 80) (by decide) (by decide) (by decide) (by simp) (by decide) hJ.bel.size (Below.refl _ _)))
                · obtain rfl := Option.some.inj ho
                  have g79 := hJ.told (1, 79) (by decide) (hpre 1 (by simp [Region.binds]))
                  have g80 := hJ.told (2, 80) (by decide) (hpre 2 (by simp [Region.binds]))
                  go_simp
                  refine (JQ.out _).mono ?_; rintro e w9 ⟨rfl, hb⟩
                  exact hK _ _ (hJ.pure (i := 3) (q := 81) (by decide) (by decide) (by decide) (by simp) (by decide) hJ.bel.size (hb))
                · obtain rfl := Option.some.inj ho
                  have g78 := hJ.told (0, 78) (by decide) (hpre 0 (by simp [Region.binds]))
                  have g81 := hJ.told (3, 81) (by decide) (hpre 3 (by simp [Region.binds]))
                  go_simp
                  refine (tip_is X Y n0 n1 n2 W l0 l1 l2 h0 h1 h2 q0 q1 q2 x1 x2 x3 y1 y2 y3 u1 u2 u3 v1 v2 v3 a1 a2 a3 b1 b2 b3 _ (Tab.below TW.out hJ.bel) k0 k1 k2 V PP).mono ?_; rintro e w9 ⟨rfl, hb⟩
                  exact hK _ _ (hJ.pure (i := 4) (q := 82) (by decide) (by decide) (by decide) (by simp) (by decide) hJ.bel.size (hb))
                · obtain rfl := Option.some.inj ho
                  have g82 := hJ.told (4, 82) (by decide) (hpre 4 (by simp [Region.binds]))
                  go_simp
                  exact hK _ _ (hJ.pure (i := 5) (q := 77) (by decide) (by decide) (by decide) (by simp) (by decide) hJ.bel.size (Below.refl _ _))
                · obtain rfl := Option.some.inj ho
                  have g77 := hJ.told (5, 77) (by decide) (hpre 5 (by simp [Region.binds]))
                  go_simp
                  exact hK _ _ (hJ.pure (i := 6) (q := 83) (by decide) (by decide) (by decide) (by simp) (by decide) hJ.bel.size (Below.refl _ _))
                · obtain rfl := Option.some.inj ho
                  have g77 := hJ.told (5, 77) (by decide) (hpre 5 (by simp [Region.binds]))
                  go_simp
                  exact hK _ _ (hJ.pure (i := 7) (q := 84) (by decide) (by decide) (by decide) (by simp) (by decide) hJ.bel.size (Below.refl _ _))
                · obtain rfl := Option.some.inj ho
                  go_simp
                  exact hK _ _ (hJ.allocP hs (by decide) (by decide) (by simp) (by decide) hJ.bel.size)
                · obtain rfl := Option.some.inj ho
                  go_simp
                  exact hK _ _ (hJ.swap.allocP hs (by decide) (by decide) (by simp) (by decide) hJ.bel.size).swap
                · obtain rfl := Option.some.inj ho
                  obtain ⟨b, hb, hnb, hh⟩ := hJ.fp (hpre 8 (by simp [Region.binds]))
                  rw [if_neg (by rw [hs]; decide)] at hh
                  have g83 := hJ.told (6, 83) (by decide) (hpre 6 (by simp [Region.binds]))
                  exact wp_store_row 23 (.tmp 13) (.tmp 83) rfl b #[.int .i64 a3, .int .i64 b3] (eval_tmp hb) (eval_tmp g83) _ _ hh (by kernel_rfl) rfl (by kernel_rfl) (hK _ _ (hJ.storeP (by decide) (by decide) (hpre 8 (by simp [Region.binds])) hb hnb hh))
                · obtain rfl := Option.some.inj ho
                  obtain ⟨b, hb, hnb, hh⟩ := hJ.fd (hpre 9 (by simp [Region.binds]))
                  rw [if_neg (by rw [hs]; decide)] at hh
                  have g84 := hJ.told (7, 84) (by decide) (hpre 7 (by simp [Region.binds]))
                  exact wp_store_row 29 (.tmp 14) (.tmp 84) rfl b #[.int .i64 x3, .int .i64 y3, .int .i64 3] (eval_tmp hb) (eval_tmp g84) _ _ hh (by kernel_rfl) rfl (by kernel_rfl) (hK _ _ (hJ.swap.storeP (by decide) (by decide) (hpre 9 (by simp [Region.binds])) hb hnb hh).swap)
              · intro s T W9 hall hJ hfr
                have g78 := hJ.told (0, 78) (by decide) (hall 0 (by decide))
                have g79 := hJ.told (1, 79) (by decide) (hall 1 (by decide))
                have g80 := hJ.told (2, 80) (by decide) (hall 2 (by decide))
                have g81 := hJ.told (3, 81) (by decide) (hall 3 (by decide))
                have g82 := hJ.told (4, 82) (by decide) (hall 4 (by decide))
                have g77 := hJ.told (5, 77) (by decide) (hall 5 (by decide))
                have g83 := hJ.told (6, 83) (by decide) (hall 6 (by decide))
                have g84 := hJ.told (7, 84) (by decide) (hall 7 (by decide))
                obtain ⟨bp, g13, np, hp⟩ := hJ.fp (hall 8 (by decide))
                rw [if_pos (hall 10 (by decide))] at hp
                obtain ⟨bv, g14, nv, hv⟩ := hJ.fd (hall 9 (by decide))
                rw [if_pos (hall 11 (by decide))] at hv
                have hne := hJ.ne (hall 8 (by decide)) (hall 9 (by decide))
                rw [g13, g14] at hne
                have hT9 := conc [(78, .agg #[.int .i64 X, .int .i64 Y, .int .i64 n0, .int .i64 n1, .int .i64 n2, .int .i64 W, .int .i64 l0, .int .i64 l1, .int .i64 l2, .int .i64 h0, .int .i64 h1, .int .i64 h2]), (79, .agg #[.int .i64 X, .int .i64 Y, .int .i64 n0, .int .i64 n1, .int .i64 n2, .int .i64 W, .int .i64 l0, .int .i64 l1, .int .i64 l2, .int .i64 h0, .int .i64 h1, .int .i64 h2]), (80, .agg #[.int .u8 r0, .int .u8 r1, .int .u8 r2]), (81, .agg #[.int .i64 q0, .int .i64 q1, .int .i64 q2]), (82, .tuple #[.agg #[.int .i64 a3, .int .i64 b3], .agg #[.int .i64 x3, .int .i64 y3, .int .i64 3]]), (77, .tuple #[.agg #[.int .i64 a3, .int .i64 b3], .agg #[.int .i64 x3, .int .i64 y3, .int .i64 3]]), (83, .agg #[.int .i64 a3, .int .i64 b3]), (84, .agg #[.int .i64 x3, .int .i64 y3, .int .i64 3]), (13, .pointer (some ⟨bp, 0, none⟩)), (14, .pointer (some ⟨bv, 0, none⟩))] hJ.size hfr (by simp only [List.forall_mem_cons]; exact ⟨g78, g79, g80, g81, g82, g77, g83, g84, g13, g14, fun p hp => absurd hp List.not_mem_nil⟩) (by kernel_rfl)
                simp only [List.foldl, List.setIfInBounds_toArray, List.set_cons_succ, List.set_cons_zero] at hT9
                subst hT9
                have hb8 := hJ.bel
                clear hJ hall hfr g78 g79 g80 g81 g82 g77 g83 g84 g13 g14
                have Hp := Lib.hid hp
                have Hv := Lib.hid hv
                clear hp hv TW
                replace HA := Lib.hid (blk_call HA.out hb8)
                replace HR := Lib.hid (blk_call HR.out hb8)
                replace HS := Lib.hid (blk_call HS.out hb8)
                replace HU := Lib.hid (blk_call HU.out hb8)
                replace HB := Lib.hid (blk_call HB.out hb8)
                replace B := Lib.hid (belT B.out hb8)
                clear hb8
                have TW := Lib.hid (Tab.below TT.out B.out)
                have TH := Lib.hid (show (-1000000000 ≤ a3 ∧ a3 ≤ 1000000000) ∧ -1000000000 ≤ b3 ∧ b3 ≤ 1000000000 by have := PB.out; omega)
                have c0 := blk_cell HA.out 0 _ rfl
                have c1 := blk_cell HA.out 1 _ rfl
                have c2 := blk_cell HA.out 2 _ rfl
                have c3 := blk_cell HA.out 3 _ rfl
                have c4 := blk_cell HA.out 4 _ rfl
                have c5 := blk_cell HA.out 5 _ rfl
                have c6 := blk_cell HA.out 6 _ rfl
                have c7 := blk_cell HA.out 7 _ rfl
                have c8 := blk_cell HA.out 8 _ rfl
                have c9 := blk_cell HA.out 9 _ rfl
                have c10 := blk_cell HA.out 10 _ rfl
                have c11 := blk_cell HA.out 11 _ rfl
                have p_0 := blk_cell Hp.out 0 _ rfl
                have p_1 := blk_cell Hp.out 1 _ rfl
                have v_0 := blk_cell Hv.out 0 _ rfl
                have v_1 := blk_cell Hv.out 1 _ rfl
                have v_2 := blk_cell Hv.out 2 _ rfl
                go_upto_region 13 with (go_at_call 14; refine (solve_any X Y n0 n1 n2 W l0 l1 l2 h0 h1 h2 a3 b3 x3 y3 _ TW.out V D3 TH L N HL HN).mono ?_; rintro e Ws ⟨⟨ao, sc, rfl, hrow⟩, hb⟩)
                clear c0 c1 c2 c3 c4 c5 c6 c7 c8 c9 c10 c11
                clear p_0 p_1
                clear v_0 v_1 v_2
                clear TW
                have ROW := Lib.hid hrow
                clear hrow
                replace HA := Lib.hid (blk_call HA.out hb)
                replace HR := Lib.hid (blk_call HR.out hb)
                replace HS := Lib.hid (blk_call HS.out hb)
                replace HU := Lib.hid (blk_call HU.out hb)
                replace HB := Lib.hid (blk_call HB.out hb)
                replace Hp := Lib.hid (blk_call Hp.out hb)
                replace Hv := Lib.hid (blk_call Hv.out hb)
                replace B := Lib.hid (belT B.out hb)
                clear hb
                have NAR : Hid (solL X Y n0 n1 n2 m0 m1 m2 p0 p1 p2 a3 b3 x3 y3 = L.filter (fL m0 m1 m2 p0 p1 p2)) := Lib.hid (by rw [← HL.out]; refine solL_narrow _ (fL_iff m0 m1 m2 p0 p1 p2) (fun q hq => ?_); have a0 := A0.out.2; have a1 := A1.out.2; have a2 := A2.out.2; have c0 := C0.out.2; have c1 := C1.out.2; have c2 := C2.out.2; unfold In3 at hq ⊢; omega)
                have NB36 : N ≤ 36 := by rw [← HN.out]; exact LB.out
                have FB : Hid (∀ j, ((L.take j).filter (fL m0 m1 m2 p0 p1 p2)).length ≤ 36) := Lib.hid (fun j => by have h1 := List.length_filter_le (fL m0 m1 m2 p0 p1 p2) (L.take j); have h2 := List.length_take_le' j L; have := LB.out; omega)
                go_wp2_with fail
                go_loopw [17, 16] (fun i u wr => ∃ j : Nat, j ≤ N ∧ i = .int .i64 j ∧ (∃ v, u = v ∧ wr.ownsRow Ws.heap.size 25 3 v ((L.take j).filter (fL m0 m1 m2 p0 p1 p2)).length (flat3 ((L.take j).filter (fL m0 m1 m2 p0 p1 p2)))) ∧ Hid (Below Ws.heap.size Ws wr)) (fun i _ _ => N - (intOf i).toNat)
                case atStart => exact ⟨0, Nat.zero_le _, rfl, ⟨_, rfl, by simp only [List.take_zero, List.filter_nil, List.length_nil, flat3]; exact World.ownsRow_nil _ _ _ _⟩, Lib.hid (Below.refl _ _)⟩
                case round =>
                  obtain ⟨j, hj, rfl, ⟨v, rfl, hrow⟩, HBel⟩ := hrel
                  have HR2 := Lib.hid hrow
                  clear hrow
                  have B0 := B
                  clear B
                  have B := Lib.hid (belT B0.out HBel.out)
                  have HAr := Lib.hid (blk_call HA.out HBel.out)
                  have HRr := Lib.hid (blk_call HR.out HBel.out)
                  have HSr := Lib.hid (blk_call HS.out HBel.out)
                  have HUr := Lib.hid (blk_call HU.out HBel.out)
                  have HBr := Lib.hid (blk_call HB.out HBel.out)
                  have Hpr := Lib.hid (blk_call Hp.out HBel.out)
                  have Hvr := Lib.hid (blk_call Hv.out HBel.out)
                  have ROWr := Lib.hid (prow3_below ROW.out HBel.out)
                  by_cases hlt : j < N
                  rotate_left
                  · have hlt' : ¬ (j : Int) < N := by omega
                    have EN : Hid (((L.take j).filter (fL m0 m1 m2 p0 p1 p2)) = L.filter (fL m0 m1 m2 p0 p1 p2)) := Lib.hid (by rw [List.take_of_length_le (by rw [HN.out]; omega)])
                    have HR3 := HR2.out
                    rw [EN.out] at HR3
                    obtain ⟨K, hK⟩ : ∃ K, L.filter (fL m0 m1 m2 p0 p1 p2) = K := ⟨_, rfl⟩
                    rw [hK] at HR3
                    have HK := Lib.hid (NAR.out.trans hK)
                    clear hK EN HR2
                    obtain ⟨ao2, cap2, rfl, hml, hp2⟩ := prow3_own HR3
                    have HP2 := Lib.hid hp2
                    clear HR3 hp2
                    have KB : Hid (K.length ≤ 36) := Lib.hid (by have h := HK.out; have e := NAR.out.symm.trans h; rw [← e]; have h1 := List.length_filter_le (fL m0 m1 m2 p0 p1 p2) L; have := LB.out; omega)
                    obtain ⟨M, hM⟩ : ∃ M, K.length = M := ⟨_, rfl⟩
                    rw [hM] at hml ⊢
                    have HM := Lib.hid hM
                    clear hM
                    have TW := Lib.hid (Tab.below TT.out B.out)
                    have lbb := blk_lt HBr.out
                    have lbp := blk_lt Hpr.out
                    have lbv := blk_lt Hvr.out
                    have c0 := blk_cell HBr.out 0 _ rfl
                    have c1 := blk_cell HBr.out 1 _ rfl
                    have c2 := blk_cell HBr.out 2 _ rfl
                    have c3 := blk_cell HBr.out 3 _ rfl
                    have c4 := blk_cell HBr.out 4 _ rfl
                    have c5 := blk_cell HBr.out 5 _ rfl
                    have c6 := blk_cell HBr.out 6 _ rfl
                    have c7 := blk_cell HBr.out 7 _ rfl
                    have c8 := blk_cell HBr.out 8 _ rfl
                    have c9 := blk_cell HBr.out 9 _ rfl
                    have c10 := blk_cell HBr.out 10 _ rfl
                    have c11 := blk_cell HBr.out 11 _ rfl
                    have p_0 := blk_cell Hpr.out 0 _ rfl
                    have p_1 := blk_cell Hpr.out 1 _ rfl
                    have v_0 := blk_cell Hvr.out 0 _ rfl
                    have v_1 := blk_cell Hvr.out 1 _ rfl
                    have v_2 := blk_cell Hvr.out 2 _ rfl
                    go_upto_region 21 with (first | (go_at_call 14; refine (solve_any X Y n0 n1 n2 W m0 m1 m2 p0 p1 p2 a3 b3 x3 y3 _ TW.out V2 D3 TH K M HK HM).mono ?_; rintro e We ⟨⟨bo, kc, rfl, hrow⟩, hb⟩; have ROK := Lib.hid hrow; have HPe := Lib.hid (prow3_below HP2.out hb); have Be := Lib.hid (belT B.out hb); clear hrow hb) | (go_at_call 13; refine (same3_is bo ao2 M M kc cap2 K K true _ HM.out HM.out (Lib.hid (decide_eq_true rfl)) (by have := KB.out; omega) (by have := KB.out; omega) ROK.out HPe.out).mono ?_; rintro e Wf ⟨rfl, hb⟩; have Bf := Lib.hid (belT Be.out hb); clear hb))
                    go_wp2_with fail
                    go_ret
                    exact ⟨rfl, Bf.out⟩
                  have hLj : j < L.length := by rw [HN.out]; exact hlt
                  obtain ⟨b', o', eao, c1, c2, c3⟩ := ROWr.out j hLj
                  have hji : (j : Int) < N := by omega
                  have FY : Hid (fL m0 m1 m2 p0 p1 p2 (L.getD j j0) = true → ((L.take (j + 1)).filter (fL m0 m1 m2 p0 p1 p2)) = ((L.take j).filter (fL m0 m1 m2 p0 p1 p2)) ++ [L.getD j j0]) := Lib.hid (fun h => filt_yes hLj h)
                  have FN' : Hid (fL m0 m1 m2 p0 p1 p2 (L.getD j j0) = false → ((L.take (j + 1)).filter (fL m0 m1 m2 p0 p1 p2)) = ((L.take j).filter (fL m0 m1 m2 p0 p1 p2))) := Lib.hid (fun h => filt_no hLj h)
                  obtain ⟨eq, heq⟩ : ∃ e, L.getD j j0 = e := ⟨_, rfl⟩
                  rw [heq] at c1 c2 c3 FY FN'
                  clear heq
                  obtain ⟨x, y, z⟩ := eq
                  subst eao
                  obtain ⟨t, ht⟩ : ∃ t, fitB m0 m1 m2 p0 p1 p2 x y z = t := ⟨_, rfl⟩
                  have HT2 := Lib.hid ht
                  have HF2 : Hid (fL m0 m1 m2 p0 p1 p2 (x, y, z) = t) := Lib.hid ht
                  clear ht
                  go_upto_region 17 with fail
                  obtain ⟨sp, hsp⟩ : ∃ sp : ToldS, sp = [none, none, none, none, none, none, none, none, none, none, none, none, none, none, none, none, none, none, some (eqS (.bool t)), none, none, none, none, none, none, none, none, none, none, none, none, none, none, none, none, none, none, none, none, none, none, none, none, none, none, none, none, none, none, none, none, none, none, none, none, none, none, none, none, none, none, none, none, none, none, none, none, none, none, none, none, none, none, none, none, none, none, none, none, none, none, none, none, none, none, none, none, none, none, none, none, none, none, none, none, some (eqS (.agg #[.int .i64 X, .int .i64 Y, .int .i64 n0, .int .i64 n1, .int .i64 n2, .int .i64 W, .int .i64 m0, .int .i64 m1, .int .i64 m2, .int .i64 p0, .int .i64 p1, .int .i64 p2])), some (eqS (.slice (some ⟨b', o', none⟩) N sc)), some (eqS (.int .i64 j)), some (eqS (.pointer (some ⟨b', o' + j * 3, none⟩))), some (eqS (.agg #[.int .i64 x, .int .i64 y, .int .i64 z])), some (eqS (.bool t))] := ⟨_, rfl⟩
                  have s18 : sp.getD 18 none = some (eqS (.bool t)) := by rw [hsp]; rfl
                  have s95 : sp.getD 95 none = some (eqS (.agg #[.int .i64 X, .int .i64 Y, .int .i64 n0, .int .i64 n1, .int .i64 n2, .int .i64 W, .int .i64 m0, .int .i64 m1, .int .i64 m2, .int .i64 p0, .int .i64 p1, .int .i64 p2])) := by rw [hsp]; rfl
                  have s96 : sp.getD 96 none = some (eqS (.slice (some ⟨b', o', none⟩) N sc)) := by rw [hsp]; rfl
                  have s97 : sp.getD 97 none = some (eqS (.int .i64 j)) := by rw [hsp]; rfl
                  have s98 : sp.getD 98 none = some (eqS (.pointer (some ⟨b', o' + j * 3, none⟩))) := by rw [hsp]; rfl
                  have s99 : sp.getD 99 none = some (eqS (.agg #[.int .i64 x, .int .i64 y, .int .i64 z])) := by rw [hsp]; rfl
                  have s100 : sp.getD 100 none = some (eqS (.bool t)) := by rw [hsp]; rfl
                  clear hsp
                  refine (wpIn_wide (n := 0)).1 (region_allR (RtS sp) (rtS_keep sp) rfl rfl rfl (by kernel_rfl) (by kernel_rfl) (by kernel_rfl) ?_ ?_)
                  · intro Q'
                    refine obsR_cons ?_ ?_
                    · intro T wx K hB hF hD hK
                      have g11 : T[11]? = some (.pointer (some ⟨bb, 0, none⟩)) := hF 11 (freeM_of (by kernel_rfl))
                      refine ob_yes (wanted_none rfl) ?_
                      clear hF hD
                      exact wp_load_row 27 (.tmp 11) rfl _ (eval_tmp g11) _ _ _ _ (blk_call HBr.out hB) Tryd.underlying27 rfl (by kernel_rfl) (hK _ _ (Below.refl _ _) (rt_eqS s95))
                    refine obsR_cons ?_ ?_
                    · intro T wx K hB hF hD hK
                      have g15 : T[15]? = some (.slice (some ⟨b', o', none⟩) N sc) := hF 15 (freeM_of (by kernel_rfl))
                      refine ob_yes (wanted_none rfl) ?_
                      clear hF hD
                      go_simp
                      exact hK _ _ (Below.refl _ _) (rt_eqS s96)
                    refine obsR_cons ?_ ?_
                    · intro T wx K hB hF hD hK
                      have g17 : T[17]? = some (.int .i64 j) := hF 17 (freeM_of (by kernel_rfl))
                      refine ob_yes (wanted_none rfl) ?_
                      clear hF hD
                      go_simp
                      exact hK _ _ (Below.refl _ _) (rt_eqS s97)
                    refine obsR_cons ?_ ?_
                    · intro T wx K hB hF hD hK
                      have g96 := get_eqS (hD 1 96 (by simp [Region.binds]) (by kernel_rfl)) s96
                      have g97 := get_eqS (hD 2 97 (by simp [Region.binds]) (by kernel_rfl)) s97
                      refine ob_yes (wanted_none rfl) ?_
                      clear hF hD
                      go_simp
                      exact hK _ _ (Below.refl _ _) (rt_eqS s98)
                    refine obsR_cons ?_ ?_
                    · intro T wx K hB hF hD hK
                      have g98 := get_eqS (hD 3 98 (by simp [Region.binds]) (by kernel_rfl)) s98
                      refine ob_yes (wanted_none rfl) ?_
                      clear hF hD
                      have jc1 := (hB.cell (World.block_lt_of_cell? _ _ c1)).trans c1
                      have jc2 := (hB.cell (World.block_lt_of_cell? _ _ c2)).trans c2
                      have jc3 := (hB.cell (World.block_lt_of_cell? _ _ c3)).trans c3
                      go_simp
                      exact hK _ _ (Below.refl _ _) (rt_eqS s99)
                    refine obsR_cons ?_ ?_
                    · intro T wx K hB hF hD hK
                      have g95 := get_eqS (hD 0 95 (by simp [Region.binds]) (by kernel_rfl)) s95
                      have g99 := get_eqS (hD 4 99 (by simp [Region.binds]) (by kernel_rfl)) s99
                      refine ob_yes (wanted_none rfl) ?_
                      clear hF hD
                      go_simp
                      refine (fits7_is X Y n0 n1 n2 W m0 m1 m2 p0 p1 p2 x y z t _ HT2).mono ?_; rintro e w9 ⟨rfl, hb⟩
                      exact hK _ _ hb (rt_eqS s100)
                    refine obsR_cons ?_ ?_
                    · intro T wx K hB hF hD hK
                      have g100 := get_eqS (hD 5 100 (by simp [Region.binds]) (by kernel_rfl)) s100
                      refine ob_yes (wanted_none rfl) ?_
                      clear hF hD
                      go_simp
                      exact hK _ _ (Below.refl _ _) (rt_eqS s18)
                    exact obsR_nil
                  · intro Tx Wx hb8 hF hs hD
                    have g95 := get_eqS (hD 0 95 (by decide) (by kernel_rfl)) s95
                    have g96 := get_eqS (hD 1 96 (by decide) (by kernel_rfl)) s96
                    have g97 := get_eqS (hD 2 97 (by decide) (by kernel_rfl)) s97
                    have g98 := get_eqS (hD 3 98 (by decide) (by kernel_rfl)) s98
                    have g99 := get_eqS (hD 4 99 (by decide) (by kernel_rfl)) s99
                    have g100 := get_eqS (hD 5 100 (by decide) (by kernel_rfl)) s100
                    have g18 := get_eqS (hD 6 18 (by decide) (by kernel_rfl)) s18
                    have hT9 := conc [(95, .agg #[.int .i64 X, .int .i64 Y, .int .i64 n0, .int .i64 n1, .int .i64 n2, .int .i64 W, .int .i64 m0, .int .i64 m1, .int .i64 m2, .int .i64 p0, .int .i64 p1, .int .i64 p2]), (96, .slice (some ⟨b', o', none⟩) N sc), (97, .int .i64 j), (98, .pointer (some ⟨b', o' + j * 3, none⟩)), (99, .agg #[.int .i64 x, .int .i64 y, .int .i64 z]), (100, .bool t), (18, .bool t)] hs hF (by simp only [List.forall_mem_cons]; exact ⟨g95, g96, g97, g98, g99, g100, g18, fun p hp => absurd hp List.not_mem_nil⟩) (by kernel_rfl)
                    simp only [List.foldl, List.setIfInBounds_toArray, List.set_cons_succ, List.set_cons_zero] at hT9
                    subst hT9
                    clear hF hD hs g95 g96 g97 g98 g99 g100 g18 s18 s95 s96 s97 s98 s99 s100
                    have R1 := Lib.hid (rowK HR2.out hb8)
                    have B1 := Lib.hid (belT HBel.out hb8)
                    replace c1 := (hb8.cell (World.block_lt_of_cell? _ _ c1)).trans c1
                    replace c2 := (hb8.cell (World.block_lt_of_cell? _ _ c2)).trans c2
                    replace c3 := (hb8.cell (World.block_lt_of_cell? _ _ c3)).trans c3
                    clear hb8 HR2 HBel
                    cases t
                    · have EQ := Lib.hid (FN'.out HF2.out)
                      go_wp2_with fail
                      exact ⟨⟨j + 1, by omega, by go_num, ⟨_, rfl, by rw [EQ.out]; exact R1.out⟩, B1⟩, by simp [intOf]; omega⟩
                    skip
                    · have EQ := Lib.hid (FY.out HF2.out)
                      have hl := FB.out j
                      obtain ⟨LL, hLL⟩ : ∃ LL, ((L.take j).filter (fL m0 m1 m2 p0 p1 p2)) = LL := ⟨_, rfl⟩
                      rw [hLL] at R1 hl EQ
                      clear hLL FB FY FN'
                      have mlen : maxLen = 9223372036854775807 := rfl
                      obtain ⟨i0, hi, hz0, hz1', hz2'⟩ := info_parts infoJ
                      go_wp2_with (at_builtin; refine wpList_append_own _ rfl _ _ 31 rfl Ws.heap.size 25 i0 (.agg #[.int .i64 0, .int .i64 0, .int .i64 0]) 3 24 Tryd.underlying31 hi hz0 hz1' hz2' rfl (by decide) _ _ _ rfl (R1.out.alloc _) ⟨Wx.heap.size, 0, none⟩ 1 1 [.int .i64 x, .int .i64 y, .int .i64 z] rfl rfl (cell_three_new _ _ _ _ _) (by simp [Value.oneCell']) (by omega) (by omega) (Nat.le_trans B1.out.size (by simp)) ?_; intro v' wb hown' hgrow _; obtain ⟨g', cap', rfl⟩ := ownsRow_succ hown'; have hBb := Lib.hid ((belA B1.out _).grown hgrow (Nat.le_trans B1.out.size (by simp)) (row_base R1.out)))
                      skip
                      have HO := Lib.hid (own_snoc EQ hown')
                      clear hown' hgrow hi hz0 hz1' hz2' EQ R1 B1 B B0 hl mlen c1 c2 c3
                      exact ⟨⟨_, _, ⟨j + 1, by omega, by go_num, HO.out⟩, rfl, rfl, (Int.tmod_eq_emod_of_nonneg hs2.1).symm, (Int.tmod_eq_emod_of_nonneg ht2.1).symm⟩, by simp [intOf]; omega⟩

set_option maxRecDepth 100000 in
theorem lifted (os : Os) (started : os.Started) (H : Type) (enc : TypeId × Value → H) :
    ReturnsInHanded {} Tryd.checked os 8 .any (fun w args => (Rows.invkinNarrowLimitsSpec.pre enc Tryd.prog Tryd.f8 [] false w args ∧ laidMetH Tryd.prog Rows.invkinNarrowLimitsRow.laid w) ∧ sizedMet enc Tryd.prog Tryd.f8 (OpenSpec.ofChange Rows.invkinNarrowLimitsSpec) false w args)
      (Rows.invkinNarrowLimitsSpec.post enc Tryd.prog Tryd.f8 false true false false) := by
  refine returnsInHanded_of_change_and (C := Tryd.checked) (X := fun w _ => laidMetH Tryd.prog Rows.invkinNarrowLimitsRow.laid w) (fun _ _ _ hh h => h.of_heap hh) own started (by kernel_rfl) Tryd.func8
    (ChangeSpec.witness_shaped (enc := enc) (C := Tryd.checked) (os := os) (X := fun w _ => laidMetH Tryd.prog Rows.invkinNarrowLimitsRow.laid w) false (World.doorLaid Tryd.prog 600 os) #[.agg #[.int .i64 0, .int .i64 0, .int .i64 0, .int .i64 0, .int .i64 0, .int .i64 0, .int .i64 0, .int .i64 0, .int .i64 0, .int .i64 0, .int .i64 0, .int .i64 0], .agg #[.int .u8 0, .int .u8 0, .int .u8 0], .agg #[.int .u8 0, .int .u8 0, .int .u8 0], .agg #[.int .u8 0, .int .u8 0, .int .u8 0]] 8 rfl (World.shaped_of_RefB (by kernel_rfl) (by kernel_rfl)) (by kernel_rfl) (by kernel_rfl) (by kernel_rfl) (show laidMetH Tryd.prog [(qn, Rows.laid_ambidexter_rotation_quadrant)] _ from door_met os _)) ?_
  intro W base args ds gs before hval0 hW _ _ hL _
  have hval : ∀ (j : Nat) t v, Tryd.f8.params[j]? = some t → args[j]? = some v → Value.okWide Tryd.prog W .any base t v := hval0
  have hW' := hW
  obtain ⟨p, q, hA0, hV, rfl, hfz, hnd⟩ := hW
  have hA : DataW.TrodAll enc Tryd.prog W 0 (fun _ => true) true Tryd.f8.params.toList args.toList ds p := hA0
  rw [Tryd.params8] at hA hval
  obtain ⟨v0, vs0, d0, ds0, p0, q0, hargs, rfl, rfl, h0, r0⟩ := trodAll_cons hA
  obtain ⟨v1, vs1, d1, ds1, p1, q1, rfl, rfl, rfl, h1, r1⟩ := trodAll_cons r0
  obtain ⟨v2, vs2, d2, ds2, p2, q2, rfl, rfl, rfl, h2, r2⟩ := trodAll_cons r1
  obtain ⟨v3, vs3, d3, ds3, p3, q3, rfl, rfl, rfl, h3, r3⟩ := trodAll_cons r2
  obtain ⟨rfl, rfl, rfl⟩ := trodAll_nil r3
  obtain rfl : args = #[v0, v1, v2, v3] := by cases args; simp_all
  obtain ⟨rfl, rfl⟩ := trodVars_none hV
  have k0 := h0
  have lt0 : ∀ x ∈ p0, x.block < W.heap.size := by obtain ⟨m, hm⟩ := k0; exact DataW.trod_lt m _ _ _ hm
  obtain ⟨c0_0, c0_1, c0_2, c0_3, c0_4, c0_5, c0_6, c0_7, c0_8, c0_9, c0_10, c0_11, rfl⟩ := AFr.open_arm (hval 0 27 v0 rfl rfl) h0
  have k1 := h1
  have lt1 : ∀ x ∈ p1, x.block < W.heap.size := by obtain ⟨m, hm⟩ := k1; exact DataW.trod_lt m _ _ _ hm
  obtain ⟨c1_0, c1_1, c1_2, rfl, b1_0, b1_1, b1_2⟩ := AFr.open_raw (hval 1 30 v1 rfl rfl) h1
  have k2 := h2
  have lt2 : ∀ x ∈ p2, x.block < W.heap.size := by obtain ⟨m, hm⟩ := k2; exact DataW.trod_lt m _ _ _ hm
  obtain ⟨c2_0, c2_1, c2_2, rfl, b2_0, b2_1, b2_2⟩ := AFr.open_raw (hval 2 30 v2 rfl rfl) h2
  have k3 := h3
  have lt3 : ∀ x ∈ p3, x.block < W.heap.size := by obtain ⟨m, hm⟩ := k3; exact DataW.trod_lt m _ _ _ hm
  obtain ⟨c3_0, c3_1, c3_2, rfl, b3_0, b3_1, b3_2⟩ := AFr.open_raw (hval 3 30 v3 rfl rfl) h3
  clear hA0 hval0
  simp only [List.append_nil] at hW'
  refine (walk c0_0 c0_1 c0_2 c0_3 c0_4 c0_5 c0_6 c0_7 c0_8 c0_9 c0_10 c0_11 c1_0 c1_1 c1_2 b1_0 b1_1 b1_2 c2_0 c2_1 c2_2 b2_0 b2_1 b2_2 c3_0 c3_1 c3_2 b3_0 b3_1 b3_2 W (tab_of_laid hL)).mono fun e W' ⟨he, bel⟩ => ?_
  subst he
  exact ⟨_, rfl, _, _, _, [], _, [], hW', trodAll_mk1 (shut_bool Tryd.underlying4 _), (trodAll_cons_mk (Below.trod HFr.laidOut (by kernel_rfl) (of_decide_eq_true (by kernel_rfl)) k0 bel lt0) (trodAll_cons_mk (Below.trod HFr.laidOut (by kernel_rfl) (of_decide_eq_true (by kernel_rfl)) k1 bel lt1) (trodAll_cons_mk (Below.trod HFr.laidOut (by kernel_rfl) (of_decide_eq_true (by kernel_rfl)) k2 bel lt2) (trodAll_cons_mk (Below.trod HFr.laidOut (by kernel_rfl) (of_decide_eq_true (by kernel_rfl)) k3 bel lt3) trodAll_mk0)))), rfl, bel.frame _, fun h => by cases h⟩

theorem holds : Rows.InvkinNarrowLimitsSaid :=
  OpenClaim.holds_of_wide 8 Tryd.f8 rfl rfl rfl rfl rfl rfl rfl ⟨rfl, rfl, rfl, rfl, rfl⟩ rfl rfl rfl rfl rfl (by kernel_rfl) Tryd.func8 (by kernel_rfl)
    (of_decide_eq_true (by kernel_rfl)) (by unfold Func.isWrapper; first | (rw [if_pos (by decide +kernel)]; kernel_rfl) | (rw [if_neg (by decide +kernel)]; exact ⟨rfl, rfl⟩))
    (fun os started H enc _ => lifted os started H enc)

/-- THE STATEMENT: the tied card. -/
theorem card_holds : Rows.InvkinNarrowLimitsCardSaid :=
  Claim7.holds_tied_plain_at .later [] [.data] true Rows.invkinNarrowLimitsCard.stood.harness false
    holds (fun _ h => by cases h) (by kernel_rfl) (fun _ h => by cases h) invkinNarrowLimits_row_tie rfl ⟨rfl, rfl⟩ (by kernel_rfl) rfl
    (fun f fn hf hfn => by
      obtain rfl : f = 8 := Option.some.inj ((show Tryd.prog.funcNamed Rows.invkinNarrowLimitsRow.func = some 8 by kernel_rfl).symm.trans hf) |>.symm
      obtain rfl : fn = Tryd.f8 := (Option.some.inj (Tryd.func8.symm.trans hfn)).symm
      exact ⟨by kernel_rfl, fun j t ht => by
        rw [Tryd.params8] at ht
        have hm : t ∈ [27, 30] := by have := Array.mem_of_getElem? ht; simp only [List.mem_toArray, List.mem_cons, List.not_mem_nil, or_false] at this ⊢; grind
        have hall : ([27, 30].all fun u => !Tryd.prog.wantsStandIn u) = true := by kernel_rfl
        exact (show Tryd.prog.wantsStandIn t = false by simpa using List.all_eq_true.1 hall t hm)⟩)
    (by kernel_rfl)
#print axioms card_holds
end Go.Proofs.YtceejjamngplkaaDoor.invkinNarrowLimits
