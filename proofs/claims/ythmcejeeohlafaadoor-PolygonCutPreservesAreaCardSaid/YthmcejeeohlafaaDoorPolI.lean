/- Contracts of package polygon: Translate, Rotate, Equal. Condition: the slice reads as the list says. -/
import Derived.Test.YthmcejeeohlafaaDoorPolH
namespace Go.Proofs.YthmcejeeohlafaaDoor
open Go.ChangeShapes Go.WideShapes Go.ChangeAt Go.RowKit
set_option linter.unusedVariables false
set_option linter.unusedSimpArgs false

def movL (ps : List (Int × Int)) (a b : Int) : List (Int × Int) := ps.map fun p => (p.1 + a, p.2 + b)
theorem movL_len (ps : List (Int × Int)) (a b : Int) : (movL ps a b).length = ps.length := by simp [movL]
theorem movL_at (ps : List (Int × Int)) (a b : Int) {i : Nat} (hi : i < ps.length) : cx (movL ps a b) i = cx ps i + a ∧ cy (movL ps a b) i = cy ps i + b := by
  unfold cx cy movL
  rw [List.getD_eq_getElem?_getD, List.getD_eq_getElem?_getD, List.getElem?_map, List.getElem?_eq_getElem hi]
  exact ⟨rfl, rfl⟩

theorem translate_is (ao : Option Addr) (n cap : Nat) (ps us : List (Int × Int)) (a b : Int) (w : World) (h0 : 0 < ps.length) (hn : ps.length = n) (hu : Hid (movL ps a b = us)) (hle : ps.length ≤ 1000000) (hP : PRow w ao ps) (hv : AllR2 ps) (ia : InR a) (ib : InR b) :
    Calls Tryd.prog 19 #[.slice ao n cap, .agg #[.int .i64 a, .int .i64 b]] w fun e w' => (∃ g' c' : Nat, e = .returned (.slice (some ⟨g', 0, none⟩) us.length c') ∧ PRow w' (some ⟨g', 0, none⟩) us) ∧ Below w.heap.size w w' := by
  subst hn
  have C := fun (u : Unit) hP hcb => trT_ok ao cap w.heap.size ps (movL ps a b) (w.alloc (.cells #[.int .i64 a, .int .i64 b] 25)) h0 (movL_len ps a b) hle hP hcb
  have D : PRow (w.alloc (.cells #[.int .i64 a, .int .i64 b] 25)) ao ps := prow_alloc hP _
  have E : Hid (∀ i, i < ps.length → ∀ W, Below (w.alloc (.cells #[.int .i64 a, .int .i64 b] 25)).heap.size (w.alloc (.cells #[.int .i64 a, .int .i64 b] 25)) W → Calls Tryd.prog 33 #[.agg #[.int .i64 (cx ps i), .int .i64 (cy ps i)], .pointer (some ⟨w.heap.size, 0, none⟩)] W fun e W' => e = .returned (.tuple #[.agg #[.int .i64 (cx (movL ps a b) i), .int .i64 (cy (movL ps a b) i)], .bool true]) ∧ Below W.heap.size W W') := Lib.hid (fun i hi W hW => by
    obtain ⟨e1, e2⟩ := movL_at ps a b hi
    rw [e1, e2]
    exact tcl_any _ _ a b _ W (cell_call (cbx _ _ _ _ 0 _ rfl rfl) hW) (cell_call (cbx _ _ _ _ 1 _ rfl rfl) hW) (hv i hi).1 (hv i hi).2 ia ib)
  have F := C () D E
  rw [hu.out] at F
  have G := Lib.hid F
  clear C D E F hu hP hv
  go_enter Tryd.func19, Tryd.ntmps19
  go_wp2_with fail
  refine G.out.mono ?_; rintro e w1 ⟨⟨a', c', rfl, hR⟩, hb⟩
  go_wp2_with fail
  go_ret
  exact ⟨⟨a', c', rfl, hR⟩, (belA (Below.refl _ _) _).trans (hb.mono (by simp))⟩

/-- us is ps turned by q, exactly. -/
def Turned (q : Int) (x y A B : Int) : Prop := x * (Rot.csF (q % 36).toNat).1 - y * (Rot.csF (q % 36).toNat).2 = 65 * A ∧ x * (Rot.csF (q % 36).toNat).2 + y * (Rot.csF (q % 36).toNat).1 = 65 * B
theorem rotate_yes (ao : Option Addr) (n cap : Nat) (ps us : List (Int × Int)) (q : Int) (w : World) (hT : Rot.Tab w) (h0 : 0 < ps.length) (hn : ps.length = n) (hlen : us.length = ps.length) (hle : ps.length ≤ 1000000) (hP : PRow w ao ps) (hv : AllR2 ps) (hq : -9223372036854775808 ≤ q ∧ q ≤ 9223372036854775807)
    (hu : ∀ i, i < ps.length → Turned q (cx ps i) (cy ps i) (cx us i) (cy us i)) (hub : ∀ i, i < ps.length → (-1000000000000 ≤ cx us i ∧ cx us i ≤ 1000000000000) ∧ -1000000000000 ≤ cy us i ∧ cy us i ≤ 1000000000000) :
    Calls Tryd.prog 22 #[.slice ao n cap, .int .i64 q] w fun e w' => (∃ g' c' : Nat, e = .returned (.tuple #[.slice (some ⟨g', 0, none⟩) us.length c', .bool true]) ∧ PRow w' (some ⟨g', 0, none⟩) us) ∧ Below w.heap.size w w' := by
  subst hn
  have E : Hid (∀ i, i < ps.length → ∀ W, Below (w.alloc (.cells #[.int .i64 q] 3)).heap.size (w.alloc (.cells #[.int .i64 q] 3)) W → Calls Tryd.prog 35 #[.agg #[.int .i64 (cx ps i), .int .i64 (cy ps i)], .pointer (some ⟨w.heap.size, 0, none⟩)] W fun e W' => e = .returned (.tuple #[.agg #[.int .i64 (cx us i), .int .i64 (cy us i)], .bool true]) ∧ Below W.heap.size W W') := Lib.hid (fun i hi W hW => rcl_ok (cx ps i) (cy ps i) q (cx us i) (cy us i) _ _ _ W ((hT.alloc _).below hW) (cell_call (cbx _ _ _ _ 0 _ rfl rfl) hW) (hv i hi).1 (hv i hi).2 hq (Lib.hid rfl) (Lib.hid rfl) (Lib.hid (hu i hi).1) (Lib.hid (hu i hi).2) (hub i hi).1 (hub i hi).2)
  have G := Lib.hid (trR_ok ao cap w.heap.size ps us (w.alloc (.cells #[.int .i64 q] 3)) h0 hlen hle (prow_alloc hP _) E)
  clear E hu hub hP hv hT hlen hq
  go_enter Tryd.func22, Tryd.ntmps22
  go_wp2_with fail
  refine G.out.mono ?_; rintro e w1 ⟨⟨a', c', rfl, hR⟩, hb⟩
  go_wp2_with fail
  go_ret2
  exact ⟨⟨a', c', rfl, hR⟩, (belA (Below.refl _ _) _).trans (hb.mono (by simp))⟩
theorem rotate_not (ao : Option Addr) (n cap : Nat) (ps us : List (Int × Int)) (q : Int) (w : World) (hT : Rot.Tab w) (hn : ps.length = n) (hlen : us.length = ps.length) (m : Nat) (hm : m < ps.length) (hle : ps.length ≤ 1000000) (hP : PRow w ao ps) (hv : AllR2 ps) (hq : -9223372036854775808 ≤ q ∧ q ≤ 9223372036854775807)
    (hu : ∀ i, i < m → Turned q (cx ps i) (cy ps i) (cx us i) (cy us i)) (hub : ∀ i, i < m → (-1000000000000 ≤ cx us i ∧ cx us i ≤ 1000000000000) ∧ -1000000000000 ≤ cy us i ∧ cy us i ≤ 1000000000000)
    (hno : ¬ ((cx ps m * (Rot.csF (q % 36).toNat).1 - cy ps m * (Rot.csF (q % 36).toNat).2) % 65 = 0 ∧ (cx ps m * (Rot.csF (q % 36).toNat).2 + cy ps m * (Rot.csF (q % 36).toNat).1) % 65 = 0)) :
    Calls Tryd.prog 22 #[.slice ao n cap, .int .i64 q] w fun e w' => e = .returned (.tuple #[.slice none 0 0, .bool false]) ∧ Below w.heap.size w w' := by
  subst hn
  have E : Hid (∀ i, i < m → ∀ W, Below (w.alloc (.cells #[.int .i64 q] 3)).heap.size (w.alloc (.cells #[.int .i64 q] 3)) W → Calls Tryd.prog 35 #[.agg #[.int .i64 (cx ps i), .int .i64 (cy ps i)], .pointer (some ⟨w.heap.size, 0, none⟩)] W fun e W' => e = .returned (.tuple #[.agg #[.int .i64 (cx us i), .int .i64 (cy us i)], .bool true]) ∧ Below W.heap.size W W') := Lib.hid (fun i hi W hW => rcl_ok (cx ps i) (cy ps i) q (cx us i) (cy us i) _ _ _ W ((hT.alloc _).below hW) (cell_call (cbx _ _ _ _ 0 _ rfl rfl) hW) (hv i (by omega)).1 (hv i (by omega)).2 hq (Lib.hid rfl) (Lib.hid rfl) (Lib.hid (hu i hi).1) (Lib.hid (hu i hi).2) (hub i hi).1 (hub i hi).2)
  have E2 : Hid (∀ W, Below (w.alloc (.cells #[.int .i64 q] 3)).heap.size (w.alloc (.cells #[.int .i64 q] 3)) W → Calls Tryd.prog 35 #[.agg #[.int .i64 (cx ps m), .int .i64 (cy ps m)], .pointer (some ⟨w.heap.size, 0, none⟩)] W fun e W' => e = .returned (.tuple #[.agg #[.int .i64 0, .int .i64 0], .bool false]) ∧ Below W.heap.size W W') := Lib.hid (fun W hW => rcl_no (cx ps m) (cy ps m) q _ _ _ W ((hT.alloc _).below hW) (cell_call (cbx _ _ _ _ 0 _ rfl rfl) hW) (hv m hm).1 (hv m hm).2 hq (Lib.hid rfl) (Lib.hid rfl) hno)
  have G := Lib.hid (trR_no ao cap w.heap.size ps us (w.alloc (.cells #[.int .i64 q] 3)) (by omega) hlen m hm hle (prow_alloc hP _) E E2)
  clear E E2 hu hub hP hv hT hlen hq hno hm
  go_enter Tryd.func22, Tryd.ntmps22
  go_wp2_with fail
  refine G.out.mono ?_; rintro e w1 ⟨rfl, hb⟩
  go_wp2_with fail
  go_ret2
  exact ⟨rfl, (belA (Below.refl _ _) _).trans (hb.mono (by simp))⟩

def eqTo (l m : List (Int × Int)) (k : Nat) : Prop := ∀ i, i < k → cx l i = cx m i ∧ cy l i = cy m i
theorem eq_of_to {l m : List (Int × Int)} (hl : l.length = m.length) (h : eqTo l m l.length) : l = m := by
  refine List.ext_getElem hl fun i h1 h2 => ?_
  obtain ⟨a, b⟩ := h i h1
  unfold cx at a
  unfold cy at b
  rw [List.getD_eq_getElem?_getD, List.getD_eq_getElem?_getD, List.getElem?_eq_getElem h1, List.getElem?_eq_getElem h2] at a b
  exact Prod.ext a b
set_option maxHeartbeats 2000000 in
theorem sequal_any (ao bo : Option Addr) (ca cb : Nat) (l m : List (Int × Int)) (w : World) (hl : l.length ≤ 9223372036854775807) (hm : m.length ≤ 9223372036854775807) (hP : PRow w ao l) (hQ : PRow w bo m) :
    Calls Tryd.prog 34 #[.slice ao l.length ca, .slice bo m.length cb] w fun e w' => e = .returned (.bool (decide (l = m))) ∧ Below w.heap.size w w' := by
  by_cases hlm : l.length = m.length
  · have hne : (((l.length : Int) != (m.length : Int))) = false := by rw [hlm]; simp
    go_enter Tryd.func34, Tryd.ntmps34
    go_wp2
    go_loopw [13] (fun i wr => ∃ k : Nat, k ≤ l.length ∧ i = .int .i64 k ∧ Hid (eqTo l m k) ∧ Below w.heap.size w wr) (fun i _ => l.length - (intOf i).toNat)
    case atStart => exact ⟨0, Nat.zero_le _, rfl, Lib.hid (fun i hi => by omega), Below.refl _ _⟩
    case round =>
      obtain ⟨k, hk, rfl, hE, hB⟩ := hrel
      by_cases hlt : k < l.length
      · obtain ⟨b, o, rfl, c1, c2⟩ := prow_at hP hlt
        obtain ⟨b', o', rfl, c3, c4⟩ := prow_at hQ (hlm ▸ hlt)
        have d1 := (hB.cell (World.block_lt_of_cell? w _ c1)).trans c1
        have d2 := (hB.cell (World.block_lt_of_cell? w _ c2)).trans c2
        have d3 := (hB.cell (World.block_lt_of_cell? w _ c3)).trans c3
        have d4 := (hB.cell (World.block_lt_of_cell? w _ c4)).trans c4
        have hki : (k : Int) < l.length := by omega
        have hki2 : (k : Int) < m.length := by omega
        clear c1 c2 c3 c4
        have HEK := Lib.hid (fun (h1 : cx l k = cx m k) (h2 : cy l k = cy m k) => (fun i hi => by
          by_cases e : i = k
          · subst e; exact ⟨h1, h2⟩
          · exact hE.out i (by omega) : eqTo l m (k + 1)))
        have HNE := Lib.hid (fun (h : ¬ (cx l k = cx m k ∧ cy l k = cy m k)) => (fun e => h (by rw [e]; exact ⟨rfl, rfl⟩) : ¬ l = m))
        generalize cx l k = x at *
        generalize cy l k = y at *
        generalize cx m k = x' at *
        generalize cy m k = y' at *
        go_upto_region 6 with fail
        by_cases hx : x = x'
        · subst hx
          by_cases hy : y = y'
          · subst hy
            go_region
            all_goals
              go_wp2
              exact ⟨⟨k + 1, by omega, by go_num, Lib.hid (HEK.out rfl rfl), hB.drew⟩, by simp [intOf]; omega⟩
          · have HN := Lib.hid (HNE.out (fun h => hy h.2))
            go_region
            all_goals
              go_wp2
              go_ret
              exact ⟨ret_bool (decide_eq_false HN.out).symm, hB.drew⟩
        · have HN := Lib.hid (HNE.out (fun h => hx h.1))
          go_region
          all_goals
            go_wp2
            go_ret
            exact ⟨ret_bool (decide_eq_false HN.out).symm, hB.drew⟩
      · have HE : Hid (decide (l = m) = true) := Lib.hid (decide_eq_true (eq_of_to hlm (fun i hi => hE.out i (by omega))))
        clear hE
        go_wp2
        go_ret
        exact ⟨ret_bool HE.out.symm, hB⟩
  · have hne : (((l.length : Int) != (m.length : Int))) = true := by rw [bne_iff_ne]; omega
    have HE : Hid (decide (l = m) = false) := Lib.hid (decide_eq_false (fun e => hlm (by rw [e])))
    go_enter Tryd.func34, Tryd.ntmps34
    go_wp2
    go_ret
    exact ⟨ret_bool HE.out.symm, Below.refl _ _⟩
theorem equal_is (ao bo : Option Addr) (n n' ca cb : Nat) (l m : List (Int × Int)) (t : Bool) (w : World) (hn : l.length = n) (hn' : m.length = n') (ht : Hid (decide (l = m) = t)) (hl : l.length ≤ 9223372036854775807) (hm : m.length ≤ 9223372036854775807) (hP : PRow w ao l) (hQ : PRow w bo m) :
    Calls Tryd.prog 21 #[.slice ao n ca, .slice bo n' cb] w fun e w' => e = .returned (.bool t) ∧ Below w.heap.size w w' := by
  subst hn hn'
  have C := sequal_any ao bo ca cb l m w hl hm hP hQ
  rw [ht.out] at C
  have G := Lib.hid C
  clear C ht hP hQ
  go_enter Tryd.func21, Tryd.ntmps21
  go_wp2_with fail
  refine G.out.mono ?_; rintro e w1 ⟨rfl, hb⟩
  go_wp2_with fail
  go_ret
  exact ⟨rfl, hb⟩
end Go.Proofs.YthmcejeeohlafaaDoor
