/- Helpers: what the law reaches. -/
import Derived.Test.YtalhkcmlacppjaaGreatDoorZlHlE
namespace Go.Proofs.YtalhkcmlacppjaaGreatDoor
open Go.ChangeShapes Go.WideShapes Go.ChangeAt Go.RowKit
set_option linter.unusedVariables false
set_option linter.unusedSimpArgs false

theorem push_any (base Bs : Nat) (p1 p2 : Int) (st us : List (Int × Int)) (v : Value) (w : World) (hb0 : base ≤ Bs) (hle : st.length ≤ 1000000) (hV : AllV st) (hp1 : InV p1) (hp2 : InV p2) (hu : Hid (us = (pushS st.reverse (p1, p2)).reverse))
    (hS : Boxed w Bs 29 v) (hO : w.ownsRow base 23 2 v st.length (flat st)) :
    Calls Tryz.prog 87 #[.agg #[.int .i64 p1, .int .i64 p2], .pointer (some ⟨Bs, 0, none⟩)] w fun e w' => e = .returned (.tuple #[]) ∧ (∃ v', Boxed w' Bs 29 v' ∧ w'.ownsRow base 23 2 v' us.length (flat us) ∧ v' ≠ .slice none 0 0) ∧ Below base w w' := by
  rcases hO.2 with ⟨rfl, h0⟩ | ⟨g, cap, cur, rfl, k1, k2, k3, k4, k5, k6⟩
  · have e : st = [] := List.length_eq_zero_iff.1 h0
    subst e
    have eu : us = [(p1, p2)] := by rw [hu.out]; rfl
    subst eu
    exact push_nil base Bs p1 p2 w hb0 hS
  · exact push_some base Bs g cap p1 p2 st us w hb0 hle hV hp1 hp2 hu hS hO k3 k4
theorem pop_sub (p : Int × Int) : ∀ st : List (Int × Int), popS p st <:+ st
  | [] => List.suffix_refl _
  | [x] => List.suffix_refl _
  | t :: s :: r => by
    show (if dt s t p ≤ 0 then popS p (s :: r) else t :: s :: r) <:+ _
    split
    · exact (pop_sub p (s :: r)).trans (List.suffix_cons _ _)
    · exact List.suffix_refl _
theorem chain_snoc (l : List (Int × Int)) (p : Int × Int) : chainS (l ++ [p]) = pushS (chainS l) p := by unfold chainS; rw [List.foldl_append]; rfl
theorem chain_mem : ∀ (l : List (Int × Int)), (chainS l).length ≤ l.length ∧ ∀ x ∈ chainS l, x ∈ l := fun l => by
  have key : ∀ (l st : List (Int × Int)), (l.foldl pushS st).length ≤ st.length + l.length ∧ ∀ x ∈ l.foldl pushS st, x ∈ st ∨ x ∈ l := fun l => by
    induction l with
    | nil => intro st; exact ⟨by simp, fun x hx => .inl hx⟩
    | cons p l ih =>
      intro st
      obtain ⟨h1, h2⟩ := ih (pushS st p)
      have hs := pop_sub p st
      have hl := hs.length_le
      refine ⟨?_, fun x hx => ?_⟩
      · rw [List.foldl_cons]
        simp only [pushS, List.length_cons] at h1 ⊢
        omega
      · rcases h2 x hx with h | h
        · rcases List.mem_cons.1 h with h | h
          · right; rw [h]; simp
          · exact .inl (hs.subset h)
        · right; simp [h]
  obtain ⟨h1, h2⟩ := key l []
  exact ⟨by simp only [List.length_nil, Nat.zero_add] at h1; exact h1, fun x hx => by rcases h2 x hx with h | h; cases h; exact h⟩
theorem allV_iff (l : List (Int × Int)) : AllV l ↔ ∀ q ∈ l, InV q.1 ∧ InV q.2 := by
  constructor
  · intro h q hq
    obtain ⟨i, hi, e⟩ := mem_gp hq
    rw [← e]; exact h i hi
  · intro h i hi
    exact h _ (gp_mem hi)
/-- The stack of the program over the points of l: the bottom first. -/
def stkL (l : List (Int × Int)) : List (Int × Int) := (chainS l).reverse
theorem stk_len (l : List (Int × Int)) : (stkL l).length ≤ l.length := by unfold stkL; rw [List.length_reverse]; exact (chain_mem l).1
theorem stk_allV {l : List (Int × Int)} (h : AllV l) : AllV (stkL l) := (allV_iff _).2 fun q hq => (allV_iff l).1 h q ((chain_mem l).2 q (List.mem_reverse.1 hq))
theorem stk_snoc (l : List (Int × Int)) (p : Int × Int) : stkL (l ++ [p]) = (pushS (stkL l).reverse p).reverse := by unfold stkL; rw [chain_snoc, List.reverse_reverse]
theorem half_stk (l : List (Int × Int)) : halfL l = (stkL l).take ((stkL l).length - 1) := by
  unfold halfL stkL
  rw [List.length_reverse]
  cases h : chainS l with
  | nil => rfl
  | cons a r =>
    rw [List.tail_cons, List.reverse_cons, List.length_cons, Nat.add_sub_cancel, List.take_append_of_le_length (by simp), List.take_of_length_le (by simp)]

theorem stk_nil {l : List (Int × Int)} (h : stkL l = []) : l = [] := by
  rcases List.eq_nil_or_concat l with e | ⟨m, p, e⟩
  · exact e
  · rw [e, List.concat_eq_append, stk_snoc] at h
    have := congrArg List.length h
    unfold pushS at this
    simp at this

set_option maxRecDepth 100000 in
set_option maxHeartbeats 4000000 in
theorem half_is (ao : Option Addr) (n cap : Nat) (ps us : List (Int × Int)) (w : World) (hn : ps.length = n) (hu : Hid (halfL ps = us)) (hle : n ≤ 1000000) (hP : PRow w ao ps) (hV : AllV ps) :
    Calls Tryz.prog 48 #[.slice ao n cap] w fun e w' => (∃ v, e = .returned v ∧ w'.ownsRow w.heap.size 23 2 v us.length (flat us) ∧ ((ps = [] ∧ v = .slice none 0 0) ∨ (ps ≠ [] ∧ ∃ g c, v = .slice (some ⟨g, 0, none⟩) us.length c))) ∧ Below w.heap.size w w' := by
  subst hn
  have HP := Lib.hid hP
  have HV := Lib.hid hV
  clear hP hV
  go_enter Tryz.func48, Tryz.ntmps48
  go_wp2
  go_loopw [10] (fun s wr => ∃ k : Nat, k ≤ ps.length ∧ s = .int .i64 k ∧ (∃ v, Boxed wr w.heap.size 29 v ∧ wr.ownsRow w.heap.size 23 2 v (stkL (ps.take k)).length (flat (stkL (ps.take k))) ∧ (k = 0 → v = .slice none 0 0)) ∧ Below w.heap.size w wr) (fun s _ => ps.length - (intOf s).toNat)
  case atStart => exact ⟨0, Nat.zero_le _, rfl, ⟨_, Boxed.new _ _ _, ⟨rfl, .inl ⟨rfl, rfl⟩⟩, fun _ => rfl⟩, belA (Below.refl _ _) _⟩
  case round =>
    obtain ⟨k, hk, rfl, ⟨v, hS, hO, hk0⟩, hB⟩ := hrel
    have HK0 := Lib.hid hk0
    clear hk0
    have hlk : (stkL (ps.take k)).length ≤ 1000000 := Nat.le_trans (stk_len _) (by rw [List.length_take]; omega)
    by_cases hlt : k < ps.length
    · obtain ⟨b, o, rfl, c1, c2⟩ := prow_at HP.out hlt
      have V1 := HV.out k hlt
      have ET := Lib.hid (take_gp ps k hlt)
      generalize cx ps k = a1 at *
      generalize cy ps k = a2 at *
      have d1 := (hB.cell (World.block_lt_of_cell? w _ c1)).trans c1
      have d2 := (hB.cell (World.block_lt_of_cell? w _ c2)).trans c2
      have VS : AllV (stkL (ps.take k)) := stk_allV ((allV_iff _).2 fun q hq => (allV_iff ps).1 HV.out q (List.mem_of_mem_take hq))
      have hkl : (k : Int) < ps.length := by omega
      have C := Lib.hid (fun W (h1 : Boxed W w.heap.size 29 v) (h2 : W.ownsRow w.heap.size 23 2 v (stkL (ps.take k)).length (flat (stkL (ps.take k)))) => push_any w.heap.size w.heap.size a1 a2 (stkL (ps.take k)) (stkL (ps.take (k + 1))) v W (Nat.le_refl _) hlk VS V1.1 V1.2 (Lib.hid (by rw [ET.out, stk_snoc])) h1 h2)
      have HS1 := Lib.hid (hS.alloc (.cells #[.int .i64 a1, .int .i64 a2] 23))
      have HO1 := Lib.hid (hO.alloc (.cells #[.int .i64 a1, .int .i64 a2] 23))
      have HB1 := Lib.hid (belA hB (.cells #[.int .i64 a1, .int .i64 a2] 23))
      clear c1 c2 VS V1 hS hO
      go_wp2_with fail
      refine (C.out _ HS1.out HO1.out).mono ?_
      rintro e w2 ⟨rfl, ⟨v2, hS2, hO2, _⟩, hb2⟩
      go_wp2
      go_roundw
      case rel => exact ⟨k + 1, by omega, by go_num, ⟨v2, hS2, hO2, fun h => absurd h (Nat.succ_ne_zero k)⟩, HB1.out.trans hb2⟩
      case measure => simp [intOf]; omega
    · have HPS := Lib.hid (show ps = [] → v = .slice none 0 0 from fun h => HK0.out (by subst h; simp at hk; exact hk))
      have E := Lib.hid (List.take_of_length_le (show ps.length ≤ k by omega))
      have hkl : ¬ (k : Int) < ps.length := by omega
      have HB := Lib.hid hB
      have cS := hS.cell
      rw [E.out] at hO hlk
      have EU : Hid (us = (stkL ps).take ((stkL ps).length - 1)) := Lib.hid (by rw [← hu.out, half_stk])
      have HNIL := Lib.hid (fun h : stkL ps = [] => stk_nil h)
      generalize stkL ps = st at *
      have HO := Lib.hid hO
      rcases hO.2 with ⟨rfl, h0⟩ | ⟨g, cp, cur, rfl, k1, k2, k3, k4, k5, k6⟩
      · have e : st = [] := List.length_eq_zero_iff.1 h0
        subst e
        have HPN := Lib.hid (HNIL.out rfl)
        clear hO HNIL
        go_wp2
        go_ret
        refine ⟨⟨_, rfl, ?_, .inl ⟨HPN.out, rfl⟩⟩, HB.out⟩
        rw [EU.out]
        exact ⟨rfl, .inl ⟨rfl, rfl⟩⟩
      · obtain ⟨j, hj⟩ : ∃ j, st.length - 1 = j := ⟨_, rfl⟩
        rcases Nat.eq_zero_or_pos st.length with h0 | h0
        · have e : st = [] := List.length_eq_zero_iff.1 h0
          subst e
          have h := HPS.out (HNIL.out rfl)
          cases h
        · have T := Lib.hid (own_take HO.out j (by omega))
          rw [hj] at EU
          have hj1 : (st.length : Int) - 1 = (j : Int) := by omega
          have hwj : IntKind.i64.wrap (j : Int) = (j : Int) := wrap_k _ (by omega)
          have hjc : j ≤ cp := by omega
          have hj0 : (0 : Int) ≤ (j : Int) := by omega
          have HJ := Lib.hid hj
          clear hO k1 k2 k4 k5 k6 hj
          go_wp2
          go_ret
          have hm : min j st.length = j := Nat.min_eq_left (by have := HJ.out; omega)
          have HNN : ps ≠ [] := fun h => by have := HPS.out h; cases this
          refine ⟨⟨_, rfl, ?_, .inr ⟨HNN, ?_⟩⟩, HB.out⟩
          rotate_left
          · exact ⟨g, cp, by rw [EU.out, List.length_take, hm]; rfl⟩
          rw [EU.out, List.length_take, hm]
          exact T.out
end Go.Proofs.YtalhkcmlacppjaaGreatDoor

namespace Go.Proofs.YtalhkcmlacppjaaGreatDoor
open Go.ChangeShapes Go.WideShapes Go.ChangeAt Go.RowKit
set_option linter.unusedVariables false
set_option linter.unusedSimpArgs false

theorem grow_is (N : Nat) (w : World) (hN : N ≤ 1000000) :
    Calls Tryz.prog 88 #[.slice none 0 0, .int .i64 (N : Int)] w fun e w' => (∃ v, e = .returned v ∧ w'.ownsRow w.heap.size 23 2 v 0 []) ∧ Below w.heap.size w w' := by
  rcases Nat.eq_zero_or_pos N with rfl | h0
  · have C := Any8.slices_Grow_room growL none 0 0 0 w (by omega) (by omega) (by omega) (by omega)
    exact C.mono fun e w' ⟨h1, h2⟩ => ⟨⟨_, h1, ⟨rfl, .inl ⟨rfl, rfl⟩⟩⟩, by rw [h2]; exact Below.refl _ _⟩
  · obtain ⟨i0, hi, hz0, hz1', hz2⟩ := info_parts infoP
    have C := Any8.slices_Grow_grow growL i0 _ hi hz0 (by rw [hz1']; decide) none 0 0 N [] w (by omega) (by omega) (by rw [hz2]; omega) (by omega) (by simp) (fun _ => rfl) (fun a h => by cases h)
    refine C.mono fun e w' ⟨h1, h2⟩ => ⟨⟨_, h1, ?_⟩, ?_⟩
    · rw [h2]
      refine ⟨rfl, .inr ⟨w.heap.size, _, _, rfl, Nat.le_refl _, blk_new _ _ _ rfl, Nat.zero_le _, grownCap_le_maxLen w (0 + N) 0 _ (by unfold maxLen; omega), ?_, by simp⟩⟩
      have := grownCap_ge w (0 + N) 0 (growL_ren.t 25)
      rw [Array.size_append, Array.size_append, size_zeroCells, size_zeroCells]
      show 0 + (0 + N - 0) * 2 + (grownCap w (0 + N) 0 (growL_ren.t 25) - (0 + N)) * 2 = _
      omega
    · rw [h2]
      exact belA (Below.refl _ w).drew _

set_option maxHeartbeats 2000000 in
theorem concat_nil (bb cc : Nat) (w : World) (h1 : w.cell? ⟨bb, 0, none⟩ = some (.slice none 0 0)) (h2 : w.cell? ⟨bb, 1, none⟩ = some (.slice none 0 0)) :
    Calls Tryz.prog 50 #[.slice (some ⟨bb, 0, none⟩) 2 cc] w fun e w' => e = .returned (.slice none 0 0) ∧ w = w' := by
  have C := Lib.hid (Any8.slices_Grow_room growL none 0 0 0 w (by omega) (by omega) (by omega) (by omega))
  go_enter Tryz.func50, Tryz.ntmps50
  go_wp2
  go_loopw [3, 11] (fun s i wr => wr = w ∧ s = .int .i64 0 ∧ (i = .int .i64 0 ∨ i = .int .i64 1 ∨ i = .int .i64 2)) (fun _ i _ => 2 - (intOf i).toNat)
  case atStart => exact ⟨rfl, rfl, .inl rfl⟩
  case round =>
    obtain ⟨rfl, rfl, rfl | rfl | rfl⟩ := hrel
    · go_wp2
      go_roundw
      case rel => exact ⟨trivial, by go_num, .inr (.inl (by go_num))⟩
      case measure => simp [intOf]
    · go_wp2
      go_roundw
      case rel => exact ⟨trivial, by go_num, .inr (.inr (by go_num))⟩
      case measure => simp [intOf]
    · go_wp2_with (go_at_call 88; refine Calls.mono C.out ?_; rintro e w1 ⟨rfl, rfl⟩)
      go_loopw [6, 27] (fun v i wr => wr = w1 ∧ v = .slice none 0 0 ∧ (i = .int .i64 0 ∨ i = .int .i64 1 ∨ i = .int .i64 2)) (fun _ i _ => 2 - (intOf i).toNat)
      case atStart => exact ⟨rfl, rfl, .inl rfl⟩
      case round =>
        obtain ⟨rfl, rfl, rfl | rfl | rfl⟩ := hrel
        · go_wp2
          go_roundw
          case rel => exact ⟨trivial, by first | rfl | trivial, .inr (.inl (by go_num))⟩
          case measure => simp [intOf]
        · go_wp2
          go_roundw
          case rel => exact ⟨trivial, by first | rfl | trivial, .inr (.inr (by go_num))⟩
          case measure => simp [intOf]
        · go_wp2
          go_ret
          exact ⟨rfl, rfl⟩
set_option maxRecDepth 100000 in
set_option maxHeartbeats 4000000 in
theorem concat_some (bb cc g1 c1 g2 c2 : Nat) (l1 l2 : List (Int × Int)) (w : World) (hl : l1.length + l2.length ≤ 1000000) (h1 : w.cell? ⟨bb, 0, none⟩ = some (.slice (some ⟨g1, 0, none⟩) l1.length c1)) (h2 : w.cell? ⟨bb, 1, none⟩ = some (.slice (some ⟨g2, 0, none⟩) l2.length c2))
    (p1 : PRow w (some ⟨g1, 0, none⟩) l1) (p2 : PRow w (some ⟨g2, 0, none⟩) l2) :
    Calls Tryz.prog 50 #[.slice (some ⟨bb, 0, none⟩) 2 cc] w fun e w' => (∃ v, e = .returned v ∧ w'.ownsRow w.heap.size 23 2 v (l1.length + l2.length) (flat (l1 ++ l2))) ∧ Below w.heap.size w w' := by
  obtain ⟨i0, hi, hz0, hz1', hz2⟩ := info_parts infoP
  have C := Lib.hid (grow_is (l1.length + l2.length) w hl)
  have HP1 := Lib.hid p1
  have HP2 := Lib.hid p2
  have hzb := World.block_lt_of_cell? w _ h1
  have EC : ((l1.length + l2.length : Nat) : Int) = (l1.length : Int) + (l2.length : Int) := by omega
  rw [EC] at C
  obtain ⟨n1, hn1⟩ : ∃ n1, l1.length = n1 := ⟨_, rfl⟩
  obtain ⟨n2, hn2⟩ : ∃ n2, l2.length = n2 := ⟨_, rfl⟩
  have E1 := Lib.hid hn1
  have E2 := Lib.hid hn2
  rw [hn1, hn2] at C EC hl
  rw [hn1] at h1
  rw [hn2] at h2
  rw [hn1, hn2]
  have a1 : IntKind.i64.wrap ((n1 : Int) + (n2 : Int)) = (n1 : Int) + (n2 : Int) := wrap_k _ (by omega)
  have a2 : IntKind.i64.wrap (n1 : Int) = (n1 : Int) := wrap_k _ (by omega)
  have a3 : ¬ (n1 : Int) + (n2 : Int) < 0 := by omega
  have a4 : ¬ (n1 : Int) < 0 := by omega
  clear p1 p2 hn1 hn2 EC
  go_enter Tryz.func50, Tryz.ntmps50
  go_wp2
  go_loopw [3, 11] (fun s i wr => w = wr ∧ ((s = .int .i64 0 ∧ i = .int .i64 0) ∨ (s = .int .i64 n1 ∧ i = .int .i64 1) ∨ (s = .int .i64 ((n1 : Int) + n2) ∧ i = .int .i64 2))) (fun _ i _ => 2 - (intOf i).toNat)
  case atStart => exact ⟨rfl, .inl ⟨rfl, rfl⟩⟩
  case round =>
    obtain ⟨hww, ⟨rfl, rfl⟩ | ⟨rfl, rfl⟩ | ⟨rfl, rfl⟩⟩ := hrel
    all_goals subst hww
    · go_wp2
      go_roundw
      case rel => exact ⟨trivial, .inr (.inl ⟨by go_num, by go_num⟩)⟩
      case measure => simp [intOf]
    · go_wp2
      go_roundw
      case rel => exact ⟨trivial, .inr (.inr ⟨by go_num, by go_num⟩)⟩
      case measure => simp [intOf]
    · go_wp2_with (go_at_call 88; refine Calls.mono C.out ?_; rintro e w1 ⟨⟨v1, rfl, hO⟩, hB⟩)
      have b1 := (hB.cell (p := ⟨bb, 0, none⟩) hzb).trans h1
      have b2 := (hB.cell (p := ⟨bb, 1, none⟩) hzb).trans h2
      have HB := Lib.hid hB
      clear hB C
      go_loopw [6, 27] (fun v i wr => Below w.heap.size w wr ∧ ((i = .int .i64 0 ∧ wr.ownsRow w.heap.size 23 2 v 0 []) ∨ (i = .int .i64 1 ∧ wr.ownsRow w.heap.size 23 2 v (0 + n1) ([] ++ flat l1)) ∨ (i = .int .i64 2 ∧ wr.ownsRow w.heap.size 23 2 v (0 + n1 + n2) ([] ++ flat l1 ++ flat l2)))) (fun _ i _ => 2 - (intOf i).toNat)
      case atStart => exact ⟨HB.out, .inl ⟨rfl, hO⟩⟩
      case round =>
        obtain ⟨hB2, ⟨rfl, hO2⟩ | ⟨rfl, hO2⟩ | ⟨rfl, hO2⟩⟩ := hrel
        all_goals have d1 := (hB2.cell (p := ⟨bb, 0, none⟩) hzb).trans h1
        all_goals have d2 := (hB2.cell (p := ⟨bb, 1, none⟩) hzb).trans h2
        · go_wp2_with (at_builtin; refine wpList_append_own _ rfl _ _ 29 rfl w.heap.size 23 i0 (.agg #[.int .i64 0, .int .i64 0]) 2 16 Tryz.underlying29 hi hz0 hz1' hz2 rfl (by decide) _ _ _ rfl hO2 ⟨g1, 0, none⟩ n1 c1 (flat l1) rfl (by rw [flat_len, E1.out]) (prow_flat (prow_below HP1.out hB2)) (flat_one l1) (by unfold maxLen; omega) (by omega) hB2.size ?_)
          intro v' w3 hown' hgrow _
          have hB3 : Below w.heap.size w w3 := hB2.grown hgrow hB2.size (fun k hk => (hO2.lt k hk).1)
          have HO3 := Lib.hid hown'
          clear hgrow hown' hB2 hO2
          go_wp2
          go_roundw
          case rel => exact ⟨hB3, .inr (.inl ⟨by go_num, by simpa using HO3.out⟩)⟩
          case measure => simp [intOf]
        · go_wp2_with (at_builtin; refine wpList_append_own _ rfl _ _ 29 rfl w.heap.size 23 i0 (.agg #[.int .i64 0, .int .i64 0]) 2 16 Tryz.underlying29 hi hz0 hz1' hz2 rfl (by decide) _ _ _ rfl hO2 ⟨g2, 0, none⟩ n2 c2 (flat l2) rfl (by rw [flat_len, E2.out]) (prow_flat (prow_below HP2.out hB2)) (flat_one l2) (by unfold maxLen; omega) (by omega) hB2.size ?_)
          intro v' w3 hown' hgrow _
          have hB3 : Below w.heap.size w w3 := hB2.grown hgrow hB2.size (fun k hk => (hO2.lt k hk).1)
          have HO3 := Lib.hid hown'
          clear hgrow hown' hB2 hO2
          go_wp2
          go_roundw
          case rel => exact ⟨hB3, .inr (.inr ⟨by go_num, by simpa using HO3.out⟩)⟩
          case measure => simp [intOf]
        · have HO3 := Lib.hid hO2
          clear hO2
          go_wp2
          go_ret
          refine ⟨⟨_, rfl, ?_⟩, hB2⟩
          rw [flat_app]
          simpa using HO3.out
end Go.Proofs.YtalhkcmlacppjaaGreatDoor

