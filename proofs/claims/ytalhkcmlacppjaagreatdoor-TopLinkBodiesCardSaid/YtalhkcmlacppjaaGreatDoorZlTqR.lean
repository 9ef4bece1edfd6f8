/- Helpers: what the law reaches. -/
import Derived.OwnWalk
import Derived.Laws.OwnMore
import Derived.Laws.MakeOwn
import Derived.Deep.AppendLies
import Derived.Test.YtalhkcmlacppjaaGreatDoorZlHp
import Derived.Test.YtalhkcmlacppjaaGreatDoorZlAmI
namespace Go.Proofs.YtalhkcmlacppjaaGreatDoor
open Go.ChangeShapes Go.WideShapes Go.ChangeAt Go.RowKit
set_option linter.unusedVariables false
set_option linter.unusedSimpArgs false
set_option maxRecDepth 100000
set_option maxHeartbeats 2000000 in
theorem sequal_any (ao bo : Option Addr) (ca cb : Nat) (l m : List (Int × Int)) (w : World) (hl : l.length ≤ 9223372036854775807) (hm : m.length ≤ 9223372036854775807) (hP : PRow w ao l) (hQ : PRow w bo m) :
    Calls Tryz.prog 56 #[.slice ao l.length ca, .slice bo m.length cb] w fun e w' => e = .returned (.bool (decide (l = m))) ∧ Below w.heap.size w w' := by
  by_cases hlm : l.length = m.length
  · have hne : (((l.length : Int) != (m.length : Int))) = false := by rw [hlm]; simp
    go_enter Tryz.func56, Tryz.ntmps56
    go_wp2
    go_loopw [13] (fun i wr => ∃ k : Nat, k ≤ l.length ∧ i = .int .i64 k ∧ Hid (eqTo l m k) ∧ Below w.heap.size w wr) (fun i _ => l.length - (intOf i).toNat)
    case atStart => exact ⟨0, Nat.zero_le _, rfl, Lib.hid (fun i hi => by omega), Below.refl _ _⟩
    case round =>
      obtain ⟨k, hk, rfl, hE, hB⟩ := hrel
      by_cases hlt : k < l.length
      · obtain ⟨b, o, rfl, c1, c2⟩ := prow_at hP hlt
        obtain ⟨b', o', rfl, c3, c4⟩ := prow_at hQ (hlm ▸ hlt)
        have d1 := (hB.cell (World.block_lt_of_cell? w _ c1)).trans c1
        have d2 := (hB.cell (World.block_lt_of_cell? w _ c2)).trans c2
        have d3 := (hB.cell (World.block_lt_of_cell? w _ c3)).trans c3
        have d4 := (hB.cell (World.block_lt_of_cell? w _ c4)).trans c4
        have hki : (k : Int) < l.length := by omega
        have hki2 : (k : Int) < m.length := by omega
        clear c1 c2 c3 c4
        have HEK := Lib.hid (fun (h1 : cx l k = cx m k) (h2 : cy l k = cy m k) => (fun i hi => by
          by_cases e : i = k
          · subst e; exact ⟨h1, h2⟩
          · exact hE.out i (by omega) : eqTo l m (k + 1)))
        have HNE := Lib.hid (fun (h : ¬ (cx l k = cx m k ∧ cy l k = cy m k)) => (fun e => h (by rw [e]; exact ⟨rfl, rfl⟩) : ¬ l = m))
        generalize cx l k = x at *
        generalize cy l k = y at *
        generalize cx m k = x' at *
        generalize cy m k = y' at *
        go_upto_region 6 with fail
        by_cases hx : x = x'
        · subst hx
          by_cases hy : y = y'
          · subst hy
            go_region
            all_goals
              go_wp2
              exact ⟨⟨k + 1, by omega, by go_num, Lib.hid (HEK.out rfl rfl), hB.drew⟩, by simp [intOf]; omega⟩
          · have HN := Lib.hid (HNE.out (fun h => hy h.2))
            go_region
            all_goals
              go_wp2
              go_ret
              exact ⟨ret_bool (decide_eq_false HN.out).symm, hB.drew⟩
        · have HN := Lib.hid (HNE.out (fun h => hx h.1))
          go_region
          all_goals
            go_wp2
            go_ret
            exact ⟨ret_bool (decide_eq_false HN.out).symm, hB.drew⟩
      · have HE : Hid (decide (l = m) = true) := Lib.hid (decide_eq_true (eq_of_to hlm (fun i hi => hE.out i (by omega))))
        clear hE
        go_wp2
        go_ret
        exact ⟨ret_bool HE.out.symm, hB⟩
  · have hne : (((l.length : Int) != (m.length : Int))) = true := by rw [bne_iff_ne]; omega
    have HE : Hid (decide (l = m) = false) := Lib.hid (decide_eq_false (fun e => hlm (by rw [e])))
    go_enter Tryz.func56, Tryz.ntmps56
    go_wp2
    go_ret
    exact ⟨ret_bool HE.out.symm, Below.refl _ _⟩
theorem equal_is (ao bo : Option Addr) (n n' ca cb : Nat) (l m : List (Int × Int)) (t : Bool) (w : World) (hn : l.length = n) (hn' : m.length = n') (ht : Hid (decide (l = m) = t)) (hl : l.length ≤ 9223372036854775807) (hm : m.length ≤ 9223372036854775807) (hP : PRow w ao l) (hQ : PRow w bo m) :
    Calls Tryz.prog 20 #[.slice ao n ca, .slice bo n' cb] w fun e w' => e = .returned (.bool t) ∧ Below w.heap.size w w' := by
  subst hn hn'
  have C := sequal_any ao bo ca cb l m w hl hm hP hQ
  rw [ht.out] at C
  have G := Lib.hid C
  clear C ht hP hQ
  go_enter Tryz.func20, Tryz.ntmps20
  go_wp2_with fail
  refine G.out.mono ?_; rintro e w1 ⟨rfl, hb⟩
  go_wp2_with fail
  go_ret
  exact ⟨rfl, hb⟩
end Go.Proofs.YtalhkcmlacppjaaGreatDoor

