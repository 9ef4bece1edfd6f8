/- Contract of the reference of layer 5: Apart. Conditions: the slices read as the lists say; the coordinates are bounded as a valid polygon's. -/
import Derived.Test.YtojfonenpplahaaIxJ
namespace Go.Proofs.Ytojfonenpplahaa
open Go.ChangeShapes Go.WideShapes Go.ChangeAt Go.RowKit
set_option linter.unusedVariables false
set_option linter.unusedSimpArgs false

set_option maxHeartbeats 8000000 in
theorem apart_is (ao bo : Option Addr) (n m ca cb : Nat) (a b : List (Int × Int)) (p i : Int) (t : Bool) (w : World) (hn : a.length = n) (hm : b.length = m) (hc : Hid (sepT a b = (p, i, t))) (hle : n ≤ 12) (hle' : m ≤ 12) (hA : PRow w ao a) (hB : PRow w bo b) (va : AllV a) (vb : AllV b) :
    Calls Try.prog 35 #[.slice ao n ca, .slice bo m cb] w fun e w' => e = .returned (.tuple #[.agg #[.int .i64 p, .int .i64 i], .bool t]) ∧ Below w.heap.size w w' := by
  subst hn hm
  have PA := Lib.hid hA
  have PB := Lib.hid hB
  have VA := Lib.hid va
  have VB := Lib.hid vb
  clear hA hB va vb
  go_enter Try.func35, Try.ntmps35
  go_wp2_with fail
  go_loopw [6] (fun i' wr => ∃ k : Nat, k ≤ a.length ∧ i' = .int .i64 k ∧ Hid (∀ m, m < k → rightB a b m = false) ∧ Below w.heap.size w wr ∧ wr.heap[w.heap.size]? = some (.cells #[.int .i64 0, .int .i64 0] 35 (0, 0))) (fun i _ => a.length - (intOf i).toNat)
  case atStart => exact ⟨0, Nat.zero_le _, rfl, Lib.hid (fun j hj => by omega), belA (Below.refl _ _) _, blk_new _ _ _ rfl⟩
  case round =>
    obtain ⟨k, hk, rfl, HM, hB, hX⟩ := hrel
    by_cases hkl : k < a.length
    · have hki : (k : Int) < a.length := by omega
      obtain ⟨r, hr⟩ : ∃ r, rightB a b k = r := ⟨_, rfl⟩
      have HR := Lib.hid hr
      have P1 := Lib.hid (prow_below PA.out hB)
      have P2 := Lib.hid (prow_below PB.out hB)
      have BB := Lib.hid hB
      have XX := Lib.hid hX
      clear hr hB hX
      go_wp2_with fail
      refine (beyond_is ao bo a.length b.length ca cb k a b r _ rfl rfl HR hkl hle hle' P1.out P2.out VA.out VB.out).mono ?_
      rintro e w1 ⟨rfl, hb⟩
      have B1 := Lib.hid (belT BB.out hb)
      have hX1 := blk_call XX.out hb
      clear hb BB XX P1 P2
      cases r with
      | true =>
        have HE : Hid (sepT a b = (0, (k : Int), true)) := Lib.hid (by unfold sepT; rw [firstI_some hkl HM.out HR.out, if_pos (by omega)])
        have z0 := blk_cell hX1 0 _ rfl
        have z1 := blk_cell hX1 1 _ rfl
        have f0 := blk_fz hX1 0
        have f1 := blk_fz hX1 1
        have zz := blk_lt hX1
        go_wp2_with fail
        have hS : ((w1.setCell ⟨w.heap.size, 0, none⟩ (.int .i64 0)).setCell ⟨w.heap.size, 1, none⟩ (.int .i64 (k : Int))).heap[w.heap.size]? = some (.cells #[.int .i64 0, .int .i64 (k : Int)] 35 (0, 0)) := blk_set (blk_set hX1 _) _
        have y0 := blk_cell hS 0 _ rfl
        have y1 := blk_cell hS 1 _ rfl
        refine bodyPost_ret (v := .tuple #[.agg #[.int .i64 0, .int .i64 (k : Int)], .bool true]) (by simp [results, Try.results35, go_sem, y0, y1]) rfl ?_
        have hq := HE.out.symm.trans hc.out
        simp only [Prod.mk.injEq] at hq
        obtain ⟨rfl, rfl, rfl⟩ := hq
        exact ⟨rfl, belS (belS B1.out (Nat.le_refl _) _) (Nat.le_refl _) _⟩
      | false =>
        go_wp2_with fail
        go_roundw
        case rel => exact ⟨k + 1, by omega, by go_num, Lib.hid (fun m hm => by
          by_cases e : m = k
          · subst e; exact HR.out
          · exact HM.out m (by omega)), B1.out, hX1⟩
        case measure => simp [intOf]; omega
    · obtain rfl : k = a.length := by omega
      have HN : Hid (firstI (rightB a b) a.length = -1) := Lib.hid (firstI_none HM.out)
      clear HM
      go_wp2_with fail
      go_loopw [7] (fun i' wr => ∃ k : Nat, k ≤ b.length ∧ i' = .int .i64 k ∧ Hid (∀ m, m < k → rightB b a m = false) ∧ Below w.heap.size w wr ∧ wr.heap[w.heap.size]? = some (.cells #[.int .i64 0, .int .i64 0] 35 (0, 0))) (fun i _ => b.length - (intOf i).toNat)
      case atStart => exact ⟨0, Nat.zero_le _, rfl, Lib.hid (fun j hj => by omega), hB, hX⟩
      case round =>
        obtain ⟨k, hk, rfl, HM, hB, hX⟩ := hrel
        by_cases hkl : k < b.length
        · have hki : (k : Int) < b.length := by omega
          obtain ⟨r, hr⟩ : ∃ r, rightB b a k = r := ⟨_, rfl⟩
          have HR := Lib.hid hr
          have P1 := Lib.hid (prow_below PB.out hB)
          have P2 := Lib.hid (prow_below PA.out hB)
          have BB := Lib.hid hB
          have XX := Lib.hid hX
          clear hr hB hX
          go_wp2_with fail
          refine (beyond_is bo ao b.length a.length cb ca k b a r _ rfl rfl HR hkl hle' hle P1.out P2.out VB.out VA.out).mono ?_
          rintro e w1 ⟨rfl, hb⟩
          have B1 := Lib.hid (belT BB.out hb)
          have hX1 := blk_call XX.out hb
          clear hb BB XX P1 P2
          cases r with
          | true =>
            have HE : Hid (sepT a b = (1, (k : Int), true)) := Lib.hid (by unfold sepT; rw [HN.out, if_neg (by omega), firstI_some hkl HM.out HR.out, if_pos (by omega)])
            have z0 := blk_cell hX1 0 _ rfl
            have z1 := blk_cell hX1 1 _ rfl
            have f0 := blk_fz hX1 0
            have f1 := blk_fz hX1 1
            have zz := blk_lt hX1
            go_wp2_with fail
            have hS : ((w1.setCell ⟨w.heap.size, 0, none⟩ (.int .i64 1)).setCell ⟨w.heap.size, 1, none⟩ (.int .i64 (k : Int))).heap[w.heap.size]? = some (.cells #[.int .i64 1, .int .i64 (k : Int)] 35 (0, 0)) := blk_set (blk_set hX1 _) _
            have y0 := blk_cell hS 0 _ rfl
            have y1 := blk_cell hS 1 _ rfl
            refine bodyPost_ret (v := .tuple #[.agg #[.int .i64 1, .int .i64 (k : Int)], .bool true]) (by simp [results, Try.results35, go_sem, y0, y1]) rfl ?_
            have hq := HE.out.symm.trans hc.out
            simp only [Prod.mk.injEq] at hq
            obtain ⟨rfl, rfl, rfl⟩ := hq
            exact ⟨rfl, belS (belS B1.out (Nat.le_refl _) _) (Nat.le_refl _) _⟩
          | false =>
            go_wp2_with fail
            go_roundw
            case rel => exact ⟨k + 1, by omega, by go_num, Lib.hid (fun m hm => by
              by_cases e : m = k
              · subst e; exact HR.out
              · exact HM.out m (by omega)), B1.out, hX1⟩
            case measure => simp [intOf]; omega
        · obtain rfl : k = b.length := by omega
          have HE : Hid (sepT a b = (0, 0, false)) := Lib.hid (by unfold sepT; rw [HN.out, if_neg (by omega), firstI_none HM.out, if_neg (by omega)])
          have z0 := blk_cell hX 0 _ rfl
          have z1 := blk_cell hX 1 _ rfl
          have f0 := blk_fz hX 0
          have f1 := blk_fz hX 1
          have zz := blk_lt hX
          have B1 := Lib.hid hB
          clear HM hB
          go_wp2_with fail
          have hS : ((wr.setCell ⟨w.heap.size, 0, none⟩ (.int .i64 0)).setCell ⟨w.heap.size, 1, none⟩ (.int .i64 0)).heap[w.heap.size]? = some (.cells #[.int .i64 0, .int .i64 0] 35 (0, 0)) := blk_set (blk_set hX _) _
          have y0 := blk_cell hS 0 _ rfl
          have y1 := blk_cell hS 1 _ rfl
          refine bodyPost_ret (v := .tuple #[.agg #[.int .i64 0, .int .i64 0], .bool false]) (by simp [results, Try.results35, go_sem, y0, y1]) rfl ?_
          have hq := HE.out.symm.trans hc.out
          simp only [Prod.mk.injEq] at hq
          obtain ⟨rfl, rfl, rfl⟩ := hq
          exact ⟨rfl, belS (belS B1.out (Nat.le_refl _) _) (Nat.le_refl _) _⟩
end Go.Proofs.Ytojfonenpplahaa
