/- Contract of the reference of layer 4: first. Conditions: the slice reads as the list says. -/
import Derived.Test.YtnpadblfpaiofaaHmM
namespace Go.Proofs.Ytnpadblfpaiofaa
open Go.ChangeShapes Go.WideShapes Go.ChangeAt Go.RowKit
set_option linter.unusedVariables false
set_option linter.unusedSimpArgs false

set_option maxRecDepth 100000 in
set_option maxHeartbeats 8000000 in
theorem first4_is (ao : Option Addr) (n cap : Nat) (l : List (Int × Int)) (x y : Int) (w : World) (hn : l.length = n) (h0 : 0 < n) (hm : (x, y) ∈ l) (hl : Hid (∀ q ∈ l, lle (x, y) q)) (hle : n ≤ 1000000) (hP : PRow w ao l) :
    Calls Try.prog 45 #[.slice ao n cap] w fun e w' => e = .returned (.agg #[.int .i64 x, .int .i64 y]) ∧ Below w.heap.size w w' := by
  subst hn
  have HP := Lib.hid hP
  have HM := Lib.hid hm
  have HQ : Hid (∀ k (hk : k < l.length), (cx l k, cy l k) ∈ l) := Lib.hid (fun k hk => gp_mem hk)
  obtain ⟨g, g0, rfl, c1, c2⟩ := prow_at hP h0
  have hgs : g < w.heap.size := World.block_lt_of_cell? w _ c1
  rw [Nat.zero_mul, Nat.add_zero] at c1 c2
  have HS0 := Lib.hid (HQ.out 0 h0)
  generalize ha : cx l 0 = a0 at *
  generalize hb : cy l 0 = b0 at *
  have HA : Hid (gp l 0 = (a0, b0)) := Lib.hid (by rw [← ha, ← hb]; rfl)
  have d1 := cell_alloc c1 (.cells #[.int .i64 0, .int .i64 0] 35)
  have d2 := cell_alloc c2 (.cells #[.int .i64 0, .int .i64 0] 35)
  have hpe : ¬ l = [] := fun e => by rw [e] at h0; simp at h0
  have h0i : 0 < (l.length : Int) := by omega
  clear hP hm ha hb c1 c2
  go_enter Try.func45, Try.ntmps45
  go_wp2_with fail
  clear d1 d2
  go_loopw [4] (fun v wr => ∃ (k : Nat) (s t : Int), 1 ≤ k ∧ k ≤ l.length ∧ v = .int .i64 k ∧ Hid ((s, t) ∈ l) ∧ Hid (∀ j, j < k → lle (s, t) (gp l j)) ∧ Below w.heap.size w wr ∧ Hid (wr.heap[w.heap.size]? = some (.cells #[.int .i64 0, .int .i64 0] 35 (0, 0))) ∧ Hid (wr.heap[w.heap.size + 1]? = some (.cells #[.int .i64 s, .int .i64 t] 35 (0, 0)))) (fun v _ => l.length - (intOf v).toNat)
  case atStart => exact ⟨1, a0, b0, Nat.le_refl _, h0, rfl, HS0, Lib.hid (fun j hj => by rw [show j = 0 by omega, HA.out]; exact lle_refl _), belA (belA (Below.refl _ _) _) _, Lib.hid (blk_alloc (blk_new _ _ _ rfl) _), Lib.hid (blk_new _ _ _ (by simp))⟩
  case round =>
    obtain ⟨k, s, t, hk1, hk, rfl, HS, HF, hB, X1, X2⟩ := hrel
    by_cases hlt : k < l.length
    · have hki : (k : Int) < l.length := by omega
      obtain ⟨g', g0', ho', c1, c2⟩ := prow_at HP.out hlt
      obtain ⟨rfl, rfl⟩ : g = g' ∧ g0 = g0' := by simpa using ho'
      clear ho'
      have HK := Lib.hid (HQ.out k hlt)
      have HG : Hid (gp l k = (cx l k, cy l k)) := Lib.hid rfl
      have d1 := (hB.cell hgs).trans c1
      have d2 := (hB.cell hgs).trans c2
      generalize cx l k = p at *
      generalize cy l k = q at *
      have D12 := Lib.hid (And.intro d1 d2)
      have HB := Lib.hid hB
      have zb : g < wr.heap.size := World.block_lt_of_cell? wr ⟨g, g0 + k * 2, none⟩ d1
      have k3 := blk_cell X2.out 0 _ rfl
      have k4 := blk_cell X2.out 1 _ rfl
      have z3 := blk_lt X2.out
      have NX : ∀ u v : Int, lle (u, v) (s, t) → lle (u, v) (p, q) → Hid (∀ j, j < k + 1 → lle (u, v) (gp l j)) := fun u v e1 e2 => Lib.hid (fun j hj => by
        by_cases e : j = k
        · rw [e, HG.out]; exact e2
        · exact lle_trans e1 (HF.out j (by omega)))
      clear c1 c2 hB
      have G1 := fun p => cell_blw (w := wr) (a := ⟨g, g0 + k * 2, none⟩) zb d1 p
      have G2 := fun p => cell_blw (w := wr) (a := ⟨g, g0 + k * 2 + 1, none⟩) zb d2 p
      have G3 := fun p => cell_blw (w := wr) (a := ⟨w.heap.size + 1, 0, none⟩) z3 k3 p
      have G4 := fun p => cell_blw (w := wr) (a := ⟨w.heap.size + 1, 1, none⟩) z3 k4 p
      clear d1 d2 k3 k4
      by_cases e1 : p < s
      · skip
        have f1 : decide (p < s) = true := decide_eq_true (by omega)
        go_upto_region 5 with fail
        refine wb_region mixedP (by kernel_rfl) ?_
        repeat (refine wq_step (fun K hK => ?_); go_simp; first | (refine hK _ ?_; clear hK K) | (apply Exists.intro; refine ⟨fun _ => ?_, hK _ ?_⟩; (fail); clear hK K))
        refine wq_nil ?_
        intro _ hw'
        obtain ⟨pb, hw''⟩ := hw'
        subst hw''
        clear G1 G2 G3 G4
        replace D12 := Lib.hid (And.intro (cell_call D12.out.1 pb.hb) (cell_call D12.out.2 pb.hb))
        replace X1 := Lib.hid (blk_call X1.out pb.hb)
        replace X2 := Lib.hid (blk_call X2.out pb.hb)
        replace HB := Lib.hid (HB.out.trans (pb.hb.mono HB.out.size))
        obtain ⟨w5, hb5⟩ := pb
        change Hid (Below w.heap.size w w5) at HB
        change Hid (w5.heap[w.heap.size]? = _) at X1
        change Hid (w5.heap[w.heap.size + 1]? = _) at X2
        change Hid (w5.cell? _ = _ ∧ w5.cell? _ = _) at D12
        dsimp only
        clear hb5 zb z3
        obtain ⟨d1, d2⟩ := D12.out
        have zb : g < w5.heap.size := World.block_lt_of_cell? w5 ⟨g, g0 + k * 2, none⟩ d1
        have k3 := blk_cell X2.out 0 _ rfl
        have k4 := blk_cell X2.out 1 _ rfl
        have f3 := blk_fz X2.out 0
        have f4 := blk_fz X2.out 1
        have z3 := blk_lt X2.out
        have HN := NX p q (by first | exact .inr ⟨rfl, by omega⟩ | (unfold lle; simp only; omega)) (lle_refl _)
        have hX1 := X1.out
        have hX2 := X2.out
        have hB9 := HB.out
        clear NX
        go_wp2_with fail
        go_roundw
        case rel => exact ⟨k + 1, p, q, by omega, by omega, by go_num, HK, HN, belS (belS hB9 (by simp) _) (by simp) _, Lib.hid (blk_other (blk_other hX1 (by omega) _) (by omega) _), Lib.hid (blk_set (blk_set hX2 _) _)⟩
        case measure => simp [intOf]; omega
      · by_cases e2 : p = s
        · by_cases e3 : q < t
          · skip
            subst p
            have f3 : decide (q < t) = true := decide_eq_true (by omega)
            go_upto_region 5 with fail
            refine wb_region mixedP (by kernel_rfl) ?_
            repeat (refine wq_step (fun K hK => ?_); go_simp; first | (refine hK _ ?_; clear hK K) | (apply Exists.intro; refine ⟨fun _ => ?_, hK _ ?_⟩; (fail); clear hK K))
            refine wq_nil ?_
            intro _ hw'
            obtain ⟨pb, hw''⟩ := hw'
            subst hw''
            clear G1 G2 G3 G4
            replace D12 := Lib.hid (And.intro (cell_call D12.out.1 pb.hb) (cell_call D12.out.2 pb.hb))
            replace X1 := Lib.hid (blk_call X1.out pb.hb)
            replace X2 := Lib.hid (blk_call X2.out pb.hb)
            replace HB := Lib.hid (HB.out.trans (pb.hb.mono HB.out.size))
            obtain ⟨w5, hb5⟩ := pb
            change Hid (Below w.heap.size w w5) at HB
            change Hid (w5.heap[w.heap.size]? = _) at X1
            change Hid (w5.heap[w.heap.size + 1]? = _) at X2
            change Hid (w5.cell? _ = _ ∧ w5.cell? _ = _) at D12
            dsimp only
            clear hb5 zb z3
            obtain ⟨d1, d2⟩ := D12.out
            have zb : g < w5.heap.size := World.block_lt_of_cell? w5 ⟨g, g0 + k * 2, none⟩ d1
            have k3 := blk_cell X2.out 0 _ rfl
            have k4 := blk_cell X2.out 1 _ rfl
            have f3 := blk_fz X2.out 0
            have f4 := blk_fz X2.out 1
            have z3 := blk_lt X2.out
            have HN := NX s q (by first | exact .inr ⟨rfl, by omega⟩ | (unfold lle; simp only; omega)) (lle_refl _)
            have hX1 := X1.out
            have hX2 := X2.out
            have hB9 := HB.out
            clear NX
            go_wp2_with fail
            go_roundw
            case rel => exact ⟨k + 1, s, q, by omega, by omega, by go_num, HK, HN, belS (belS hB9 (by simp) _) (by simp) _, Lib.hid (blk_other (blk_other hX1 (by omega) _) (by omega) _), Lib.hid (blk_set (blk_set hX2 _) _)⟩
            case measure => simp [intOf]; omega
          · skip
            subst p
            have f3 : decide (q < t) = false := decide_eq_false (by omega)
            go_upto_region 5 with fail
            refine wb_region mixedP (by kernel_rfl) ?_
            repeat (refine wq_step (fun K hK => ?_); go_simp; first | (refine hK _ ?_; clear hK K) | (apply Exists.intro; refine ⟨fun _ => ?_, hK _ ?_⟩; (fail); clear hK K))
            refine wq_nil ?_
            intro _ hw'
            obtain ⟨pb, hw''⟩ := hw'
            subst hw''
            clear G1 G2 G3 G4
            replace D12 := Lib.hid (And.intro (cell_call D12.out.1 pb.hb) (cell_call D12.out.2 pb.hb))
            replace X1 := Lib.hid (blk_call X1.out pb.hb)
            replace X2 := Lib.hid (blk_call X2.out pb.hb)
            replace HB := Lib.hid (HB.out.trans (pb.hb.mono HB.out.size))
            obtain ⟨w5, hb5⟩ := pb
            change Hid (Below w.heap.size w w5) at HB
            change Hid (w5.heap[w.heap.size]? = _) at X1
            change Hid (w5.heap[w.heap.size + 1]? = _) at X2
            change Hid (w5.cell? _ = _ ∧ w5.cell? _ = _) at D12
            dsimp only
            clear hb5 zb z3
            have HN := NX s t (lle_refl _) (by first | exact .inr ⟨rfl, by omega⟩ | (unfold lle; simp only; omega))
            clear NX
            go_wp2_with fail
            go_roundw
            case rel => exact ⟨k + 1, s, t, by omega, by omega, by go_num, HS, HN, HB.out, X1, X2⟩
            case measure => simp [intOf]; omega
        · have f2 : (p == s) = false := by rw [beq_eq_false_iff_ne]; exact e2
          have f1 : decide (p < s) = false := decide_eq_false (by omega)
          go_upto_region 5 with fail
          refine wb_region mixedP (by kernel_rfl) ?_
          repeat (refine wq_step (fun K hK => ?_); go_simp; first | (refine hK _ ?_; clear hK K) | (apply Exists.intro; refine ⟨fun _ => ?_, hK _ ?_⟩; (fail); clear hK K))
          refine wq_nil ?_
          intro _ hw'
          obtain ⟨pb, hw''⟩ := hw'
          subst hw''
          clear G1 G2 G3 G4
          replace D12 := Lib.hid (And.intro (cell_call D12.out.1 pb.hb) (cell_call D12.out.2 pb.hb))
          replace X1 := Lib.hid (blk_call X1.out pb.hb)
          replace X2 := Lib.hid (blk_call X2.out pb.hb)
          replace HB := Lib.hid (HB.out.trans (pb.hb.mono HB.out.size))
          obtain ⟨w5, hb5⟩ := pb
          change Hid (Below w.heap.size w w5) at HB
          change Hid (w5.heap[w.heap.size]? = _) at X1
          change Hid (w5.heap[w.heap.size + 1]? = _) at X2
          change Hid (w5.cell? _ = _ ∧ w5.cell? _ = _) at D12
          dsimp only
          clear hb5 zb z3
          have HN := NX s t (lle_refl _) (by first | exact .inr ⟨rfl, by omega⟩ | (unfold lle; simp only; omega))
          clear NX
          go_wp2_with fail
          go_roundw
          case rel => exact ⟨k + 1, s, t, by omega, by omega, by go_num, HS, HN, HB.out, X1, X2⟩
          case measure => simp [intOf]; omega
    · obtain rfl : k = l.length := by omega
      have HE : Hid ((s, t) = (x, y)) := Lib.hid (by
        obtain ⟨j, hj, e⟩ := mem_gp HM.out
        exact lle_anti (by rw [← e]; exact HF.out j hj) (hl.out _ HS.out))
      have hX2 := X1.out
      have HB := Lib.hid hB
      have k1 := blk_cell X1.out 0 _ rfl
      have k2 := blk_cell X1.out 1 _ rfl
      have f1 := blk_fz X1.out 0
      have f2 := blk_fz X1.out 1
      have z1 := blk_lt X1.out
      have k3 := blk_cell X2.out 0 _ rfl
      have k4 := blk_cell X2.out 1 _ rfl
      have z3 := blk_lt X2.out
      clear hB
      go_wp2_with fail
      have hS : ((wr.setCell ⟨w.heap.size, 0, none⟩ (.int .i64 s)).setCell ⟨w.heap.size, 1, none⟩ (.int .i64 t)).heap[w.heap.size]? = some (.cells #[.int .i64 s, .int .i64 t] 35 (0, 0)) := blk_set (blk_set hX2 _) _
      have y0 := blk_cell hS 0 _ rfl
      have y1 := blk_cell hS 1 _ rfl
      refine bodyPost_ret (v := .agg #[.int .i64 s, .int .i64 t]) (by simp [results, Try.results45, go_sem, y0, y1]) rfl ?_
      have hq := HE.out
      simp only [Prod.mk.injEq] at hq
      obtain ⟨rfl, rfl⟩ := hq
      exact ⟨rfl, belS (belS HB.out (Nat.le_refl _) _) (Nat.le_refl _) _⟩
end Go.Proofs.Ytnpadblfpaiofaa
