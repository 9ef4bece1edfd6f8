/- Contracts of the reference of layer 4: first, next. Conditions: the slice reads as the list says; the coordinates are bounded. -/
import Derived.Test.YtnpadblfpaiofaaHmA
namespace Go.Proofs.Ytnpadblfpaiofaa
open Go.ChangeShapes Go.WideShapes Go.ChangeAt Go.RowKit
set_option linter.unusedVariables false
set_option linter.unusedSimpArgs false

/-- One step of gift wrapping from (a, b): out is (x, y), the point looked at (p, q). -/
def nstep (a b x y p q : Int) : Int × Int :=
  if p = a ∧ q = b then (x, y) else if x = a ∧ y = b then (p, q) else if det a b x y p q < 0 ∨ (det a b x y p q = 0 ∧ farI a b x y < farI a b p q) then (p, q) else (x, y)
def nextF (l : List (Int × Int)) (a b : Int) : Int × Int := l.foldl (fun o r => nstep a b o.1 o.2 r.1 r.2) (a, b)
def pre (l : List (Int × Int)) (k : Nat) (a b : Int) : Int × Int := nextF (l.take k) a b
theorem pre_succ (l : List (Int × Int)) {k : Nat} (h : k < l.length) (a b : Int) : pre l (k + 1) a b = nstep a b (pre l k a b).1 (pre l k a b).2 (cx l k) (cy l k) := by
  unfold pre nextF
  rw [List.take_succ_eq_append_getElem h, List.foldl_append]
  show nstep a b _ _ _ _ = _
  unfold cx cy
  simp [List.getD_eq_getElem?_getD, List.getElem?_eq_getElem h]
theorem pre_all (l : List (Int × Int)) (a b : Int) : pre l l.length a b = nextF l a b := by unfold pre; rw [List.take_length]

set_option maxRecDepth 100000 in
set_option maxHeartbeats 8000000 in
theorem next4_is (ao : Option Addr) (n cap : Nat) (l : List (Int × Int)) (a b x y : Int) (w : World) (hn : l.length = n) (hr : Hid (nextF l a b = (x, y))) (hle : n ≤ 1000000) (hP : PRow w ao l) (hV : AllV l) (ka : InV a) (kb : InV b) :
    Calls Try.prog 46 #[.slice ao n cap, .agg #[.int .i64 a, .int .i64 b]] w fun e w' => e = .returned (.agg #[.int .i64 x, .int .i64 y]) ∧ Below w.heap.size w w' := by
  subst hn
  have HP := Lib.hid hP
  have HV := Lib.hid hV
  clear hP hV
  go_enter Try.func46, Try.ntmps46
  go_wp2_with fail
  go_loopw [6] (fun v wr => ∃ (k : Nat) (s t : Int), k ≤ l.length ∧ v = .int .i64 k ∧ Hid (pre l k a b = (s, t)) ∧ Hid (InV s ∧ InV t) ∧ Below w.heap.size w wr ∧ Hid (wr.heap[w.heap.size]? = some (.cells #[.int .i64 a, .int .i64 b] 35 (0, 0))) ∧ Hid (wr.heap[w.heap.size + 1]? = some (.cells #[.int .i64 0, .int .i64 0] 35 (0, 0))) ∧ Hid (wr.heap[w.heap.size + 1 + 1]? = some (.cells #[.int .i64 s, .int .i64 t] 35 (0, 0)))) (fun v _ => l.length - (intOf v).toNat)
  case atStart => exact ⟨0, a, b, Nat.zero_le _, rfl, Lib.hid rfl, Lib.hid ⟨ka, kb⟩, belA (belA (belA (Below.refl _ _) _) _) _, Lib.hid (blk_alloc (blk_alloc (blk_new _ _ _ rfl) _) _), Lib.hid (blk_alloc (blk_new _ _ _ (by simp)) _), Lib.hid (blk_new _ _ _ (by simp))⟩
  case round =>
    obtain ⟨k, s, t, hk, rfl, HS, HI, hB, X1, X2, X3⟩ := hrel
    by_cases hlt : k < l.length
    · have hki : (k : Int) < l.length := by omega
      obtain ⟨g, g0, rfl, c1, c2⟩ := prow_at HP.out hlt
      obtain ⟨i1, i2⟩ := HV.out k hlt
      have HN : Hid (pre l (k + 1) a b = nstep a b s t (cx l k) (cy l k)) := Lib.hid (by rw [pre_succ l hlt, HS.out])
      have c1' := World.block_lt_of_cell? w _ c1
      have c2' := World.block_lt_of_cell? w _ c2
      have hgs : g < w.heap.size := c1'
      have d1 := (hB.cell c1').trans c1
      have d2 := (hB.cell c2').trans c2
      generalize cx l k = p at *
      generalize cy l k = q at *
      have D12 := Lib.hid (And.intro d1 d2)
      have HB := Lib.hid hB
      have zb : g < wr.heap.size := World.block_lt_of_cell? wr ⟨g, g0 + k * 2, none⟩ d1
      have k1 := blk_cell X1.out 0 _ rfl
      have k2 := blk_cell X1.out 1 _ rfl
      have z1 := blk_lt X1.out
      have k3 := blk_cell X3.out 0 _ rfl
      have k4 := blk_cell X3.out 1 _ rfl
      have f3 := blk_fz X3.out 0
      have f4 := blk_fz X3.out 1
      have z3 := blk_lt X3.out
      clear c1 c2 c1' c2' hB HS
      by_cases p1 : p = a
      · subst p
        by_cases p2 : q = b
        · subst q
          go_upto_region 5 with fail
          have G1 := fun p => cell_blw (w := wr) (a := ⟨g, g0 + k * 2, none⟩) zb d1 p
          have G2 := fun p => cell_blw (w := wr) (a := ⟨g, g0 + k * 2 + 1, none⟩) zb d2 p
          have G3 := fun p => cell_blw (w := wr) (a := ⟨w.heap.size, 0, none⟩) z1 k1 p
          have G4 := fun p => cell_blw (w := wr) (a := ⟨w.heap.size, 1, none⟩) z1 k2 p
          have G5 := fun p => cell_blw (w := wr) (a := ⟨w.heap.size + 1 + 1, 0, none⟩) z3 k3 p
          have G6 := fun p => cell_blw (w := wr) (a := ⟨w.heap.size + 1 + 1, 1, none⟩) z3 k4 p
          clear d1 d2 zb k1 k2 z1 k3 k4 f3 f4 z3
          refine wb_region mixedP (by kernel_rfl) ?_
          repeat (refine wq_step (fun K hK => ?_); go_simp; first | (refine hK _ ?_; clear hK K) | (apply Exists.intro; refine ⟨fun _ => ?_, hK _ ?_⟩; (fail); clear hK K))
          refine wq_nil ?_
          intro _ hw'
          obtain ⟨pb, hw''⟩ := hw'
          subst hw''
          clear G1 G2 G3 G4 G5 G6
          replace D12 := Lib.hid (And.intro (cell_call D12.out.1 pb.hb) (cell_call D12.out.2 pb.hb))
          replace X1 := Lib.hid (blk_call X1.out pb.hb)
          replace X2 := Lib.hid (blk_call X2.out pb.hb)
          replace X3 := Lib.hid (blk_call X3.out pb.hb)
          replace HB := Lib.hid (HB.out.trans (pb.hb.mono HB.out.size))
          obtain ⟨w5, hb5⟩ := pb
          change Hid (Below w.heap.size w w5) at HB
          change Hid (w5.heap[w.heap.size]? = _) at X1
          change Hid (w5.heap[w.heap.size + 1]? = _) at X2
          change Hid (w5.heap[w.heap.size + 1 + 1]? = _) at X3
          change Hid (w5.cell? _ = _ ∧ w5.cell? _ = _) at D12
          dsimp only
          clear hb5
          obtain ⟨d1, d2⟩ := D12.out
          have zb : g < w5.heap.size := World.block_lt_of_cell? w5 ⟨g, g0 + k * 2, none⟩ d1
          have k1 := blk_cell X1.out 0 _ rfl
          have k2 := blk_cell X1.out 1 _ rfl
          have z1 := blk_lt X1.out
          have k3 := blk_cell X3.out 0 _ rfl
          have k4 := blk_cell X3.out 1 _ rfl
          have f3 := blk_fz X3.out 0
          have f4 := blk_fz X3.out 1
          have z3 := blk_lt X3.out
          have HS2 : Hid (pre l (k + 1) a b = (s, t)) := Lib.hid (by rw [HN.out]; unfold nstep; rw [if_pos ⟨rfl, rfl⟩])
          go_wp2_with fail
          go_roundw
          case rel => exact ⟨k + 1, s, t, by omega, by go_num, HS2, HI, HB.out, X1, X2, X3⟩
          case measure => simp [intOf]; omega
        · have n1 : ¬ (a = a ∧ q = b) := fun h => p2 h.2
          go_upto_region 5 with fail
          have G1 := fun p => cell_blw (w := wr) (a := ⟨g, g0 + k * 2, none⟩) zb d1 p
          have G2 := fun p => cell_blw (w := wr) (a := ⟨g, g0 + k * 2 + 1, none⟩) zb d2 p
          have G3 := fun p => cell_blw (w := wr) (a := ⟨w.heap.size, 0, none⟩) z1 k1 p
          have G4 := fun p => cell_blw (w := wr) (a := ⟨w.heap.size, 1, none⟩) z1 k2 p
          have G5 := fun p => cell_blw (w := wr) (a := ⟨w.heap.size + 1 + 1, 0, none⟩) z3 k3 p
          have G6 := fun p => cell_blw (w := wr) (a := ⟨w.heap.size + 1 + 1, 1, none⟩) z3 k4 p
          clear d1 d2 zb k1 k2 z1 k3 k4 f3 f4 z3
          refine wb_region mixedP (by kernel_rfl) ?_
          repeat (refine wq_step (fun K hK => ?_); go_simp; first | (refine hK _ ?_; clear hK K) | (apply Exists.intro; refine ⟨fun _ => ?_, hK _ ?_⟩; (fail); clear hK K))
          refine wq_nil ?_
          intro _ hw'
          obtain ⟨pb, hw''⟩ := hw'
          subst hw''
          clear G1 G2 G3 G4 G5 G6
          replace D12 := Lib.hid (And.intro (cell_call D12.out.1 pb.hb) (cell_call D12.out.2 pb.hb))
          replace X1 := Lib.hid (blk_call X1.out pb.hb)
          replace X2 := Lib.hid (blk_call X2.out pb.hb)
          replace X3 := Lib.hid (blk_call X3.out pb.hb)
          replace HB := Lib.hid (HB.out.trans (pb.hb.mono HB.out.size))
          obtain ⟨w5, hb5⟩ := pb
          change Hid (Below w.heap.size w w5) at HB
          change Hid (w5.heap[w.heap.size]? = _) at X1
          change Hid (w5.heap[w.heap.size + 1]? = _) at X2
          change Hid (w5.heap[w.heap.size + 1 + 1]? = _) at X3
          change Hid (w5.cell? _ = _ ∧ w5.cell? _ = _) at D12
          dsimp only
          clear hb5
          obtain ⟨d1, d2⟩ := D12.out
          have zb : g < w5.heap.size := World.block_lt_of_cell? w5 ⟨g, g0 + k * 2, none⟩ d1
          have k1 := blk_cell X1.out 0 _ rfl
          have k2 := blk_cell X1.out 1 _ rfl
          have z1 := blk_lt X1.out
          have k3 := blk_cell X3.out 0 _ rfl
          have k4 := blk_cell X3.out 1 _ rfl
          have f3 := blk_fz X3.out 0
          have f4 := blk_fz X3.out 1
          have z3 := blk_lt X3.out
          by_cases s1 : s = a
          · subst s
            by_cases s2 : t = b
            · subst t
              have n2 : True := trivial
              have HS2 : Hid (pre l (k + 1) a b = (a, q)) := Lib.hid (by rw [HN.out]; unfold nstep; rw [if_neg n1, if_pos ⟨rfl, rfl⟩])
              have hX1 := X1.out
              have hX2 := X2.out
              have hX3 := X3.out
              have hB9 := HB.out
              go_wp2_with fail
              go_roundw
              case rel => exact ⟨k + 1, a, q, by omega, by go_num, HS2, Lib.hid ⟨i1, i2⟩, belS (belS hB9 (by simp; omega) _) (by simp; omega) _, Lib.hid (blk_other (blk_other hX1 (by omega) _) (by omega) _), Lib.hid (blk_other (blk_other hX2 (by omega) _) (by omega) _), Lib.hid (blk_set (blk_set hX3 _) _)⟩
              case measure => simp [intOf]; omega
            · have n2 : ¬ (a = a ∧ t = b) := fun h => s2 h.2
              obtain ⟨D, hD⟩ : ∃ D, det a b a t a q = D := ⟨_, rfl⟩
              obtain ⟨F1, hF1⟩ : ∃ D, farI a b a t = D := ⟨_, rfl⟩
              obtain ⟨F2, hF2⟩ : ∃ D, farI a b a q = D := ⟨_, rfl⟩
              have HN3 : Hid (pre l (k + 1) a b = if D < 0 ∨ (D = 0 ∧ F1 < F2) then (a, q) else (a, t)) := Lib.hid (by rw [HN.out]; unfold nstep; rw [if_neg n1, if_neg n2, hD, hF1, hF2])
              have C1 := Lib.hid (fun p' : BlwBy w5 => side_is a b a t a q D p'.x ka kb HI.out.1 HI.out.2 i1 i2 (Lib.hid hD))
              have C2 := Lib.hid (fun W => far_is a b a t F1 W ka kb HI.out.1 HI.out.2 (Lib.hid hF1))
              have C3 := Lib.hid (fun W => far_is a b a q F2 W ka kb i1 i2 (Lib.hid hF2))
              clear hD hF1 hF2 HN n1 n2
              go_upto_region 8 with fail
              have G1 := fun p => cell_blw (w := w5) (a := ⟨g, g0 + k * 2, none⟩) zb d1 p
              have G2 := fun p => cell_blw (w := w5) (a := ⟨g, g0 + k * 2 + 1, none⟩) zb d2 p
              have G3 := fun p => cell_blw (w := w5) (a := ⟨w.heap.size, 0, none⟩) z1 k1 p
              have G4 := fun p => cell_blw (w := w5) (a := ⟨w.heap.size, 1, none⟩) z1 k2 p
              have G5 := fun p => cell_blw (w := w5) (a := ⟨w.heap.size + 1 + 1, 0, none⟩) z3 k3 p
              have G6 := fun p => cell_blw (w := w5) (a := ⟨w.heap.size + 1 + 1, 1, none⟩) z3 k4 p
              clear d1 d2 zb k1 k2 z1 k3 k4 f3 f4 z3
              refine wb_region mixedP (by kernel_rfl) ?_
              repeat (refine wq_step (fun K hK => ?_); go_simp; first | (refine hK _ ?_; clear hK K) | (apply Exists.intro; refine ⟨fun _ => ?_, hK _ ?_⟩; (go_at_call 30; refine Calls.blw_of (C1.out _)); clear hK K))
              refine wq_nil ?_
              intro _ hw'
              obtain ⟨pb, hw''⟩ := hw'
              subst hw''
              clear G1 G2 G3 G4 G5 G6 C1
              replace D12 := Lib.hid (And.intro (cell_call D12.out.1 pb.hb) (cell_call D12.out.2 pb.hb))
              replace X1 := Lib.hid (blk_call X1.out pb.hb)
              replace X2 := Lib.hid (blk_call X2.out pb.hb)
              replace X3 := Lib.hid (blk_call X3.out pb.hb)
              replace HB := Lib.hid (HB.out.trans (pb.hb.mono HB.out.size))
              obtain ⟨w6, hb5⟩ := pb
              change Hid (Below w.heap.size w w6) at HB
              change Hid (w6.heap[w.heap.size]? = _) at X1
              change Hid (w6.heap[w.heap.size + 1]? = _) at X2
              change Hid (w6.heap[w.heap.size + 1 + 1]? = _) at X3
              change Hid (w6.cell? _ = _ ∧ w6.cell? _ = _) at D12
              dsimp only
              clear hb5
              obtain ⟨d1, d2⟩ := D12.out
              have zb : g < w6.heap.size := World.block_lt_of_cell? w6 ⟨g, g0 + k * 2, none⟩ d1
              have k1 := blk_cell X1.out 0 _ rfl
              have k2 := blk_cell X1.out 1 _ rfl
              have z1 := blk_lt X1.out
              have k3 := blk_cell X3.out 0 _ rfl
              have k4 := blk_cell X3.out 1 _ rfl
              have f3 := blk_fz X3.out 0
              have f4 := blk_fz X3.out 1
              have z3 := blk_lt X3.out
              go_wp2_with fail
              refine (C2.out _).mono ?_
              rintro e w7 ⟨rfl, hb⟩
              clear d1 d2 zb k1 k2 z1 k3 k4 f3 f4 z3
              replace D12 := Lib.hid (And.intro (cell_call D12.out.1 hb) (cell_call D12.out.2 hb))
              replace X1 := Lib.hid (blk_call X1.out hb)
              replace X2 := Lib.hid (blk_call X2.out hb)
              replace X3 := Lib.hid (blk_call X3.out hb)
              replace HB := Lib.hid (HB.out.trans (hb.mono HB.out.size))
              clear hb C2
              obtain ⟨d1, d2⟩ := D12.out
              have zb : g < w7.heap.size := World.block_lt_of_cell? w7 ⟨g, g0 + k * 2, none⟩ d1
              have k1 := blk_cell X1.out 0 _ rfl
              have k2 := blk_cell X1.out 1 _ rfl
              have z1 := blk_lt X1.out
              have k3 := blk_cell X3.out 0 _ rfl
              have k4 := blk_cell X3.out 1 _ rfl
              have f3 := blk_fz X3.out 0
              have f4 := blk_fz X3.out 1
              have z3 := blk_lt X3.out
              go_upto_region 10 with fail
              have G1 := fun p => cell_blw (w := w7) (a := ⟨g, g0 + k * 2, none⟩) zb d1 p
              have G2 := fun p => cell_blw (w := w7) (a := ⟨g, g0 + k * 2 + 1, none⟩) zb d2 p
              have G3 := fun p => cell_blw (w := w7) (a := ⟨w.heap.size, 0, none⟩) z1 k1 p
              have G4 := fun p => cell_blw (w := w7) (a := ⟨w.heap.size, 1, none⟩) z1 k2 p
              have G5 := fun p => cell_blw (w := w7) (a := ⟨w.heap.size + 1 + 1, 0, none⟩) z3 k3 p
              have G6 := fun p => cell_blw (w := w7) (a := ⟨w.heap.size + 1 + 1, 1, none⟩) z3 k4 p
              clear d1 d2 zb k1 k2 z1 k3 k4 f3 f4 z3
              refine wb_region mixedP (by kernel_rfl) ?_
              repeat (refine wq_step (fun K hK => ?_); go_simp; first | (refine hK _ ?_; clear hK K) | (apply Exists.intro; refine ⟨fun _ => ?_, hK _ ?_⟩; (go_at_call 37; refine Calls.blw_of (C3.out _)); clear hK K))
              refine wq_nil ?_
              intro _ hw'
              obtain ⟨pb, hw''⟩ := hw'
              subst hw''
              clear G1 G2 G3 G4 G5 G6 C3
              replace D12 := Lib.hid (And.intro (cell_call D12.out.1 pb.hb) (cell_call D12.out.2 pb.hb))
              replace X1 := Lib.hid (blk_call X1.out pb.hb)
              replace X2 := Lib.hid (blk_call X2.out pb.hb)
              replace X3 := Lib.hid (blk_call X3.out pb.hb)
              replace HB := Lib.hid (HB.out.trans (pb.hb.mono HB.out.size))
              obtain ⟨w8, hb5⟩ := pb
              change Hid (Below w.heap.size w w8) at HB
              change Hid (w8.heap[w.heap.size]? = _) at X1
              change Hid (w8.heap[w.heap.size + 1]? = _) at X2
              change Hid (w8.heap[w.heap.size + 1 + 1]? = _) at X3
              change Hid (w8.cell? _ = _ ∧ w8.cell? _ = _) at D12
              dsimp only
              clear hb5
              obtain ⟨d1, d2⟩ := D12.out
              have zb : g < w8.heap.size := World.block_lt_of_cell? w8 ⟨g, g0 + k * 2, none⟩ d1
              have k1 := blk_cell X1.out 0 _ rfl
              have k2 := blk_cell X1.out 1 _ rfl
              have z1 := blk_lt X1.out
              have k3 := blk_cell X3.out 0 _ rfl
              have k4 := blk_cell X3.out 1 _ rfl
              have f3 := blk_fz X3.out 0
              have f4 := blk_fz X3.out 1
              have z3 := blk_lt X3.out
              by_cases q1 : D < 0
              · have q2 : ¬ D = 0 := by omega
                have HS2 : Hid (pre l (k + 1) a b = (a, q)) := Lib.hid (by rw [HN3.out, if_pos (by omega)])
                have hX1 := X1.out
                have hX2 := X2.out
                have hX3 := X3.out
                have hB9 := HB.out
                go_wp2_with fail
                go_roundw
                case rel => exact ⟨k + 1, a, q, by omega, by go_num, HS2, Lib.hid ⟨i1, i2⟩, belS (belS hB9 (by simp; omega) _) (by simp; omega) _, Lib.hid (blk_other (blk_other hX1 (by omega) _) (by omega) _), Lib.hid (blk_other (blk_other hX2 (by omega) _) (by omega) _), Lib.hid (blk_set (blk_set hX3 _) _)⟩
                case measure => simp [intOf]; omega
              · by_cases q2 : D = 0
                · subst q2
                  by_cases q3 : F1 < F2
                  · skip
                    have HS2 : Hid (pre l (k + 1) a b = (a, q)) := Lib.hid (by rw [HN3.out, if_pos (by omega)])
                    have hX1 := X1.out
                    have hX2 := X2.out
                    have hX3 := X3.out
                    have hB9 := HB.out
                    go_wp2_with fail
                    go_roundw
                    case rel => exact ⟨k + 1, a, q, by omega, by go_num, HS2, Lib.hid ⟨i1, i2⟩, belS (belS hB9 (by simp; omega) _) (by simp; omega) _, Lib.hid (blk_other (blk_other hX1 (by omega) _) (by omega) _), Lib.hid (blk_other (blk_other hX2 (by omega) _) (by omega) _), Lib.hid (blk_set (blk_set hX3 _) _)⟩
                    case measure => simp [intOf]; omega
                  · skip
                    have HS2 : Hid (pre l (k + 1) a b = (a, t)) := Lib.hid (by rw [HN3.out, if_neg (by omega)])
                    go_wp2_with fail
                    go_roundw
                    case rel => exact ⟨k + 1, a, t, by omega, by go_num, HS2, HI, HB.out, X1, X2, X3⟩
                    case measure => simp [intOf]; omega
                · have q2b : (D == 0) = false := by rw [beq_eq_false_iff_ne]; exact q2
                  have HS2 : Hid (pre l (k + 1) a b = (a, t)) := Lib.hid (by rw [HN3.out, if_neg (by omega)])
                  go_wp2_with fail
                  go_roundw
                  case rel => exact ⟨k + 1, a, t, by omega, by go_num, HS2, HI, HB.out, X1, X2, X3⟩
                  case measure => simp [intOf]; omega
          · have n2 : ¬ (s = a ∧ t = b) := fun h => s1 h.1
            obtain ⟨D, hD⟩ : ∃ D, det a b s t a q = D := ⟨_, rfl⟩
            obtain ⟨F1, hF1⟩ : ∃ D, farI a b s t = D := ⟨_, rfl⟩
            obtain ⟨F2, hF2⟩ : ∃ D, farI a b a q = D := ⟨_, rfl⟩
            have HN3 : Hid (pre l (k + 1) a b = if D < 0 ∨ (D = 0 ∧ F1 < F2) then (a, q) else (s, t)) := Lib.hid (by rw [HN.out]; unfold nstep; rw [if_neg n1, if_neg n2, hD, hF1, hF2])
            have C1 := Lib.hid (fun p' : BlwBy w5 => side_is a b s t a q D p'.x ka kb HI.out.1 HI.out.2 i1 i2 (Lib.hid hD))
            have C2 := Lib.hid (fun W => far_is a b s t F1 W ka kb HI.out.1 HI.out.2 (Lib.hid hF1))
            have C3 := Lib.hid (fun W => far_is a b a q F2 W ka kb i1 i2 (Lib.hid hF2))
            clear hD hF1 hF2 HN n1 n2
            go_upto_region 8 with fail
            have G1 := fun p => cell_blw (w := w5) (a := ⟨g, g0 + k * 2, none⟩) zb d1 p
            have G2 := fun p => cell_blw (w := w5) (a := ⟨g, g0 + k * 2 + 1, none⟩) zb d2 p
            have G3 := fun p => cell_blw (w := w5) (a := ⟨w.heap.size, 0, none⟩) z1 k1 p
            have G4 := fun p => cell_blw (w := w5) (a := ⟨w.heap.size, 1, none⟩) z1 k2 p
            have G5 := fun p => cell_blw (w := w5) (a := ⟨w.heap.size + 1 + 1, 0, none⟩) z3 k3 p
            have G6 := fun p => cell_blw (w := w5) (a := ⟨w.heap.size + 1 + 1, 1, none⟩) z3 k4 p
            clear d1 d2 zb k1 k2 z1 k3 k4 f3 f4 z3
            refine wb_region mixedP (by kernel_rfl) ?_
            repeat (refine wq_step (fun K hK => ?_); go_simp; first | (refine hK _ ?_; clear hK K) | (apply Exists.intro; refine ⟨fun _ => ?_, hK _ ?_⟩; (go_at_call 30; refine Calls.blw_of (C1.out _)); clear hK K))
            refine wq_nil ?_
            intro _ hw'
            obtain ⟨pb, hw''⟩ := hw'
            subst hw''
            clear G1 G2 G3 G4 G5 G6 C1
            replace D12 := Lib.hid (And.intro (cell_call D12.out.1 pb.hb) (cell_call D12.out.2 pb.hb))
            replace X1 := Lib.hid (blk_call X1.out pb.hb)
            replace X2 := Lib.hid (blk_call X2.out pb.hb)
            replace X3 := Lib.hid (blk_call X3.out pb.hb)
            replace HB := Lib.hid (HB.out.trans (pb.hb.mono HB.out.size))
            obtain ⟨w6, hb5⟩ := pb
            change Hid (Below w.heap.size w w6) at HB
            change Hid (w6.heap[w.heap.size]? = _) at X1
            change Hid (w6.heap[w.heap.size + 1]? = _) at X2
            change Hid (w6.heap[w.heap.size + 1 + 1]? = _) at X3
            change Hid (w6.cell? _ = _ ∧ w6.cell? _ = _) at D12
            dsimp only
            clear hb5
            obtain ⟨d1, d2⟩ := D12.out
            have zb : g < w6.heap.size := World.block_lt_of_cell? w6 ⟨g, g0 + k * 2, none⟩ d1
            have k1 := blk_cell X1.out 0 _ rfl
            have k2 := blk_cell X1.out 1 _ rfl
            have z1 := blk_lt X1.out
            have k3 := blk_cell X3.out 0 _ rfl
            have k4 := blk_cell X3.out 1 _ rfl
            have f3 := blk_fz X3.out 0
            have f4 := blk_fz X3.out 1
            have z3 := blk_lt X3.out
            go_wp2_with fail
            refine (C2.out _).mono ?_
            rintro e w7 ⟨rfl, hb⟩
            clear d1 d2 zb k1 k2 z1 k3 k4 f3 f4 z3
            replace D12 := Lib.hid (And.intro (cell_call D12.out.1 hb) (cell_call D12.out.2 hb))
            replace X1 := Lib.hid (blk_call X1.out hb)
            replace X2 := Lib.hid (blk_call X2.out hb)
            replace X3 := Lib.hid (blk_call X3.out hb)
            replace HB := Lib.hid (HB.out.trans (hb.mono HB.out.size))
            clear hb C2
            obtain ⟨d1, d2⟩ := D12.out
            have zb : g < w7.heap.size := World.block_lt_of_cell? w7 ⟨g, g0 + k * 2, none⟩ d1
            have k1 := blk_cell X1.out 0 _ rfl
            have k2 := blk_cell X1.out 1 _ rfl
            have z1 := blk_lt X1.out
            have k3 := blk_cell X3.out 0 _ rfl
            have k4 := blk_cell X3.out 1 _ rfl
            have f3 := blk_fz X3.out 0
            have f4 := blk_fz X3.out 1
            have z3 := blk_lt X3.out
            go_upto_region 10 with fail
            have G1 := fun p => cell_blw (w := w7) (a := ⟨g, g0 + k * 2, none⟩) zb d1 p
            have G2 := fun p => cell_blw (w := w7) (a := ⟨g, g0 + k * 2 + 1, none⟩) zb d2 p
            have G3 := fun p => cell_blw (w := w7) (a := ⟨w.heap.size, 0, none⟩) z1 k1 p
            have G4 := fun p => cell_blw (w := w7) (a := ⟨w.heap.size, 1, none⟩) z1 k2 p
            have G5 := fun p => cell_blw (w := w7) (a := ⟨w.heap.size + 1 + 1, 0, none⟩) z3 k3 p
            have G6 := fun p => cell_blw (w := w7) (a := ⟨w.heap.size + 1 + 1, 1, none⟩) z3 k4 p
            clear d1 d2 zb k1 k2 z1 k3 k4 f3 f4 z3
            refine wb_region mixedP (by kernel_rfl) ?_
            repeat (refine wq_step (fun K hK => ?_); go_simp; first | (refine hK _ ?_; clear hK K) | (apply Exists.intro; refine ⟨fun _ => ?_, hK _ ?_⟩; (go_at_call 37; refine Calls.blw_of (C3.out _)); clear hK K))
            refine wq_nil ?_
            intro _ hw'
            obtain ⟨pb, hw''⟩ := hw'
            subst hw''
            clear G1 G2 G3 G4 G5 G6 C3
            replace D12 := Lib.hid (And.intro (cell_call D12.out.1 pb.hb) (cell_call D12.out.2 pb.hb))
            replace X1 := Lib.hid (blk_call X1.out pb.hb)
            replace X2 := Lib.hid (blk_call X2.out pb.hb)
            replace X3 := Lib.hid (blk_call X3.out pb.hb)
            replace HB := Lib.hid (HB.out.trans (pb.hb.mono HB.out.size))
            obtain ⟨w8, hb5⟩ := pb
            change Hid (Below w.heap.size w w8) at HB
            change Hid (w8.heap[w.heap.size]? = _) at X1
            change Hid (w8.heap[w.heap.size + 1]? = _) at X2
            change Hid (w8.heap[w.heap.size + 1 + 1]? = _) at X3
            change Hid (w8.cell? _ = _ ∧ w8.cell? _ = _) at D12
            dsimp only
            clear hb5
            obtain ⟨d1, d2⟩ := D12.out
            have zb : g < w8.heap.size := World.block_lt_of_cell? w8 ⟨g, g0 + k * 2, none⟩ d1
            have k1 := blk_cell X1.out 0 _ rfl
            have k2 := blk_cell X1.out 1 _ rfl
            have z1 := blk_lt X1.out
            have k3 := blk_cell X3.out 0 _ rfl
            have k4 := blk_cell X3.out 1 _ rfl
            have f3 := blk_fz X3.out 0
            have f4 := blk_fz X3.out 1
            have z3 := blk_lt X3.out
            by_cases q1 : D < 0
            · have q2 : ¬ D = 0 := by omega
              have HS2 : Hid (pre l (k + 1) a b = (a, q)) := Lib.hid (by rw [HN3.out, if_pos (by omega)])
              have hX1 := X1.out
              have hX2 := X2.out
              have hX3 := X3.out
              have hB9 := HB.out
              go_wp2_with fail
              go_roundw
              case rel => exact ⟨k + 1, a, q, by omega, by go_num, HS2, Lib.hid ⟨i1, i2⟩, belS (belS hB9 (by simp; omega) _) (by simp; omega) _, Lib.hid (blk_other (blk_other hX1 (by omega) _) (by omega) _), Lib.hid (blk_other (blk_other hX2 (by omega) _) (by omega) _), Lib.hid (blk_set (blk_set hX3 _) _)⟩
              case measure => simp [intOf]; omega
            · by_cases q2 : D = 0
              · subst q2
                by_cases q3 : F1 < F2
                · skip
                  have HS2 : Hid (pre l (k + 1) a b = (a, q)) := Lib.hid (by rw [HN3.out, if_pos (by omega)])
                  have hX1 := X1.out
                  have hX2 := X2.out
                  have hX3 := X3.out
                  have hB9 := HB.out
                  go_wp2_with fail
                  go_roundw
                  case rel => exact ⟨k + 1, a, q, by omega, by go_num, HS2, Lib.hid ⟨i1, i2⟩, belS (belS hB9 (by simp; omega) _) (by simp; omega) _, Lib.hid (blk_other (blk_other hX1 (by omega) _) (by omega) _), Lib.hid (blk_other (blk_other hX2 (by omega) _) (by omega) _), Lib.hid (blk_set (blk_set hX3 _) _)⟩
                  case measure => simp [intOf]; omega
                · skip
                  have HS2 : Hid (pre l (k + 1) a b = (s, t)) := Lib.hid (by rw [HN3.out, if_neg (by omega)])
                  go_wp2_with fail
                  go_roundw
                  case rel => exact ⟨k + 1, s, t, by omega, by go_num, HS2, HI, HB.out, X1, X2, X3⟩
                  case measure => simp [intOf]; omega
              · have q2b : (D == 0) = false := by rw [beq_eq_false_iff_ne]; exact q2
                have HS2 : Hid (pre l (k + 1) a b = (s, t)) := Lib.hid (by rw [HN3.out, if_neg (by omega)])
                go_wp2_with fail
                go_roundw
                case rel => exact ⟨k + 1, s, t, by omega, by go_num, HS2, HI, HB.out, X1, X2, X3⟩
                case measure => simp [intOf]; omega
      · have n1 : ¬ (p = a ∧ q = b) := fun h => p1 h.1
        go_upto_region 5 with fail
        have G1 := fun p => cell_blw (w := wr) (a := ⟨g, g0 + k * 2, none⟩) zb d1 p
        have G2 := fun p => cell_blw (w := wr) (a := ⟨g, g0 + k * 2 + 1, none⟩) zb d2 p
        have G3 := fun p => cell_blw (w := wr) (a := ⟨w.heap.size, 0, none⟩) z1 k1 p
        have G4 := fun p => cell_blw (w := wr) (a := ⟨w.heap.size, 1, none⟩) z1 k2 p
        have G5 := fun p => cell_blw (w := wr) (a := ⟨w.heap.size + 1 + 1, 0, none⟩) z3 k3 p
        have G6 := fun p => cell_blw (w := wr) (a := ⟨w.heap.size + 1 + 1, 1, none⟩) z3 k4 p
        clear d1 d2 zb k1 k2 z1 k3 k4 f3 f4 z3
        refine wb_region mixedP (by kernel_rfl) ?_
        repeat (refine wq_step (fun K hK => ?_); go_simp; first | (refine hK _ ?_; clear hK K) | (apply Exists.intro; refine ⟨fun _ => ?_, hK _ ?_⟩; (fail); clear hK K))
        refine wq_nil ?_
        intro _ hw'
        obtain ⟨pb, hw''⟩ := hw'
        subst hw''
        clear G1 G2 G3 G4 G5 G6
        replace D12 := Lib.hid (And.intro (cell_call D12.out.1 pb.hb) (cell_call D12.out.2 pb.hb))
        replace X1 := Lib.hid (blk_call X1.out pb.hb)
        replace X2 := Lib.hid (blk_call X2.out pb.hb)
        replace X3 := Lib.hid (blk_call X3.out pb.hb)
        replace HB := Lib.hid (HB.out.trans (pb.hb.mono HB.out.size))
        obtain ⟨w5, hb5⟩ := pb
        change Hid (Below w.heap.size w w5) at HB
        change Hid (w5.heap[w.heap.size]? = _) at X1
        change Hid (w5.heap[w.heap.size + 1]? = _) at X2
        change Hid (w5.heap[w.heap.size + 1 + 1]? = _) at X3
        change Hid (w5.cell? _ = _ ∧ w5.cell? _ = _) at D12
        dsimp only
        clear hb5
        obtain ⟨d1, d2⟩ := D12.out
        have zb : g < w5.heap.size := World.block_lt_of_cell? w5 ⟨g, g0 + k * 2, none⟩ d1
        have k1 := blk_cell X1.out 0 _ rfl
        have k2 := blk_cell X1.out 1 _ rfl
        have z1 := blk_lt X1.out
        have k3 := blk_cell X3.out 0 _ rfl
        have k4 := blk_cell X3.out 1 _ rfl
        have f3 := blk_fz X3.out 0
        have f4 := blk_fz X3.out 1
        have z3 := blk_lt X3.out
        by_cases s1 : s = a
        · subst s
          by_cases s2 : t = b
          · subst t
            have n2 : True := trivial
            have HS2 : Hid (pre l (k + 1) a b = (p, q)) := Lib.hid (by rw [HN.out]; unfold nstep; rw [if_neg n1, if_pos ⟨rfl, rfl⟩])
            have hX1 := X1.out
            have hX2 := X2.out
            have hX3 := X3.out
            have hB9 := HB.out
            go_wp2_with fail
            go_roundw
            case rel => exact ⟨k + 1, p, q, by omega, by go_num, HS2, Lib.hid ⟨i1, i2⟩, belS (belS hB9 (by simp; omega) _) (by simp; omega) _, Lib.hid (blk_other (blk_other hX1 (by omega) _) (by omega) _), Lib.hid (blk_other (blk_other hX2 (by omega) _) (by omega) _), Lib.hid (blk_set (blk_set hX3 _) _)⟩
            case measure => simp [intOf]; omega
          · have n2 : ¬ (a = a ∧ t = b) := fun h => s2 h.2
            obtain ⟨D, hD⟩ : ∃ D, det a b a t p q = D := ⟨_, rfl⟩
            obtain ⟨F1, hF1⟩ : ∃ D, farI a b a t = D := ⟨_, rfl⟩
            obtain ⟨F2, hF2⟩ : ∃ D, farI a b p q = D := ⟨_, rfl⟩
            have HN3 : Hid (pre l (k + 1) a b = if D < 0 ∨ (D = 0 ∧ F1 < F2) then (p, q) else (a, t)) := Lib.hid (by rw [HN.out]; unfold nstep; rw [if_neg n1, if_neg n2, hD, hF1, hF2])
            have C1 := Lib.hid (fun p' : BlwBy w5 => side_is a b a t p q D p'.x ka kb HI.out.1 HI.out.2 i1 i2 (Lib.hid hD))
            have C2 := Lib.hid (fun W => far_is a b a t F1 W ka kb HI.out.1 HI.out.2 (Lib.hid hF1))
            have C3 := Lib.hid (fun W => far_is a b p q F2 W ka kb i1 i2 (Lib.hid hF2))
            clear hD hF1 hF2 HN n1 n2
            go_upto_region 8 with fail
            have G1 := fun p => cell_blw (w := w5) (a := ⟨g, g0 + k * 2, none⟩) zb d1 p
            have G2 := fun p => cell_blw (w := w5) (a := ⟨g, g0 + k * 2 + 1, none⟩) zb d2 p
            have G3 := fun p => cell_blw (w := w5) (a := ⟨w.heap.size, 0, none⟩) z1 k1 p
            have G4 := fun p => cell_blw (w := w5) (a := ⟨w.heap.size, 1, none⟩) z1 k2 p
            have G5 := fun p => cell_blw (w := w5) (a := ⟨w.heap.size + 1 + 1, 0, none⟩) z3 k3 p
            have G6 := fun p => cell_blw (w := w5) (a := ⟨w.heap.size + 1 + 1, 1, none⟩) z3 k4 p
            clear d1 d2 zb k1 k2 z1 k3 k4 f3 f4 z3
            refine wb_region mixedP (by kernel_rfl) ?_
            repeat (refine wq_step (fun K hK => ?_); go_simp; first | (refine hK _ ?_; clear hK K) | (apply Exists.intro; refine ⟨fun _ => ?_, hK _ ?_⟩; (go_at_call 30; refine Calls.blw_of (C1.out _)); clear hK K))
            refine wq_nil ?_
            intro _ hw'
            obtain ⟨pb, hw''⟩ := hw'
            subst hw''
            clear G1 G2 G3 G4 G5 G6 C1
            replace D12 := Lib.hid (And.intro (cell_call D12.out.1 pb.hb) (cell_call D12.out.2 pb.hb))
            replace X1 := Lib.hid (blk_call X1.out pb.hb)
            replace X2 := Lib.hid (blk_call X2.out pb.hb)
            replace X3 := Lib.hid (blk_call X3.out pb.hb)
            replace HB := Lib.hid (HB.out.trans (pb.hb.mono HB.out.size))
            obtain ⟨w6, hb5⟩ := pb
            change Hid (Below w.heap.size w w6) at HB
            change Hid (w6.heap[w.heap.size]? = _) at X1
            change Hid (w6.heap[w.heap.size + 1]? = _) at X2
            change Hid (w6.heap[w.heap.size + 1 + 1]? = _) at X3
            change Hid (w6.cell? _ = _ ∧ w6.cell? _ = _) at D12
            dsimp only
            clear hb5
            obtain ⟨d1, d2⟩ := D12.out
            have zb : g < w6.heap.size := World.block_lt_of_cell? w6 ⟨g, g0 + k * 2, none⟩ d1
            have k1 := blk_cell X1.out 0 _ rfl
            have k2 := blk_cell X1.out 1 _ rfl
            have z1 := blk_lt X1.out
            have k3 := blk_cell X3.out 0 _ rfl
            have k4 := blk_cell X3.out 1 _ rfl
            have f3 := blk_fz X3.out 0
            have f4 := blk_fz X3.out 1
            have z3 := blk_lt X3.out
            go_wp2_with fail
            refine (C2.out _).mono ?_
            rintro e w7 ⟨rfl, hb⟩
            clear d1 d2 zb k1 k2 z1 k3 k4 f3 f4 z3
            replace D12 := Lib.hid (And.intro (cell_call D12.out.1 hb) (cell_call D12.out.2 hb))
            replace X1 := Lib.hid (blk_call X1.out hb)
            replace X2 := Lib.hid (blk_call X2.out hb)
            replace X3 := Lib.hid (blk_call X3.out hb)
            replace HB := Lib.hid (HB.out.trans (hb.mono HB.out.size))
            clear hb C2
            obtain ⟨d1, d2⟩ := D12.out
            have zb : g < w7.heap.size := World.block_lt_of_cell? w7 ⟨g, g0 + k * 2, none⟩ d1
            have k1 := blk_cell X1.out 0 _ rfl
            have k2 := blk_cell X1.out 1 _ rfl
            have z1 := blk_lt X1.out
            have k3 := blk_cell X3.out 0 _ rfl
            have k4 := blk_cell X3.out 1 _ rfl
            have f3 := blk_fz X3.out 0
            have f4 := blk_fz X3.out 1
            have z3 := blk_lt X3.out
            go_upto_region 10 with fail
            have G1 := fun p => cell_blw (w := w7) (a := ⟨g, g0 + k * 2, none⟩) zb d1 p
            have G2 := fun p => cell_blw (w := w7) (a := ⟨g, g0 + k * 2 + 1, none⟩) zb d2 p
            have G3 := fun p => cell_blw (w := w7) (a := ⟨w.heap.size, 0, none⟩) z1 k1 p
            have G4 := fun p => cell_blw (w := w7) (a := ⟨w.heap.size, 1, none⟩) z1 k2 p
            have G5 := fun p => cell_blw (w := w7) (a := ⟨w.heap.size + 1 + 1, 0, none⟩) z3 k3 p
            have G6 := fun p => cell_blw (w := w7) (a := ⟨w.heap.size + 1 + 1, 1, none⟩) z3 k4 p
            clear d1 d2 zb k1 k2 z1 k3 k4 f3 f4 z3
            refine wb_region mixedP (by kernel_rfl) ?_
            repeat (refine wq_step (fun K hK => ?_); go_simp; first | (refine hK _ ?_; clear hK K) | (apply Exists.intro; refine ⟨fun _ => ?_, hK _ ?_⟩; (go_at_call 37; refine Calls.blw_of (C3.out _)); clear hK K))
            refine wq_nil ?_
            intro _ hw'
            obtain ⟨pb, hw''⟩ := hw'
            subst hw''
            clear G1 G2 G3 G4 G5 G6 C3
            replace D12 := Lib.hid (And.intro (cell_call D12.out.1 pb.hb) (cell_call D12.out.2 pb.hb))
            replace X1 := Lib.hid (blk_call X1.out pb.hb)
            replace X2 := Lib.hid (blk_call X2.out pb.hb)
            replace X3 := Lib.hid (blk_call X3.out pb.hb)
            replace HB := Lib.hid (HB.out.trans (pb.hb.mono HB.out.size))
            obtain ⟨w8, hb5⟩ := pb
            change Hid (Below w.heap.size w w8) at HB
            change Hid (w8.heap[w.heap.size]? = _) at X1
            change Hid (w8.heap[w.heap.size + 1]? = _) at X2
            change Hid (w8.heap[w.heap.size + 1 + 1]? = _) at X3
            change Hid (w8.cell? _ = _ ∧ w8.cell? _ = _) at D12
            dsimp only
            clear hb5
            obtain ⟨d1, d2⟩ := D12.out
            have zb : g < w8.heap.size := World.block_lt_of_cell? w8 ⟨g, g0 + k * 2, none⟩ d1
            have k1 := blk_cell X1.out 0 _ rfl
            have k2 := blk_cell X1.out 1 _ rfl
            have z1 := blk_lt X1.out
            have k3 := blk_cell X3.out 0 _ rfl
            have k4 := blk_cell X3.out 1 _ rfl
            have f3 := blk_fz X3.out 0
            have f4 := blk_fz X3.out 1
            have z3 := blk_lt X3.out
            by_cases q1 : D < 0
            · have q2 : ¬ D = 0 := by omega
              have HS2 : Hid (pre l (k + 1) a b = (p, q)) := Lib.hid (by rw [HN3.out, if_pos (by omega)])
              have hX1 := X1.out
              have hX2 := X2.out
              have hX3 := X3.out
              have hB9 := HB.out
              go_wp2_with fail
              go_roundw
              case rel => exact ⟨k + 1, p, q, by omega, by go_num, HS2, Lib.hid ⟨i1, i2⟩, belS (belS hB9 (by simp; omega) _) (by simp; omega) _, Lib.hid (blk_other (blk_other hX1 (by omega) _) (by omega) _), Lib.hid (blk_other (blk_other hX2 (by omega) _) (by omega) _), Lib.hid (blk_set (blk_set hX3 _) _)⟩
              case measure => simp [intOf]; omega
            · by_cases q2 : D = 0
              · subst q2
                by_cases q3 : F1 < F2
                · skip
                  have HS2 : Hid (pre l (k + 1) a b = (p, q)) := Lib.hid (by rw [HN3.out, if_pos (by omega)])
                  have hX1 := X1.out
                  have hX2 := X2.out
                  have hX3 := X3.out
                  have hB9 := HB.out
                  go_wp2_with fail
                  go_roundw
                  case rel => exact ⟨k + 1, p, q, by omega, by go_num, HS2, Lib.hid ⟨i1, i2⟩, belS (belS hB9 (by simp; omega) _) (by simp; omega) _, Lib.hid (blk_other (blk_other hX1 (by omega) _) (by omega) _), Lib.hid (blk_other (blk_other hX2 (by omega) _) (by omega) _), Lib.hid (blk_set (blk_set hX3 _) _)⟩
                  case measure => simp [intOf]; omega
                · skip
                  have HS2 : Hid (pre l (k + 1) a b = (a, t)) := Lib.hid (by rw [HN3.out, if_neg (by omega)])
                  go_wp2_with fail
                  go_roundw
                  case rel => exact ⟨k + 1, a, t, by omega, by go_num, HS2, HI, HB.out, X1, X2, X3⟩
                  case measure => simp [intOf]; omega
              · have q2b : (D == 0) = false := by rw [beq_eq_false_iff_ne]; exact q2
                have HS2 : Hid (pre l (k + 1) a b = (a, t)) := Lib.hid (by rw [HN3.out, if_neg (by omega)])
                go_wp2_with fail
                go_roundw
                case rel => exact ⟨k + 1, a, t, by omega, by go_num, HS2, HI, HB.out, X1, X2, X3⟩
                case measure => simp [intOf]; omega
        · have n2 : ¬ (s = a ∧ t = b) := fun h => s1 h.1
          obtain ⟨D, hD⟩ : ∃ D, det a b s t p q = D := ⟨_, rfl⟩
          obtain ⟨F1, hF1⟩ : ∃ D, farI a b s t = D := ⟨_, rfl⟩
          obtain ⟨F2, hF2⟩ : ∃ D, farI a b p q = D := ⟨_, rfl⟩
          have HN3 : Hid (pre l (k + 1) a b = if D < 0 ∨ (D = 0 ∧ F1 < F2) then (p, q) else (s, t)) := Lib.hid (by rw [HN.out]; unfold nstep; rw [if_neg n1, if_neg n2, hD, hF1, hF2])
          have C1 := Lib.hid (fun p' : BlwBy w5 => side_is a b s t p q D p'.x ka kb HI.out.1 HI.out.2 i1 i2 (Lib.hid hD))
          have C2 := Lib.hid (fun W => far_is a b s t F1 W ka kb HI.out.1 HI.out.2 (Lib.hid hF1))
          have C3 := Lib.hid (fun W => far_is a b p q F2 W ka kb i1 i2 (Lib.hid hF2))
          clear hD hF1 hF2 HN n1 n2
          go_upto_region 8 with fail
          have G1 := fun p => cell_blw (w := w5) (a := ⟨g, g0 + k * 2, none⟩) zb d1 p
          have G2 := fun p => cell_blw (w := w5) (a := ⟨g, g0 + k * 2 + 1, none⟩) zb d2 p
          have G3 := fun p => cell_blw (w := w5) (a := ⟨w.heap.size, 0, none⟩) z1 k1 p
          have G4 := fun p => cell_blw (w := w5) (a := ⟨w.heap.size, 1, none⟩) z1 k2 p
          have G5 := fun p => cell_blw (w := w5) (a := ⟨w.heap.size + 1 + 1, 0, none⟩) z3 k3 p
          have G6 := fun p => cell_blw (w := w5) (a := ⟨w.heap.size + 1 + 1, 1, none⟩) z3 k4 p
          clear d1 d2 zb k1 k2 z1 k3 k4 f3 f4 z3
          refine wb_region mixedP (by kernel_rfl) ?_
          repeat (refine wq_step (fun K hK => ?_); go_simp; first | (refine hK _ ?_; clear hK K) | (apply Exists.intro; refine ⟨fun _ => ?_, hK _ ?_⟩; (go_at_call 30; refine Calls.blw_of (C1.out _)); clear hK K))
          refine wq_nil ?_
          intro _ hw'
          obtain ⟨pb, hw''⟩ := hw'
          subst hw''
          clear G1 G2 G3 G4 G5 G6 C1
          replace D12 := Lib.hid (And.intro (cell_call D12.out.1 pb.hb) (cell_call D12.out.2 pb.hb))
          replace X1 := Lib.hid (blk_call X1.out pb.hb)
          replace X2 := Lib.hid (blk_call X2.out pb.hb)
          replace X3 := Lib.hid (blk_call X3.out pb.hb)
          replace HB := Lib.hid (HB.out.trans (pb.hb.mono HB.out.size))
          obtain ⟨w6, hb5⟩ := pb
          change Hid (Below w.heap.size w w6) at HB
          change Hid (w6.heap[w.heap.size]? = _) at X1
          change Hid (w6.heap[w.heap.size + 1]? = _) at X2
          change Hid (w6.heap[w.heap.size + 1 + 1]? = _) at X3
          change Hid (w6.cell? _ = _ ∧ w6.cell? _ = _) at D12
          dsimp only
          clear hb5
          obtain ⟨d1, d2⟩ := D12.out
          have zb : g < w6.heap.size := World.block_lt_of_cell? w6 ⟨g, g0 + k * 2, none⟩ d1
          have k1 := blk_cell X1.out 0 _ rfl
          have k2 := blk_cell X1.out 1 _ rfl
          have z1 := blk_lt X1.out
          have k3 := blk_cell X3.out 0 _ rfl
          have k4 := blk_cell X3.out 1 _ rfl
          have f3 := blk_fz X3.out 0
          have f4 := blk_fz X3.out 1
          have z3 := blk_lt X3.out
          go_wp2_with fail
          refine (C2.out _).mono ?_
          rintro e w7 ⟨rfl, hb⟩
          clear d1 d2 zb k1 k2 z1 k3 k4 f3 f4 z3
          replace D12 := Lib.hid (And.intro (cell_call D12.out.1 hb) (cell_call D12.out.2 hb))
          replace X1 := Lib.hid (blk_call X1.out hb)
          replace X2 := Lib.hid (blk_call X2.out hb)
          replace X3 := Lib.hid (blk_call X3.out hb)
          replace HB := Lib.hid (HB.out.trans (hb.mono HB.out.size))
          clear hb C2
          obtain ⟨d1, d2⟩ := D12.out
          have zb : g < w7.heap.size := World.block_lt_of_cell? w7 ⟨g, g0 + k * 2, none⟩ d1
          have k1 := blk_cell X1.out 0 _ rfl
          have k2 := blk_cell X1.out 1 _ rfl
          have z1 := blk_lt X1.out
          have k3 := blk_cell X3.out 0 _ rfl
          have k4 := blk_cell X3.out 1 _ rfl
          have f3 := blk_fz X3.out 0
          have f4 := blk_fz X3.out 1
          have z3 := blk_lt X3.out
          go_upto_region 10 with fail
          have G1 := fun p => cell_blw (w := w7) (a := ⟨g, g0 + k * 2, none⟩) zb d1 p
          have G2 := fun p => cell_blw (w := w7) (a := ⟨g, g0 + k * 2 + 1, none⟩) zb d2 p
          have G3 := fun p => cell_blw (w := w7) (a := ⟨w.heap.size, 0, none⟩) z1 k1 p
          have G4 := fun p => cell_blw (w := w7) (a := ⟨w.heap.size, 1, none⟩) z1 k2 p
          have G5 := fun p => cell_blw (w := w7) (a := ⟨w.heap.size + 1 + 1, 0, none⟩) z3 k3 p
          have G6 := fun p => cell_blw (w := w7) (a := ⟨w.heap.size + 1 + 1, 1, none⟩) z3 k4 p
          clear d1 d2 zb k1 k2 z1 k3 k4 f3 f4 z3
          refine wb_region mixedP (by kernel_rfl) ?_
          repeat (refine wq_step (fun K hK => ?_); go_simp; first | (refine hK _ ?_; clear hK K) | (apply Exists.intro; refine ⟨fun _ => ?_, hK _ ?_⟩; (go_at_call 37; refine Calls.blw_of (C3.out _)); clear hK K))
          refine wq_nil ?_
          intro _ hw'
          obtain ⟨pb, hw''⟩ := hw'
          subst hw''
          clear G1 G2 G3 G4 G5 G6 C3
          replace D12 := Lib.hid (And.intro (cell_call D12.out.1 pb.hb) (cell_call D12.out.2 pb.hb))
          replace X1 := Lib.hid (blk_call X1.out pb.hb)
          replace X2 := Lib.hid (blk_call X2.out pb.hb)
          replace X3 := Lib.hid (blk_call X3.out pb.hb)
          replace HB := Lib.hid (HB.out.trans (pb.hb.mono HB.out.size))
          obtain ⟨w8, hb5⟩ := pb
          change Hid (Below w.heap.size w w8) at HB
          change Hid (w8.heap[w.heap.size]? = _) at X1
          change Hid (w8.heap[w.heap.size + 1]? = _) at X2
          change Hid (w8.heap[w.heap.size + 1 + 1]? = _) at X3
          change Hid (w8.cell? _ = _ ∧ w8.cell? _ = _) at D12
          dsimp only
          clear hb5
          obtain ⟨d1, d2⟩ := D12.out
          have zb : g < w8.heap.size := World.block_lt_of_cell? w8 ⟨g, g0 + k * 2, none⟩ d1
          have k1 := blk_cell X1.out 0 _ rfl
          have k2 := blk_cell X1.out 1 _ rfl
          have z1 := blk_lt X1.out
          have k3 := blk_cell X3.out 0 _ rfl
          have k4 := blk_cell X3.out 1 _ rfl
          have f3 := blk_fz X3.out 0
          have f4 := blk_fz X3.out 1
          have z3 := blk_lt X3.out
          by_cases q1 : D < 0
          · have q2 : ¬ D = 0 := by omega
            have HS2 : Hid (pre l (k + 1) a b = (p, q)) := Lib.hid (by rw [HN3.out, if_pos (by omega)])
            have hX1 := X1.out
            have hX2 := X2.out
            have hX3 := X3.out
            have hB9 := HB.out
            go_wp2_with fail
            go_roundw
            case rel => exact ⟨k + 1, p, q, by omega, by go_num, HS2, Lib.hid ⟨i1, i2⟩, belS (belS hB9 (by simp; omega) _) (by simp; omega) _, Lib.hid (blk_other (blk_other hX1 (by omega) _) (by omega) _), Lib.hid (blk_other (blk_other hX2 (by omega) _) (by omega) _), Lib.hid (blk_set (blk_set hX3 _) _)⟩
            case measure => simp [intOf]; omega
          · by_cases q2 : D = 0
            · subst q2
              by_cases q3 : F1 < F2
              · skip
                have HS2 : Hid (pre l (k + 1) a b = (p, q)) := Lib.hid (by rw [HN3.out, if_pos (by omega)])
                have hX1 := X1.out
                have hX2 := X2.out
                have hX3 := X3.out
                have hB9 := HB.out
                go_wp2_with fail
                go_roundw
                case rel => exact ⟨k + 1, p, q, by omega, by go_num, HS2, Lib.hid ⟨i1, i2⟩, belS (belS hB9 (by simp; omega) _) (by simp; omega) _, Lib.hid (blk_other (blk_other hX1 (by omega) _) (by omega) _), Lib.hid (blk_other (blk_other hX2 (by omega) _) (by omega) _), Lib.hid (blk_set (blk_set hX3 _) _)⟩
                case measure => simp [intOf]; omega
              · skip
                have HS2 : Hid (pre l (k + 1) a b = (s, t)) := Lib.hid (by rw [HN3.out, if_neg (by omega)])
                go_wp2_with fail
                go_roundw
                case rel => exact ⟨k + 1, s, t, by omega, by go_num, HS2, HI, HB.out, X1, X2, X3⟩
                case measure => simp [intOf]; omega
            · have q2b : (D == 0) = false := by rw [beq_eq_false_iff_ne]; exact q2
              have HS2 : Hid (pre l (k + 1) a b = (s, t)) := Lib.hid (by rw [HN3.out, if_neg (by omega)])
              go_wp2_with fail
              go_roundw
              case rel => exact ⟨k + 1, s, t, by omega, by go_num, HS2, HI, HB.out, X1, X2, X3⟩
              case measure => simp [intOf]; omega
    · obtain rfl : k = l.length := by omega
      have HE : Hid ((s, t) = (x, y)) := Lib.hid (by rw [← hr.out, ← pre_all, HS.out])
      have hX2 := X2.out
      have HB := Lib.hid hB
      have k1 := blk_cell X2.out 0 _ rfl
      have k2 := blk_cell X2.out 1 _ rfl
      have f1 := blk_fz X2.out 0
      have f2 := blk_fz X2.out 1
      have z1 := blk_lt X2.out
      have k3 := blk_cell X3.out 0 _ rfl
      have k4 := blk_cell X3.out 1 _ rfl
      have z3 := blk_lt X3.out
      clear hB
      go_wp2_with fail
      have hS : ((wr.setCell ⟨w.heap.size + 1, 0, none⟩ (.int .i64 s)).setCell ⟨w.heap.size + 1, 1, none⟩ (.int .i64 t)).heap[w.heap.size + 1]? = some (.cells #[.int .i64 s, .int .i64 t] 35 (0, 0)) := blk_set (blk_set hX2 _) _
      have y0 := blk_cell hS 0 _ rfl
      have y1 := blk_cell hS 1 _ rfl
      refine bodyPost_ret (v := .agg #[.int .i64 s, .int .i64 t]) (by simp [results, Try.results46, go_sem, y0, y1]) rfl ?_
      have hq := HE.out
      simp only [Prod.mk.injEq] at hq
      obtain ⟨rfl, rfl⟩ := hq
      exact ⟨rfl, belS (belS HB.out (by simp) _) (by simp) _⟩
end Go.Proofs.Ytnpadblfpaiofaa
