/- Contract of package polygon: crossesRay. The coordinates are in range. -/
import Derived.Test.YthmcejeeohlafaaDoorPolC
import Derived.Test.YthmcejeeohlafaaDoorGeoC
import Derived.Deep.DeepCutAuto
namespace Go.Proofs.YthmcejeeohlafaaDoor
open Go.ChangeShapes Go.WideShapes Go.ChangeAt Go.RowKit
set_option linter.unusedVariables false
set_option linter.unusedSimpArgs false

/-- Does the edge from (a, b) up to (c, d) cross the ray from (p, q) to the right? -/
def upB (a b c d p q : Int) : Bool := decide (b ≤ q) && decide (q < d) && decide (0 < ori a b c d p q)
def rayB (a b c d p q : Int) : Bool := if d < b then upB c d a b p q else upB a b c d p q

set_option maxHeartbeats 4000000 in
theorem cray_up (a b c d p q : Int) (w : World) (hbd : b ≤ d) (ia : InR a) (ib : InR b) (ic : InR c) (id : InR d) (ip : InR p) (iq : InR q) :
    Calls Tryd.prog 30 #[.agg #[.int .i64 a, .int .i64 b, .int .i64 c, .int .i64 d], .agg #[.int .i64 p, .int .i64 q]] w fun e w' => e = .returned (.bool (upB a b c d p q)) ∧ Below w.heap.size w w' := by
  have hT : decide (d < b) = false := decide_eq_false (by omega)
  obtain ⟨t1, ht1⟩ : ∃ t, decide (b ≤ q) = t := ⟨_, rfl⟩
  obtain ⟨t2, ht2⟩ : ∃ t, decide (q < d) = t := ⟨_, rfl⟩
  obtain ⟨o, ho⟩ : ∃ o, ori a b c d p q = o := ⟨_, rfl⟩
  obtain ⟨t3, ht3⟩ : ∃ t, decide (0 < o) = t := ⟨_, rfl⟩
  have T1 := Lib.hid ht1
  have T2 := Lib.hid ht2
  have T3 := Lib.hid ht3
  have HO := Lib.hid ho
  clear ho
  go_enter Tryd.func30, Tryd.ntmps30
  go_wp2_with fail
  obtain ⟨w3, hw3⟩ : ∃ w3, (w.alloc (.cells #[.int .i64 a, .int .i64 b, .int .i64 c, .int .i64 d] 50)).alloc (.cells #[.int .i64 p, .int .i64 q] 25) = w3 := ⟨_, rfl⟩
  have hE : w3.heap[w.heap.size]? = some (.cells #[.int .i64 a, .int .i64 b, .int .i64 c, .int .i64 d] 50 (0, 0)) := by rw [← hw3]; exact blk_alloc (blk_new _ _ _ rfl) _
  have hX : w3.heap[w.heap.size + 1]? = some (.cells #[.int .i64 p, .int .i64 q] 25 (0, 0)) := by rw [← hw3]; exact blk_new _ _ _ (by simp)
  have hB : Below w.heap.size w w3 := by rw [← hw3]; exact belA (belA (Below.refl _ _) _) _
  rw [hw3]
  clear hw3
  have k0 := blk_cell hE 0 _ rfl
  have k1 := blk_cell hE 1 _ rfl
  have k2 := blk_cell hE 2 _ rfl
  have k3 := blk_cell hE 3 _ rfl
  have z1 := blk_lt hX
  have z0 := blk_lt hE
  go_cut [5, 6] (fun s5 s6 wx => ∃ g h : Nat, s5 = .pointer (some ⟨g, 0, none⟩) ∧ s6 = .pointer (some ⟨h, 0, none⟩) ∧ g ≠ h ∧ w3.heap.size ≤ g ∧ w3.heap.size ≤ h ∧ wx.heap[g]? = some (.cells #[.int .i64 a, .int .i64 b] 25 (0, 0)) ∧ wx.heap[h]? = some (.cells #[.int .i64 c, .int .i64 d] 25 (0, 0)) ∧ Below w3.heap.size w3 wx)
  case first =>
    go_region
    all_goals
      go_wp2_with fail
      go_meet
    · exact ⟨_, _, rfl, rfl, by omega, by omega, by omega, blk_alloc (blk_new _ _ _ rfl) _, blk_new _ _ _ (by simp), (belA (belA (Below.refl _ _) _) _).drew⟩
    · exact ⟨_, _, rfl, rfl, by omega, by omega, by omega, blk_new _ _ _ (by simp), blk_alloc (blk_new _ _ _ rfl) _, (belA (belA (Below.refl _ _) _) _).drew⟩
  case rest =>
    obtain ⟨g, h, rfl, rfl, hgh, hg, hh, hG, hH, hB3⟩ := hcut
    have hX3 := blk_call hX hB3
    have hBw := hB.trans (hB3.mono hB.size)
    have g0 := blk_cell hG 0 _ rfl
    have g1 := blk_cell hG 1 _ rfl
    have h0 := blk_cell hH 0 _ rfl
    have h1 := blk_cell hH 1 _ rfl
    have x0 := blk_cell hX3 0 _ rfl
    have x1 := blk_cell hX3 1 _ rfl
    have yg := blk_lt hG
    have yh := blk_lt hH
    have ng : g ≠ w.heap.size + 1 := by omega
    have nh : h ≠ w.heap.size + 1 := by omega
    clear hE hX k0 k1 k2 k3 hB3 hB
    cases t1
    · go_wp2_with fail
      go_ret
      exact ⟨ret_bool (by unfold upB; rw [T1.out]; rfl), hBw⟩
    · cases t2
      · go_wp2_with fail
        go_ret
        exact ⟨ret_bool (by unfold upB; rw [T1.out, T2.out]; rfl), hBw⟩
      · go_wp2_with fail
        refine (orient_is a b c d p q o _ HO ia ib ic id ip iq).mono ?_; rintro e w4 ⟨rfl, hb4⟩
        go_wp2_with fail
        go_ret
        exact ⟨ret_bool (by unfold upB; rw [T1.out, T2.out, HO.out, T3.out]; rfl), hBw.trans (hb4.mono hBw.size)⟩

set_option maxHeartbeats 4000000 in
theorem cray_dn (a b c d p q : Int) (w : World) (hbd : d < b) (ia : InR a) (ib : InR b) (ic : InR c) (id : InR d) (ip : InR p) (iq : InR q) :
    Calls Tryd.prog 30 #[.agg #[.int .i64 a, .int .i64 b, .int .i64 c, .int .i64 d], .agg #[.int .i64 p, .int .i64 q]] w fun e w' => e = .returned (.bool (upB c d a b p q)) ∧ Below w.heap.size w w' := by
  have hT : decide (d < b) = true := decide_eq_true hbd
  obtain ⟨t1, ht1⟩ : ∃ t, decide (d ≤ q) = t := ⟨_, rfl⟩
  obtain ⟨t2, ht2⟩ : ∃ t, decide (q < b) = t := ⟨_, rfl⟩
  obtain ⟨o, ho⟩ : ∃ o, ori c d a b p q = o := ⟨_, rfl⟩
  obtain ⟨t3, ht3⟩ : ∃ t, decide (0 < o) = t := ⟨_, rfl⟩
  have T1 := Lib.hid ht1
  have T2 := Lib.hid ht2
  have T3 := Lib.hid ht3
  have HO := Lib.hid ho
  clear ho
  go_enter Tryd.func30, Tryd.ntmps30
  go_wp2_with fail
  obtain ⟨w3, hw3⟩ : ∃ w3, (w.alloc (.cells #[.int .i64 a, .int .i64 b, .int .i64 c, .int .i64 d] 50)).alloc (.cells #[.int .i64 p, .int .i64 q] 25) = w3 := ⟨_, rfl⟩
  have hE : w3.heap[w.heap.size]? = some (.cells #[.int .i64 a, .int .i64 b, .int .i64 c, .int .i64 d] 50 (0, 0)) := by rw [← hw3]; exact blk_alloc (blk_new _ _ _ rfl) _
  have hX : w3.heap[w.heap.size + 1]? = some (.cells #[.int .i64 p, .int .i64 q] 25 (0, 0)) := by rw [← hw3]; exact blk_new _ _ _ (by simp)
  have hB : Below w.heap.size w w3 := by rw [← hw3]; exact belA (belA (Below.refl _ _) _) _
  rw [hw3]
  clear hw3
  have k0 := blk_cell hE 0 _ rfl
  have k1 := blk_cell hE 1 _ rfl
  have k2 := blk_cell hE 2 _ rfl
  have k3 := blk_cell hE 3 _ rfl
  have z1 := blk_lt hX
  have z0 := blk_lt hE
  go_cut [5, 6] (fun s5 s6 wx => ∃ g h : Nat, s5 = .pointer (some ⟨g, 0, none⟩) ∧ s6 = .pointer (some ⟨h, 0, none⟩) ∧ g ≠ h ∧ w3.heap.size ≤ g ∧ w3.heap.size ≤ h ∧ wx.heap[g]? = some (.cells #[.int .i64 a, .int .i64 b] 25 (0, 0)) ∧ wx.heap[h]? = some (.cells #[.int .i64 c, .int .i64 d] 25 (0, 0)) ∧ Below w3.heap.size w3 wx)
  case first =>
    go_region
    all_goals
      go_wp2_with fail
      go_meet
    · exact ⟨_, _, rfl, rfl, by omega, by omega, by omega, blk_alloc (blk_new _ _ _ rfl) _, blk_new _ _ _ (by simp), (belA (belA (Below.refl _ _) _) _).drew⟩
    · exact ⟨_, _, rfl, rfl, by omega, by omega, by omega, blk_new _ _ _ (by simp), blk_alloc (blk_new _ _ _ rfl) _, (belA (belA (Below.refl _ _) _) _).drew⟩
  case rest =>
    obtain ⟨g, h, rfl, rfl, hgh, hg, hh, hG, hH, hB3⟩ := hcut
    have hX3 := blk_call hX hB3
    have hBw := hB.trans (hB3.mono hB.size)
    have g0 := blk_cell hG 0 _ rfl
    have g1 := blk_cell hG 1 _ rfl
    have h0 := blk_cell hH 0 _ rfl
    have h1 := blk_cell hH 1 _ rfl
    have x0 := blk_cell hX3 0 _ rfl
    have x1 := blk_cell hX3 1 _ rfl
    have yg := blk_lt hG
    have yh := blk_lt hH
    have ng : g ≠ w.heap.size + 1 := by omega
    have nh : h ≠ w.heap.size + 1 := by omega
    clear hE hX k0 k1 k2 k3 hB3 hB
    have fg0 := blk_fz hG 0
    have fg1 := blk_fz hG 1
    have fh0 := blk_fz hH 0
    have fh1 := blk_fz hH 1
    go_upto_region 4 with fail
    have hG' : ((((wc.setCell ⟨g, 0, none⟩ (.int .i64 c)).setCell ⟨g, 1, none⟩ (.int .i64 d)).setCell ⟨h, 0, none⟩ (.int .i64 a)).setCell ⟨h, 1, none⟩ (.int .i64 b)).heap[g]? = some (.cells #[.int .i64 c, .int .i64 d] 25 (0, 0)) := blk_other (blk_other (blk_set (blk_set hG _) _) (Ne.symm hgh) _) (Ne.symm hgh) _
    have hH' : ((((wc.setCell ⟨g, 0, none⟩ (.int .i64 c)).setCell ⟨g, 1, none⟩ (.int .i64 d)).setCell ⟨h, 0, none⟩ (.int .i64 a)).setCell ⟨h, 1, none⟩ (.int .i64 b)).heap[h]? = some (.cells #[.int .i64 a, .int .i64 b] 25 (0, 0)) := blk_set (blk_set (blk_other (blk_other hH hgh _) hgh _) _) _
    have hX' : ((((wc.setCell ⟨g, 0, none⟩ (.int .i64 c)).setCell ⟨g, 1, none⟩ (.int .i64 d)).setCell ⟨h, 0, none⟩ (.int .i64 a)).setCell ⟨h, 1, none⟩ (.int .i64 b)).heap[w.heap.size + 1]? = some (.cells #[.int .i64 p, .int .i64 q] 25 (0, 0)) := blk_other (blk_other (blk_other (blk_other hX3 ng _) ng _) nh _) nh _
    have hBw' : Below w.heap.size w ((((wc.setCell ⟨g, 0, none⟩ (.int .i64 c)).setCell ⟨g, 1, none⟩ (.int .i64 d)).setCell ⟨h, 0, none⟩ (.int .i64 a)).setCell ⟨h, 1, none⟩ (.int .i64 b)) := belS (belS (belS (belS hBw (by simp; omega) _) (by simp; omega) _) (by simp; omega) _) (by simp; omega) _
    generalize ((((wc.setCell ⟨g, 0, none⟩ (.int .i64 c)).setCell ⟨g, 1, none⟩ (.int .i64 d)).setCell ⟨h, 0, none⟩ (.int .i64 a)).setCell ⟨h, 1, none⟩ (.int .i64 b)) = wd at *
    clear hG hH hX3 hBw g0 g1 h0 h1 x0 x1 fg0 fg1 fh0 fh1
    have g0 := blk_cell hG' 0 _ rfl
    have g1 := blk_cell hG' 1 _ rfl
    have h0 := blk_cell hH' 0 _ rfl
    have h1 := blk_cell hH' 1 _ rfl
    have x0 := blk_cell hX' 0 _ rfl
    have x1 := blk_cell hX' 1 _ rfl
    have hBw := hBw'
    cases t1
    · go_wp2_with fail
      go_ret
      exact ⟨ret_bool (by unfold upB; rw [T1.out]; rfl), hBw⟩
    · cases t2
      · go_wp2_with fail
        go_ret
        exact ⟨ret_bool (by unfold upB; rw [T1.out, T2.out]; rfl), hBw⟩
      · go_wp2_with fail
        refine (orient_is c d a b p q o _ HO ic id ia ib ip iq).mono ?_; rintro e w4 ⟨rfl, hb4⟩
        go_wp2_with fail
        go_ret
        exact ⟨ret_bool (by unfold upB; rw [T1.out, T2.out, HO.out, T3.out]; rfl), hBw.trans (hb4.mono hBw.size)⟩

theorem cray_any (a b c d p q : Int) (t : Bool) (w : World) (ht : Hid (rayB a b c d p q = t)) (ia : InR a) (ib : InR b) (ic : InR c) (id : InR d) (ip : InR p) (iq : InR q) :
    Calls Tryd.prog 30 #[.agg #[.int .i64 a, .int .i64 b, .int .i64 c, .int .i64 d], .agg #[.int .i64 p, .int .i64 q]] w fun e w' => e = .returned (.bool t) ∧ Below w.heap.size w w' := by
  rw [← ht.out]
  unfold rayB
  split
  · exact cray_dn a b c d p q w (by assumption) ia ib ic id ip iq
  · exact cray_up a b c d p q w (by omega) ia ib ic id ip iq
end Go.Proofs.YthmcejeeohlafaaDoor
