/- Helpers: what the law reaches. -/
import Derived.Test.YtalhkcmlacppjaaGreatDoorZlAmJ
import Derived.Test.YtalhkcmlacppjaaGreatDoorZlRgf
import Derived.Test.YtalhkcmlacppjaaGreatDoorZlAmA
namespace Go.Proofs.YtalhkcmlacppjaaGreatDoor
open Go.ChangeShapes Go.WideShapes Go.ChangeAt Go.RowKit
set_option linter.unusedVariables false
set_option linter.unusedSimpArgs false
set_option maxRecDepth 100000

structure Corn (cx cy ex ey uu vv r0 r1 r2 r3 r4 r5 r6 r7 : Int) : Prop where
  e0 : cx - (-vv) = r0
  e1 : cy - uu = r1
  e2 : ex - (-vv) = r2
  e3 : ey - uu = r3
  e4 : ex + -vv = r4
  e5 : ey + uu = r5
  e6 : cx + -vv = r6
  e7 : cy + uu = r7
  b : ∀ x ∈ [r0, r1, r2, r3, r4, r5, r6, r7], -1000000000000 ≤ x ∧ x ≤ 1000000000000
def At (k dn dx dy cx cy ex ey : Int) (od ob oe : Nat) (X Y x1 y1 x2 y2 x3 y3 a1 b1 a2 b2 a3 b3 : Int) : Prop := (k = 0 ∧ dn = 1 ∧ od = 12 ∧ ob = 21 ∧ oe = 23 ∧ (dx, dy) = (x1, y1) ∧ (cx, cy) = (X, Y) ∧ (ex, ey) = (a1, b1)) ∨ (k = 1 ∧ dn = 2 ∧ od = 15 ∧ ob = 23 ∧ oe = 25 ∧ (dx, dy) = (x2, y2) ∧ (cx, cy) = (a1, b1) ∧ (ex, ey) = (a2, b2)) ∨ (k = 2 ∧ dn = 3 ∧ od = 18 ∧ ob = 25 ∧ oe = 27 ∧ (dx, dy) = (x3, y3) ∧ (cx, cy) = (a2, b2) ∧ (ex, ey) = (a3, b3))
section
variable {k dn dx dy cx cy ex ey : Int} {od ob oe : Nat} {X Y n0 n1 n2 W l0 l1 l2 h0 h1 h2 x1 x2 x3 y1 y2 y3 u1 u2 u3 v1 v2 v3 a1 a2 a3 b1 b2 b3 : Int}
theorem at_k (h : At k dn dx dy cx cy ex ey od ob oe X Y x1 y1 x2 y2 x3 y3 a1 b1 a2 b2 a3 b3) : 0 ≤ k ∧ k ≤ 2 := by
  rcases h with h | h | h <;> omega
theorem at_cells (h : At k dn dx dy cx cy ex ey od ob oe X Y x1 y1 x2 y2 x3 y3 a1 b1 a2 b2 a3 b3) (w : World) (b : Nat) (hb : w.heap[b]? = some (.cells #[.int .i64 X, .int .i64 Y, .int .i64 n0, .int .i64 n1, .int .i64 n2, .int .i64 W, .int .i64 l0, .int .i64 l1, .int .i64 l2, .int .i64 h0, .int .i64 h1, .int .i64 h2, .int .i64 x1, .int .i64 y1, .int .i64 1, .int .i64 x2, .int .i64 y2, .int .i64 2, .int .i64 x3, .int .i64 y3, .int .i64 3, .int .i64 X, .int .i64 Y, .int .i64 a1, .int .i64 b1, .int .i64 a2, .int .i64 b2, .int .i64 a3, .int .i64 b3] 63 (0, 0))) :
    (w.cell? ⟨b, od, none⟩ = some (.int .i64 dx) ∧ w.cell? ⟨b, od + 1, none⟩ = some (.int .i64 dy) ∧ w.cell? ⟨b, od + 2, none⟩ = some (.int .i64 dn)) ∧ (w.cell? ⟨b, ob, none⟩ = some (.int .i64 cx) ∧ w.cell? ⟨b, ob + 1, none⟩ = some (.int .i64 cy)) ∧ (w.cell? ⟨b, oe, none⟩ = some (.int .i64 ex) ∧ w.cell? ⟨b, oe + 1, none⟩ = some (.int .i64 ey)) ∧ w.cell? ⟨b, 5, none⟩ = some (.int .i64 W) := by
  rcases h with h | h | h
  all_goals
    obtain ⟨-, rfl, rfl, rfl, rfl, hd, hc, he⟩ := h
    cases hd
    cases hc
    cases he
    exact ⟨⟨blk_cell hb _ _ rfl, blk_cell hb _ _ rfl, blk_cell hb _ _ rfl⟩, ⟨blk_cell hb _ _ rfl, blk_cell hb _ _ rfl⟩, ⟨blk_cell hb _ _ rfl, blk_cell hb _ _ rfl⟩, blk_cell hb _ _ rfl⟩
theorem at_addr (h : At k dn dx dy cx cy ex ey od ob oe X Y x1 y1 x2 y2 x3 y3 a1 b1 a2 b2 a3 b3) (b : Nat) (w : World) :
    (Instr.indexAt 60 (.pointer (some ⟨b, 12, none⟩)) (.int .i64 k)).run Tryz.prog w = .ok (.pointer (some ⟨b, od, none⟩)) w ∧ (Instr.indexAt 38 (.pointer (some ⟨b, 21, none⟩)) (.int .i64 k)).run Tryz.prog w = .ok (.pointer (some ⟨b, ob, none⟩)) w ∧ (Instr.indexAt 38 (.pointer (some ⟨b, 21, none⟩)) (.int .i64 (k + 1))).run Tryz.prog w = .ok (.pointer (some ⟨b, oe, none⟩)) w := by
  rcases h with h | h | h
  all_goals
    obtain ⟨rfl, -, rfl, rfl, rfl, -⟩ := h
    refine ⟨?_, ?_, ?_⟩ <;> kernel_rfl
end

set_option maxHeartbeats 4000000 in
theorem body_is (X Y n0 n1 n2 W l0 l1 l2 h0 h1 h2 : Int) (x1 x2 x3 y1 y2 y3 u1 u2 u3 v1 v2 v3 a1 a2 a3 b1 b2 b3 : Int) (k dn dx dy cx cy ex ey uu vv r0 r1 r2 r3 r4 r5 r6 r7 : Int) (od ob oe : Nat) (w : World) (hk : Hid (At k dn dx dy cx cy ex ey od ob oe X Y x1 y1 x2 y2 x3 y3 a1 b1 a2 b2 a3 b3)) (hd : Hid (vdB dx dy dn = true)) (hW : -200 ≤ W ∧ W ≤ 200)
    (hU : Hid (W * 16 * p65 (3 - dn) * dx = uu)) (hV : Hid (W * 16 * p65 (3 - dn) * dy = vv)) (hc : Hid (Corn cx cy ex ey uu vv r0 r1 r2 r3 r4 r5 r6 r7)) (hvv : -1000000000000 ≤ vv ∧ vv ≤ 1000000000000) :
    Calls Tryz.prog 34 #[.agg #[.int .i64 X, .int .i64 Y, .int .i64 n0, .int .i64 n1, .int .i64 n2, .int .i64 W, .int .i64 l0, .int .i64 l1, .int .i64 l2, .int .i64 h0, .int .i64 h1, .int .i64 h2, .int .i64 x1, .int .i64 y1, .int .i64 1, .int .i64 x2, .int .i64 y2, .int .i64 2, .int .i64 x3, .int .i64 y3, .int .i64 3, .int .i64 X, .int .i64 Y, .int .i64 a1, .int .i64 b1, .int .i64 a2, .int .i64 b2, .int .i64 a3, .int .i64 b3], .int .i64 k] w fun e w' => (∃ g, e = .returned (.slice (some ⟨g, 0, none⟩) 4 4) ∧ PRow w' (some ⟨g, 0, none⟩) [(r0, r1), (r2, r3), (r4, r5), (r6, r7)]) ∧ Below w.heap.size w w' := by
  have K := at_k hk.out
  have IA := fun b w => (at_addr hk.out b w).1
  have IB := fun b w => (at_addr hk.out b w).2.1
  have IC := fun b w => (at_addr hk.out b w).2.2
  have RB := Lib.hid hc.out.b
  have R0 : -1000000000000 ≤ r0 ∧ r0 ≤ 1000000000000 := hc.out.b _ (by simp)
  have R1 : -1000000000000 ≤ r1 ∧ r1 ≤ 1000000000000 := hc.out.b _ (by simp)
  have R2 : -1000000000000 ≤ r2 ∧ r2 ≤ 1000000000000 := hc.out.b _ (by simp)
  have R3 : -1000000000000 ≤ r3 ∧ r3 ≤ 1000000000000 := hc.out.b _ (by simp)
  have R4 : -1000000000000 ≤ r4 ∧ r4 ≤ 1000000000000 := hc.out.b _ (by simp)
  have R5 : -1000000000000 ≤ r5 ∧ r5 ≤ 1000000000000 := hc.out.b _ (by simp)
  have R6 : -1000000000000 ≤ r6 ∧ r6 ≤ 1000000000000 := hc.out.b _ (by simp)
  have R7 : -1000000000000 ≤ r7 ∧ r7 ≤ 1000000000000 := hc.out.b _ (by simp)
  go_enter Tryz.func34, Tryz.ntmps34
  go_upto_region 1 with fail
  obtain ⟨W0, hW0⟩ : ∃ z, w.alloc (.cells #[.int .i64 X, .int .i64 Y, .int .i64 n0, .int .i64 n1, .int .i64 n2, .int .i64 W, .int .i64 l0, .int .i64 l1, .int .i64 l2, .int .i64 h0, .int .i64 h1, .int .i64 h2, .int .i64 x1, .int .i64 y1, .int .i64 1, .int .i64 x2, .int .i64 y2, .int .i64 2, .int .i64 x3, .int .i64 y3, .int .i64 3, .int .i64 X, .int .i64 Y, .int .i64 a1, .int .i64 b1, .int .i64 a2, .int .i64 b2, .int .i64 a3, .int .i64 b3] 63) = z := ⟨_, rfl⟩
  obtain ⟨b, hb⟩ : ∃ b, w.heap.size = b := ⟨_, rfl⟩
  have HP : Hid (W0.heap[b]? = some (.cells #[.int .i64 X, .int .i64 Y, .int .i64 n0, .int .i64 n1, .int .i64 n2, .int .i64 W, .int .i64 l0, .int .i64 l1, .int .i64 l2, .int .i64 h0, .int .i64 h1, .int .i64 h2, .int .i64 x1, .int .i64 y1, .int .i64 1, .int .i64 x2, .int .i64 y2, .int .i64 2, .int .i64 x3, .int .i64 y3, .int .i64 3, .int .i64 X, .int .i64 Y, .int .i64 a1, .int .i64 b1, .int .i64 a2, .int .i64 b2, .int .i64 a3, .int .i64 b3] 63 (0, 0))) := Lib.hid (by rw [← hW0]; exact blk_new _ _ _ hb)
  have B : Hid (Below w.heap.size w W0) := Lib.hid (by rw [← hW0]; go_grown)
  rw [hW0, hb]
  have LB : Hid (b < W0.heap.size) := Lib.hid (blk_lt HP.out)
  clear hW0
  obtain ⟨sp, hsp⟩ : ∃ sp : ToldS, sp = [none, none, none, none, none, some (newS W0.heap.size #[.int .i64 0, .int .i64 0] 23), none, none, some (eqS (.int .i64 k)), some (eqS (.pointer (some ⟨b, 12, none⟩))), some (eqS (.pointer (some ⟨b, od, none⟩))), some (eqS (.agg #[.int .i64 dx, .int .i64 dy, .int .i64 dn])), some (eqS (.pointer (some ⟨b, 0, none⟩))), some (eqS (.pointer (some ⟨b, 5, none⟩))), some (eqS (.int .i64 W)), some (eqS (.agg #[.int .i64 uu, .int .i64 vv])), some (eqS (.agg #[.int .i64 (-vv), .int .i64 uu]))] := ⟨_, rfl⟩
  have s5 : sp.getD 5 none = some (newS W0.heap.size #[.int .i64 0, .int .i64 0] 23) := by rw [hsp]; rfl
  have s8 : sp.getD 8 none = some (eqS (.int .i64 k)) := by rw [hsp]; rfl
  have s9 : sp.getD 9 none = some (eqS (.pointer (some ⟨b, 12, none⟩))) := by rw [hsp]; rfl
  have s10 : sp.getD 10 none = some (eqS (.pointer (some ⟨b, od, none⟩))) := by rw [hsp]; rfl
  have s11 : sp.getD 11 none = some (eqS (.agg #[.int .i64 dx, .int .i64 dy, .int .i64 dn])) := by rw [hsp]; rfl
  have s12 : sp.getD 12 none = some (eqS (.pointer (some ⟨b, 0, none⟩))) := by rw [hsp]; rfl
  have s13 : sp.getD 13 none = some (eqS (.pointer (some ⟨b, 5, none⟩))) := by rw [hsp]; rfl
  have s14 : sp.getD 14 none = some (eqS (.int .i64 W)) := by rw [hsp]; rfl
  have s15 : sp.getD 15 none = some (eqS (.agg #[.int .i64 uu, .int .i64 vv])) := by rw [hsp]; rfl
  have s16 : sp.getD 16 none = some (eqS (.agg #[.int .i64 (-vv), .int .i64 uu])) := by rw [hsp]; rfl
  clear hsp
  refine (wpIn_wide (n := 0)).1 (region_headR (RtS sp) (rtS_keep sp) 10 rfl rfl rfl (by kernel_rfl) (by decide) (by kernel_rfl) (by kernel_rfl) (by kernel_rfl) ?_ ?_)
  · intro Q'; show ObsR _ _ _ _ _ _ _ _ (List.take _ _); simp only [List.take_succ_cons, List.take_zero]
    refine obsR_cons ?_ ?_
    · intro T wx K hB hF hD hK
      have g1 : T[1]? = some (.int .i64 k) := hF 1 (freeM_of (by kernel_rfl))
      refine ob_yes (wanted_none rfl) ?_
      clear hF hD
      go_simp
      exact hK _ _ (Below.refl _ _) (rt_eqS s8)
    refine obsR_cons ?_ ?_
    · intro T wx K hB hF hD hK
      have g2 : T[2]? = some (.pointer (some ⟨b, 0, none⟩)) := hF 2 (freeM_of (by kernel_rfl))
      refine ob_yes (wanted_none rfl) ?_
      clear hF hD
      go_simp
      exact hK _ _ (Below.refl _ _) (rt_eqS s9)
    refine obsR_cons ?_ ?_
    · intro T wx K hB hF hD hK
      have g9 := get_eqS (hD 1 9 (by simp [Region.binds]) (by kernel_rfl)) s9
      have g8 := get_eqS (hD 0 8 (by simp [Region.binds]) (by kernel_rfl)) s8
      refine ob_yes (wanted_none rfl) ?_
      clear hF hD
      go_simp
      exact hK _ _ (Below.refl _ _) (rt_eqS s10)
    refine obsR_cons ?_ ?_
    · intro T wx K hB hF hD hK
      have g10 := get_eqS (hD 2 10 (by simp [Region.binds]) (by kernel_rfl)) s10
      refine ob_yes (wanted_none rfl) ?_
      clear hF hD
      obtain ⟨⟨c0, c1, c2⟩, ⟨c3, c4⟩, ⟨c5, c6⟩, c7⟩ := at_cells hk.out _ _ (blk_call HP.out hB)
      go_simp
      exact hK _ _ (Below.refl _ _) (rt_eqS s11)
    refine obsR_cons ?_ ?_
    · intro T wx K hB hF hD hK
      have g2 : T[2]? = some (.pointer (some ⟨b, 0, none⟩)) := hF 2 (freeM_of (by kernel_rfl))
      refine ob_yes (wanted_none rfl) ?_
      clear hF hD
      go_simp
      exact hK _ _ (Below.refl _ _) (rt_eqS s12)
    refine obsR_cons ?_ ?_
    · intro T wx K hB hF hD hK
      have g12 := get_eqS (hD 4 12 (by simp [Region.binds]) (by kernel_rfl)) s12
      refine ob_yes (wanted_none rfl) ?_
      clear hF hD
      go_simp
      exact hK _ _ (Below.refl _ _) (rt_eqS s13)
    refine obsR_cons ?_ ?_
    · intro T wx K hB hF hD hK
      have g13 := get_eqS (hD 5 13 (by simp [Region.binds]) (by kernel_rfl)) s13
      refine ob_yes (wanted_none rfl) ?_
      clear hF hD
      obtain ⟨⟨c0, c1, c2⟩, ⟨c3, c4⟩, ⟨c5, c6⟩, c7⟩ := at_cells hk.out _ _ (blk_call HP.out hB)
      go_simp
      exact hK _ _ (Below.refl _ _) (rt_eqS s14)
    refine obsR_cons ?_ ?_
    · intro T wx K hB hF hD hK
      have g11 := get_eqS (hD 3 11 (by simp [Region.binds]) (by kernel_rfl)) s11
      have g14 := get_eqS (hD 6 14 (by simp [Region.binds]) (by kernel_rfl)) s14
      refine ob_yes (wanted_none rfl) ?_
      clear hF hD
      go_simp
      refine (offset_is dx dy dn W uu vv _ hd.out hW hU hV).mono ?_; rintro e w9 ⟨rfl, hb⟩
      exact hK _ _ hb (rt_eqS s15)
    refine obsR_cons ?_ ?_
    · intro T wx K hB hF hD hK
      have g15 := get_eqS (hD 7 15 (by simp [Region.binds]) (by kernel_rfl)) s15
      refine ob_yes (wanted_none rfl) ?_
      clear hF hD
      go_simp
      refine (quarter_any uu vv _ (by omega)).mono ?_; rintro e w9 ⟨rfl, hb⟩
      exact hK _ _ hb (rt_eqS s16)
    refine obsR_cons ?_ ?_
    · intro T wx K hB hF hD hK
      refine ob_yes (wanted_none rfl) ?_
      clear hF hD
      go_simp
      exact hK _ _ (belA (Below.refl _ _) _) (rt_S s5 ⟨_, rfl, hB.size, blk_new _ _ _ rfl⟩)
    exact obsR_nil
  · intro T w8 hb8 hF hs hD
    have g8 := get_eqS (hD 0 8 (by decide) (by kernel_rfl)) s8
    have g9 := get_eqS (hD 1 9 (by decide) (by kernel_rfl)) s9
    have g10 := get_eqS (hD 2 10 (by decide) (by kernel_rfl)) s10
    have g11 := get_eqS (hD 3 11 (by decide) (by kernel_rfl)) s11
    have g12 := get_eqS (hD 4 12 (by decide) (by kernel_rfl)) s12
    have g13 := get_eqS (hD 5 13 (by decide) (by kernel_rfl)) s13
    have g14 := get_eqS (hD 6 14 (by decide) (by kernel_rfl)) s14
    have g15 := get_eqS (hD 7 15 (by decide) (by kernel_rfl)) s15
    have g16 := get_eqS (hD 8 16 (by decide) (by kernel_rfl)) s16
    obtain ⟨v5, g5, p5⟩ := getS (hD 9 5 (by decide) (by kernel_rfl)) s5
    have hT := conc [(8, .int .i64 k), (9, .pointer (some ⟨b, 12, none⟩)), (10, .pointer (some ⟨b, od, none⟩)), (11, .agg #[.int .i64 dx, .int .i64 dy, .int .i64 dn]), (12, .pointer (some ⟨b, 0, none⟩)), (13, .pointer (some ⟨b, 5, none⟩)), (14, .int .i64 W), (15, .agg #[.int .i64 uu, .int .i64 vv]), (16, .agg #[.int .i64 (-vv), .int .i64 uu]), (5, v5)] hs hF (by simp only [List.forall_mem_cons]; exact ⟨g8, g9, g10, g11, g12, g13, g14, g15, g16, g5, fun p hp => absurd hp List.not_mem_nil⟩) (by kernel_rfl)
    simp only [List.foldl, List.setIfInBounds_toArray, List.set_cons_succ, List.set_cons_zero] at hT
    subst hT
    clear hF hD hs g8 g9 g10 g11 g12 g13 g14 g15 g16 g5 s5 s8 s9 s10 s11 s12 s13 s14 s15 s16
    show wpOpsIn _ _ _ _ _ [10] _ _
    obtain ⟨s, rfl, hs, h5⟩ := p5
    have f0 := blk_cell h5 0 _ rfl
    have f1 := blk_cell h5 1 _ rfl
    have f2 := blk_fz h5 0
    have f3 := blk_fz h5 1
    have B1 := Lib.hid (belS (p := ⟨s, 1, none⟩) (belS (p := ⟨s, 0, none⟩) (belT B.out hb8) (show w.heap.size ≤ s by have := LB.out; omega) (.int .i64 (-vv))) (show w.heap.size ≤ s by have := LB.out; omega) (.int .i64 uu))
    have P1 := Lib.hid (blk_other (j := 1) (blk_other (j := 0) (blk_call HP.out hb8) (show s ≠ b by have := LB.out; omega) (.int .i64 (-vv))) (show s ≠ b by have := LB.out; omega) (.int .i64 uu))
    have S1 := Lib.hid (blk_set (j := 1) (blk_set (j := 0) h5 (.int .i64 (-vv))) (.int .i64 uu))
    clear hb8 hs h5 HP B LB
    simp only [wpOpsIn]
    go_simp
    clear f0 f1 f2 f3
    generalize ((w8.setCell ⟨s, 0, none⟩ (.int .i64 (-vv))).setCell ⟨s, 1, none⟩ (.int .i64 uu)) = W1 at *
    go_upto_region 2 with fail
    obtain ⟨⟨c0, c1, c2⟩, ⟨c3, c4⟩, ⟨c5, c6⟩, c7⟩ := at_cells hk.out _ _ P1.out
    have yb := blk_lt P1.out
    go_cut [6, 7] (fun s6 s7 wx => ∃ g h : Nat, s6 = .pointer (some ⟨g, 0, none⟩) ∧ s7 = .pointer (some ⟨h, 0, none⟩) ∧ wx.heap[g]? = some (.cells #[.int .i64 cx, .int .i64 cy] 23 (0, 0)) ∧ wx.heap[h]? = some (.cells #[.int .i64 ex, .int .i64 ey] 23 (0, 0)) ∧ Below W1.heap.size W1 wx)
    case first =>
      go_region
      all_goals
        go_wp2_with fail
        go_meet
      · exact ⟨_, _, rfl, rfl, blk_alloc (blk_new _ _ _ rfl) _, blk_new _ _ _ (by simp), (belA (belA (Below.refl _ _) _) _).drew⟩
      · exact ⟨_, _, rfl, rfl, blk_new _ _ _ (by simp), blk_alloc (blk_new _ _ _ rfl) _, (belA (belA (Below.refl _ _) _) _).drew⟩
    case rest =>
    obtain ⟨g, h, rfl, rfl, hG, hH, hB3⟩ := hcut
    have G2 := Lib.hid hG
    have H2 := Lib.hid hH
    have S2 := Lib.hid (blk_call S1.out hB3)
    have B2 := Lib.hid (belT B1.out hB3)
    clear c0 c1 c2 c3 c4 c5 c6 c7 hG hH hB3 B1 S1 P1 IA IB IC
    go_upto_region 3 with fail
    obtain ⟨sp, hsp⟩ : ∃ sp : ToldS, sp = [none, none, none, none, none, none, none, none, none, none, none, none, none, none, none, none, none, none, none, none, none, none, none, none, none, none, some (eqS (.agg #[.int .i64 cx, .int .i64 cy])), some (eqS (.agg #[.int .i64 (-vv), .int .i64 uu])), some (eqS (.agg #[.int .i64 r0, .int .i64 r1])), some (eqS (.agg #[.int .i64 ex, .int .i64 ey])), some (eqS (.agg #[.int .i64 (-vv), .int .i64 uu])), some (eqS (.agg #[.int .i64 r2, .int .i64 r3])), some (eqS (.agg #[.int .i64 ex, .int .i64 ey])), some (eqS (.agg #[.int .i64 (-vv), .int .i64 uu])), some (eqS (.agg #[.int .i64 r4, .int .i64 r5])), some (eqS (.agg #[.int .i64 cx, .int .i64 cy])), some (eqS (.agg #[.int .i64 (-vv), .int .i64 uu])), some (eqS (.agg #[.int .i64 r6, .int .i64 r7])), some (row4 [(r0, r1), (r2, r3), (r4, r5), (r6, r7)])] := ⟨_, rfl⟩
    have s26 : sp.getD 26 none = some (eqS (.agg #[.int .i64 cx, .int .i64 cy])) := by rw [hsp]; rfl
    have s27 : sp.getD 27 none = some (eqS (.agg #[.int .i64 (-vv), .int .i64 uu])) := by rw [hsp]; rfl
    have s28 : sp.getD 28 none = some (eqS (.agg #[.int .i64 r0, .int .i64 r1])) := by rw [hsp]; rfl
    have s29 : sp.getD 29 none = some (eqS (.agg #[.int .i64 ex, .int .i64 ey])) := by rw [hsp]; rfl
    have s30 : sp.getD 30 none = some (eqS (.agg #[.int .i64 (-vv), .int .i64 uu])) := by rw [hsp]; rfl
    have s31 : sp.getD 31 none = some (eqS (.agg #[.int .i64 r2, .int .i64 r3])) := by rw [hsp]; rfl
    have s32 : sp.getD 32 none = some (eqS (.agg #[.int .i64 ex, .int .i64 ey])) := by rw [hsp]; rfl
    have s33 : sp.getD 33 none = some (eqS (.agg #[.int .i64 (-vv), .int .i64 uu])) := by rw [hsp]; rfl
    have s34 : sp.getD 34 none = some (eqS (.agg #[.int .i64 r4, .int .i64 r5])) := by rw [hsp]; rfl
    have s35 : sp.getD 35 none = some (eqS (.agg #[.int .i64 cx, .int .i64 cy])) := by rw [hsp]; rfl
    have s36 : sp.getD 36 none = some (eqS (.agg #[.int .i64 (-vv), .int .i64 uu])) := by rw [hsp]; rfl
    have s37 : sp.getD 37 none = some (eqS (.agg #[.int .i64 r6, .int .i64 r7])) := by rw [hsp]; rfl
    have s38 : sp.getD 38 none = some (row4 [(r0, r1), (r2, r3), (r4, r5), (r6, r7)]) := by rw [hsp]; rfl
    clear hsp
    refine (wpIn_wide (n := 0)).1 (region_headR (RtS sp) (rtS_keep sp) 13 rfl rfl rfl (by kernel_rfl) (by decide) (by kernel_rfl) (by kernel_rfl) (by kernel_rfl) ?_ ?_)
    · intro Q'; show ObsR _ _ _ _ _ _ _ _ (List.take _ _); simp only [List.take_succ_cons, List.take_zero]
      refine obsR_cons ?_ ?_
      · intro T wx K hB hF hD hK
        have g6 : T[6]? = some (.pointer (some ⟨g, 0, none⟩)) := hF 6 (freeM_of (by kernel_rfl))
        refine ob_yes (wanted_none rfl) ?_
        clear hF hD
        have c0 := blk_cell (blk_call G2.out hB) 0 _ rfl
        have c1 := blk_cell (blk_call G2.out hB) 1 _ rfl
        go_simp
        exact hK _ _ (Below.refl _ _) (rt_eqS s26)
      refine obsR_cons ?_ ?_
      · intro T wx K hB hF hD hK
        have g5 : T[5]? = some (.pointer (some ⟨s, 0, none⟩)) := hF 5 (freeM_of (by kernel_rfl))
        refine ob_yes (wanted_none rfl) ?_
        clear hF hD
        have c0 := blk_cell (blk_call S2.out hB) 0 _ rfl
        have c1 := blk_cell (blk_call S2.out hB) 1 _ rfl
        go_simp
        exact hK _ _ (Below.refl _ _) (rt_eqS s27)
      refine obsR_cons ?_ ?_
      · intro T wx K hB hF hD hK
        have g26 := get_eqS (hD 0 26 (by simp [Region.binds]) (by kernel_rfl)) s26
        have g27 := get_eqS (hD 1 27 (by simp [Region.binds]) (by kernel_rfl)) s27
        refine ob_yes (wanted_none rfl) ?_
        clear hF hD
        go_simp
        refine (sub_is7 cx cy (-vv) uu r0 r1 _ (Lib.hid hc.out.e0) (Lib.hid hc.out.e1) R0 R1).mono ?_; rintro e w9 ⟨rfl, hb⟩
        exact hK _ _ hb (rt_eqS s28)
      refine obsR_cons ?_ ?_
      · intro T wx K hB hF hD hK
        have g7 : T[7]? = some (.pointer (some ⟨h, 0, none⟩)) := hF 7 (freeM_of (by kernel_rfl))
        refine ob_yes (wanted_none rfl) ?_
        clear hF hD
        have c0 := blk_cell (blk_call H2.out hB) 0 _ rfl
        have c1 := blk_cell (blk_call H2.out hB) 1 _ rfl
        go_simp
        exact hK _ _ (Below.refl _ _) (rt_eqS s29)
      refine obsR_cons ?_ ?_
      · intro T wx K hB hF hD hK
        have g5 : T[5]? = some (.pointer (some ⟨s, 0, none⟩)) := hF 5 (freeM_of (by kernel_rfl))
        refine ob_yes (wanted_none rfl) ?_
        clear hF hD
        have c0 := blk_cell (blk_call S2.out hB) 0 _ rfl
        have c1 := blk_cell (blk_call S2.out hB) 1 _ rfl
        go_simp
        exact hK _ _ (Below.refl _ _) (rt_eqS s30)
      refine obsR_cons ?_ ?_
      · intro T wx K hB hF hD hK
        have g29 := get_eqS (hD 3 29 (by simp [Region.binds]) (by kernel_rfl)) s29
        have g30 := get_eqS (hD 4 30 (by simp [Region.binds]) (by kernel_rfl)) s30
        refine ob_yes (wanted_none rfl) ?_
        clear hF hD
        go_simp
        refine (sub_is7 ex ey (-vv) uu r2 r3 _ (Lib.hid hc.out.e2) (Lib.hid hc.out.e3) R2 R3).mono ?_; rintro e w9 ⟨rfl, hb⟩
        exact hK _ _ hb (rt_eqS s31)
      refine obsR_cons ?_ ?_
      · intro T wx K hB hF hD hK
        have g7 : T[7]? = some (.pointer (some ⟨h, 0, none⟩)) := hF 7 (freeM_of (by kernel_rfl))
        refine ob_yes (wanted_none rfl) ?_
        clear hF hD
        have c0 := blk_cell (blk_call H2.out hB) 0 _ rfl
        have c1 := blk_cell (blk_call H2.out hB) 1 _ rfl
        go_simp
        exact hK _ _ (Below.refl _ _) (rt_eqS s32)
      refine obsR_cons ?_ ?_
      · intro T wx K hB hF hD hK
        have g5 : T[5]? = some (.pointer (some ⟨s, 0, none⟩)) := hF 5 (freeM_of (by kernel_rfl))
        refine ob_yes (wanted_none rfl) ?_
        clear hF hD
        have c0 := blk_cell (blk_call S2.out hB) 0 _ rfl
        have c1 := blk_cell (blk_call S2.out hB) 1 _ rfl
        go_simp
        exact hK _ _ (Below.refl _ _) (rt_eqS s33)
      refine obsR_cons ?_ ?_
      · intro T wx K hB hF hD hK
        have g32 := get_eqS (hD 6 32 (by simp [Region.binds]) (by kernel_rfl)) s32
        have g33 := get_eqS (hD 7 33 (by simp [Region.binds]) (by kernel_rfl)) s33
        refine ob_yes (wanted_none rfl) ?_
        clear hF hD
        go_simp
        refine (gadd_is ex ey (-vv) uu r4 r5 _ (Lib.hid hc.out.e4) (Lib.hid hc.out.e5) R4 R5).mono ?_; rintro e w9 ⟨rfl, hb⟩
        exact hK _ _ hb (rt_eqS s34)
      refine obsR_cons ?_ ?_
      · intro T wx K hB hF hD hK
        have g6 : T[6]? = some (.pointer (some ⟨g, 0, none⟩)) := hF 6 (freeM_of (by kernel_rfl))
        refine ob_yes (wanted_none rfl) ?_
        clear hF hD
        have c0 := blk_cell (blk_call G2.out hB) 0 _ rfl
        have c1 := blk_cell (blk_call G2.out hB) 1 _ rfl
        go_simp
        exact hK _ _ (Below.refl _ _) (rt_eqS s35)
      refine obsR_cons ?_ ?_
      · intro T wx K hB hF hD hK
        have g5 : T[5]? = some (.pointer (some ⟨s, 0, none⟩)) := hF 5 (freeM_of (by kernel_rfl))
        refine ob_yes (wanted_none rfl) ?_
        clear hF hD
        have c0 := blk_cell (blk_call S2.out hB) 0 _ rfl
        have c1 := blk_cell (blk_call S2.out hB) 1 _ rfl
        go_simp
        exact hK _ _ (Below.refl _ _) (rt_eqS s36)
      refine obsR_cons ?_ ?_
      · intro T wx K hB hF hD hK
        have g35 := get_eqS (hD 9 35 (by simp [Region.binds]) (by kernel_rfl)) s35
        have g36 := get_eqS (hD 10 36 (by simp [Region.binds]) (by kernel_rfl)) s36
        refine ob_yes (wanted_none rfl) ?_
        clear hF hD
        go_simp
        refine (gadd_is cx cy (-vv) uu r6 r7 _ (Lib.hid hc.out.e6) (Lib.hid hc.out.e7) R6 R7).mono ?_; rintro e w9 ⟨rfl, hb⟩
        exact hK _ _ hb (rt_eqS s37)
      refine obsR_cons ?_ ?_
      · intro T wx K hB hF hD hK
        have g28 := get_eqS (hD 2 28 (by simp [Region.binds]) (by kernel_rfl)) s28
        have g31 := get_eqS (hD 5 31 (by simp [Region.binds]) (by kernel_rfl)) s31
        have g34 := get_eqS (hD 8 34 (by simp [Region.binds]) (by kernel_rfl)) s34
        have g37 := get_eqS (hD 11 37 (by simp [Region.binds]) (by kernel_rfl)) s37
        refine ob_yes (wanted_none rfl) ?_
        clear hF hD
        go_simp
        exact hK _ _ (belA (Below.refl _ _) _) (rt_S s38 ⟨_, rfl, prow_new _ _ _ _ rfl rfl⟩)
      exact obsR_nil
    · intro T w8 hb hF hs hD
      have g26 := get_eqS (hD 0 26 (by decide) (by kernel_rfl)) s26
      have g27 := get_eqS (hD 1 27 (by decide) (by kernel_rfl)) s27
      have g28 := get_eqS (hD 2 28 (by decide) (by kernel_rfl)) s28
      have g29 := get_eqS (hD 3 29 (by decide) (by kernel_rfl)) s29
      have g30 := get_eqS (hD 4 30 (by decide) (by kernel_rfl)) s30
      have g31 := get_eqS (hD 5 31 (by decide) (by kernel_rfl)) s31
      have g32 := get_eqS (hD 6 32 (by decide) (by kernel_rfl)) s32
      have g33 := get_eqS (hD 7 33 (by decide) (by kernel_rfl)) s33
      have g34 := get_eqS (hD 8 34 (by decide) (by kernel_rfl)) s34
      have g35 := get_eqS (hD 9 35 (by decide) (by kernel_rfl)) s35
      have g36 := get_eqS (hD 10 36 (by decide) (by kernel_rfl)) s36
      have g37 := get_eqS (hD 11 37 (by decide) (by kernel_rfl)) s37
      obtain ⟨v38, g38, p38⟩ := getS (hD 12 38 (by decide) (by kernel_rfl)) s38
      have hT := conc [(26, .agg #[.int .i64 cx, .int .i64 cy]), (27, .agg #[.int .i64 (-vv), .int .i64 uu]), (28, .agg #[.int .i64 r0, .int .i64 r1]), (29, .agg #[.int .i64 ex, .int .i64 ey]), (30, .agg #[.int .i64 (-vv), .int .i64 uu]), (31, .agg #[.int .i64 r2, .int .i64 r3]), (32, .agg #[.int .i64 ex, .int .i64 ey]), (33, .agg #[.int .i64 (-vv), .int .i64 uu]), (34, .agg #[.int .i64 r4, .int .i64 r5]), (35, .agg #[.int .i64 cx, .int .i64 cy]), (36, .agg #[.int .i64 (-vv), .int .i64 uu]), (37, .agg #[.int .i64 r6, .int .i64 r7]), (38, v38)] hs hF (by simp only [List.forall_mem_cons]; exact ⟨g26, g27, g28, g29, g30, g31, g32, g33, g34, g35, g36, g37, g38, fun p hp => absurd hp List.not_mem_nil⟩) (by kernel_rfl)
      simp only [List.foldl, List.setIfInBounds_toArray, List.set_cons_succ, List.set_cons_zero] at hT
      subst hT
      clear hF hD hs g26 g27 g28 g29 g30 g31 g32 g33 g34 g35 g36 g37 g38 s26 s27 s28 s29 s30 s31 s32 s33 s34 s35 s36 s37 s38
      show wpOpsIn _ _ _ _ _ [13] _ _
      obtain ⟨g9, rfl, pr⟩ := p38
      have B3 := Lib.hid (belT B2.out hb)
      have PR := Lib.hid pr
      clear hb pr
      simp only [wpOpsIn]
      go_simp
      go_wp2
      go_ret
      exact ⟨⟨_, rfl, PR.out⟩, B3.out⟩
end Go.Proofs.YtalhkcmlacppjaaGreatDoor

