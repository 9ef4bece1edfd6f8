/- For every valid arm whose first joint has its full range, rotating the target by a quarter turn about the base adds 9 to the first joint of every solution, modulo 36, and yields no other solutions.
Conditions: none on the arguments; the table of rotations lies as the program's text lays it (the card's tie). -/
import Derived.Test.YtceejjamngplkaaDoorIkR
import Derived.Test.YtceejjamngplkaaDoorIkW
import Derived.Test.YtceejjamngplkaaDoorIkT
import Derived.Test.YtceejjamngplkaaDoorAmO
import Derived.Test.YtceejjamngplkaaDoorIkU
import Derived.Test.YtceejjamngplkaaDoorBase
import Derived.Test.YtceejjamngplkaaDoorTie
import Derived.Test.YtceejjamngplkaaDoorCards
import Derived.SevenTiedAt
namespace Go.Proofs.YtceejjamngplkaaDoor.invkinRotated
open Go.ChangeShapes Go.WideShapes Go.ChangeAt Go.RowKit
set_option linter.unusedVariables false
set_option linter.unusedSimpArgs false
set_option maxRecDepth 100000

theorem turn_wit {L : List J3} {k : Nat} (hk : k < L.length) : L.getD k j0 ∈ L := getD_mem hk
theorem turn_bd {X Y n0 n1 n2 q0 q1 q2 x1 x2 x3 y1 y2 y3 u1 u2 u3 v1 v2 v3 a1 a2 a3 b1 b2 b3 W l0 l1 l2 h0 h1 h2 : Int} (P : Pose X Y n0 n1 n2 q0 q1 q2 x1 x2 x3 y1 y2 y3 u1 u2 u3 v1 v2 v3 a1 a2 a3 b1 b2 b3) (V : armB X Y n0 n1 n2 W l0 l1 l2 h0 h1 h2 = true) : (-439400000 ≤ X - (b3 - Y) ∧ X - (b3 - Y) ≤ 439400000) ∧ -439400000 ≤ Y + a3 - X ∧ Y + a3 - X ≤ 439400000 := by
  have v := (armB_iff X Y n0 n1 n2 W l0 l1 l2 h0 h1 h2).1 V
  obtain ⟨_, m1, m2, m3⟩ := pose_len P
  have r1 := unit_bd m1
  have r2 := unit_bd m2
  have r3 := unit_bd m3
  have t1 := far_bdI (n := n0) (by omega) r1.1
  have t2 := far_bdI (n := n0) (by omega) r1.2
  have t3 := far_bdI (n := n1) (by omega) r2.1
  have t4 := far_bdI (n := n1) (by omega) r2.2
  have t5 := far_bdI (n := n2) (by omega) r3.1
  have t6 := far_bdI (n := n2) (by omega) r3.2
  have g1 := P.g1
  have g2 := P.g2
  have g3 := P.g3
  omega
set_option maxHeartbeats 8000000 in
theorem walk (X Y n0 n1 n2 W l0' l1 l2 h0' h1 h2 : Int) (r0 r1 r2 : Int) (hr0 : 0 ≤ r0 ∧ r0 ≤ 255) (hr1 : 0 ≤ r1 ∧ r1 ≤ 255) (hr2 : 0 ≤ r2 ∧ r2 ≤ 255) (w : World) (hT : Tab w) :
    Calls Tryd.prog 7 #[.agg #[.int .i64 X, .int .i64 Y, .int .i64 n0, .int .i64 n1, .int .i64 n2, .int .i64 W, .int .i64 l0', .int .i64 l1, .int .i64 l2, .int .i64 h0', .int .i64 h1, .int .i64 h2], .agg #[.int .u8 r0, .int .u8 r1, .int .u8 r2]] w fun e w' => e = .returned (.bool true) ∧ Below w.heap.size w w' := by
  go_enter Tryd.func7, Tryd.ntmps7
  go_upto_region 1 with fail
  obtain ⟨W0, hW0⟩ : ∃ z, ((w.alloc (.cells #[.int .i64 X, .int .i64 Y, .int .i64 n0, .int .i64 n1, .int .i64 n2, .int .i64 W, .int .i64 l0', .int .i64 l1, .int .i64 l2, .int .i64 h0', .int .i64 h1, .int .i64 h2] 27)).alloc (.cells #[.int .u8 r0, .int .u8 r1, .int .u8 r2] 30)) = z := ⟨_, rfl⟩
  have HA : Hid (W0.heap[w.heap.size]? = some (.cells #[.int .i64 X, .int .i64 Y, .int .i64 n0, .int .i64 n1, .int .i64 n2, .int .i64 W, .int .i64 l0', .int .i64 l1, .int .i64 l2, .int .i64 h0', .int .i64 h1, .int .i64 h2] 27 (0, 0))) := Lib.hid (by rw [← hW0]; exact blk_alloc (blk_new _ _ _ rfl) _)
  have HR : Hid (W0.heap[w.heap.size + 1]? = some (.cells #[.int .u8 r0, .int .u8 r1, .int .u8 r2] 30 (0, 0))) := Lib.hid (by rw [← hW0]; exact blk_new _ _ _ (by simp))
  have B : Hid (Below w.heap.size w W0) := Lib.hid (by rw [← hW0]; go_grown)
  have TT := Lib.hid hT
  rw [hW0]
  clear hW0 hT
  obtain ⟨ba, eba⟩ : ∃ a, w.heap.size = a := ⟨_, rfl⟩
  obtain ⟨br, ebr⟩ : ∃ a, w.heap.size + 1 = a := ⟨_, rfl⟩
  have NE := Lib.hid (show w.heap.size ≤ ba ∧ w.heap.size ≤ br ∧ ba ≠ br ∧ br ≠ ba by omega)
  rw [ebr, eba]
  rw [eba] at HA
  rw [ebr] at HR
  clear eba ebr
  go_upto_region 2 with (go_at_call 10; refine (head8_is _ (Tab.below TT.out B.out)).mono ?_; rintro e W1 ⟨rfl, hb⟩)
  replace HA := Lib.hid (blk_call HA.out hb)
  replace HR := Lib.hid (blk_call HR.out hb)
  replace B := Lib.hid (belT B.out hb)
  clear hb
  have nba := NE.out.1
  have c6 := blk_cell HA.out 6 _ rfl
  have c9 := blk_cell HA.out 9 _ rfl
  have f6 := blk_fz HA.out 6
  have f9 := blk_fz HA.out 9
  have lRA : ba ≠ br := by have := NE.out; omega
  go_upto_region 4 with fail
  clear c6 c9 f6 f9
  replace HR := Lib.hid (blk_other (j := 9) (blk_other (j := 6) HR.out lRA (.int .i64 (-17))) lRA (.int .i64 18))
  replace HA : Hid (((W1.setCell ⟨ba, 6, none⟩ (.int .i64 (-17))).setCell ⟨ba, 9, none⟩ (.int .i64 18)).heap[ba]? = some (.cells #[.int .i64 X, .int .i64 Y, .int .i64 n0, .int .i64 n1, .int .i64 n2, .int .i64 W, .int .i64 (-17), .int .i64 l1, .int .i64 l2, .int .i64 18, .int .i64 h1, .int .i64 h2] 27 (0, 0))) := Lib.hid (blk_set (j := 9) (blk_set (j := 6) HA.out (.int .i64 (-17))) (.int .i64 18))
  replace B := Lib.hid (belS (p := ⟨ba, 9, none⟩) (belS (p := ⟨ba, 6, none⟩) B.out nba (.int .i64 (-17))) nba (.int .i64 18))
  generalize ((W1.setCell ⟨ba, 6, none⟩ (.int .i64 (-17))).setCell ⟨ba, 9, none⟩ (.int .i64 18)) = W2 at *
  clear nba lRA
  obtain ⟨t, ht⟩ : ∃ t, armB X Y n0 n1 n2 W (-17) l1 l2 18 h1 h2 = t := ⟨_, rfl⟩
  have HT := Lib.hid ht
  clear ht
  have c0 := blk_cell HA.out 0 _ rfl
  have c1 := blk_cell HA.out 1 _ rfl
  have c2 := blk_cell HA.out 2 _ rfl
  have c3 := blk_cell HA.out 3 _ rfl
  have c4 := blk_cell HA.out 4 _ rfl
  have c5 := blk_cell HA.out 5 _ rfl
  have c6 := blk_cell HA.out 6 _ rfl
  have c7 := blk_cell HA.out 7 _ rfl
  have c8 := blk_cell HA.out 8 _ rfl
  have c9 := blk_cell HA.out 9 _ rfl
  have c10 := blk_cell HA.out 10 _ rfl
  have c11 := blk_cell HA.out 11 _ rfl
  go_upto_region 5 with (go_at_call 11; refine (right7_is X Y n0 n1 n2 W (-17) l1 l2 18 h1 h2 t _ HT).mono ?_; rintro e W3 ⟨rfl, hb⟩)
  clear c0 c1 c2 c3 c4 c5 c6 c7 c8 c9 c10 c11
  replace HA := Lib.hid (blk_call HA.out hb)
  replace HR := Lib.hid (blk_call HR.out hb)
  replace B := Lib.hid (belT B.out hb)
  clear hb
  cases t
  · go_wp2_with fail
    go_ret
    exact ⟨rfl, B.out⟩
  have V := HT
  go_upto_region 7 with fail
  have VR := Lib.hid ((armB_iff X Y n0 n1 n2 W (-17) l1 l2 18 h1 h2).1 V.out)
  have JB0 := Lib.hid (jq_bd (l := (-17)) (h := 18) (by have := VR.out; omega) hr0.1)
  obtain ⟨q0, hq0⟩ : ∃ q, jq (-17) 18 r0 = q := ⟨_, rfl⟩
  rw [hq0] at JB0
  have k0 : -1000 ≤ q0 ∧ q0 ≤ 1000 := by have := VR.out; have := JB0.out; omega
  replace hq0 := Lib.hid hq0
  have JB1 := Lib.hid (jq_bd (l := l1) (h := h1) (by have := VR.out; omega) hr1.1)
  obtain ⟨q1, hq1⟩ : ∃ q, jq l1 h1 r1 = q := ⟨_, rfl⟩
  rw [hq1] at JB1
  have k1 : -1000 ≤ q1 ∧ q1 ≤ 1000 := by have := VR.out; have := JB1.out; omega
  replace hq1 := Lib.hid hq1
  have JB2 := Lib.hid (jq_bd (l := l2) (h := h2) (by have := VR.out; omega) hr2.1)
  obtain ⟨q2, hq2⟩ : ∃ q, jq l2 h2 r2 = q := ⟨_, rfl⟩
  rw [hq2] at JB2
  have k2 : -1000 ≤ q2 ∧ q2 ≤ 1000 := by have := VR.out; have := JB2.out; omega
  replace hq2 := Lib.hid hq2
  have JQ : Hid (∀ w : World, Calls Tryd.prog 17 #[.agg #[.int .i64 X, .int .i64 Y, .int .i64 n0, .int .i64 n1, .int .i64 n2, .int .i64 W, .int .i64 (-17), .int .i64 l1, .int .i64 l2, .int .i64 18, .int .i64 h1, .int .i64 h2], .agg #[.int .u8 r0, .int .u8 r1, .int .u8 r2]] w fun e w' => e = .returned (.agg #[.int .i64 q0, .int .i64 q1, .int .i64 q2]) ∧ Below w.heap.size w w') := Lib.hid (fun w => by rw [← hq0.out, ← hq1.out, ← hq2.out]; exact joint_is X Y n0 n1 n2 W (-17) l1 l2 18 h1 h2 r0 r1 r2 w V hr0 hr1 hr2)
  obtain ⟨x1, x2, x3, y1, y2, y3, u1, u2, u3, v1, v2, v3, a1, a2, a3, b1, b2, b3, PP⟩ := pose_ex X Y n0 n1 n2 q0 q1 q2
  replace PP := Lib.hid PP
  have D1 := Lib.hid (vd_one q0 x1 y1 (Lib.hid PP.out.e1))
  have D2 := Lib.hid (vd_two (x1, y1) q1 x2 y2 1 2 D1.out (by omega) rfl (Lib.hid PP.out.e2))
  have D3 := Lib.hid (vd_two (x2, y2) q2 x3 y3 2 3 D2.out (by omega) rfl (Lib.hid PP.out.e3))
  have PB := Lib.hid (show (-439400000 ≤ a3 ∧ a3 ≤ 439400000) ∧ -439400000 ≤ b3 ∧ b3 ≤ 439400000 by have := pose_bd PP.out V.out; have := VR.out; omega)
  have PB0 := PB.out.1
  have PB1 := PB.out.2
  obtain ⟨L, hL⟩ : ∃ L, solL X Y n0 n1 n2 (-17) l1 l2 18 h1 h2 a3 b3 x3 y3 = L := ⟨_, rfl⟩
  obtain ⟨N, hN⟩ : ∃ N, L.length = N := ⟨_, rfl⟩
  have LB := Lib.hid (show L.length ≤ 36 by rw [← hL]; exact solL_36 (by have := VR.out; omega) (by have := VR.out; omega) (by have := VR.out; omega) (by have := VR.out; omega))
  have HL := Lib.hid hL
  have HN := Lib.hid hN
  clear hL hN
  have TW := Lib.hid (Tab.below TT.out B.out)
  refine (wpIn_wide (n := 0)).1 (region_tip [26, 27, 28, 29, 30, 25, 31, 32, 7, 8] [(0, 26), (1, 27), (2, 28), (3, 29), (4, 30), (5, 25), (6, 31), (7, 32)] (fun t => match t with | 26 => .agg #[.int .i64 X, .int .i64 Y, .int .i64 n0, .int .i64 n1, .int .i64 n2, .int .i64 W, .int .i64 (-17), .int .i64 l1, .int .i64 l2, .int .i64 18, .int .i64 h1, .int .i64 h2] | 27 => .agg #[.int .i64 X, .int .i64 Y, .int .i64 n0, .int .i64 n1, .int .i64 n2, .int .i64 W, .int .i64 (-17), .int .i64 l1, .int .i64 l2, .int .i64 18, .int .i64 h1, .int .i64 h2] | 28 => .agg #[.int .u8 r0, .int .u8 r1, .int .u8 r2] | 29 => .agg #[.int .i64 q0, .int .i64 q1, .int .i64 q2] | 30 => .tuple #[.agg #[.int .i64 a3, .int .i64 b3], .agg #[.int .i64 x3, .int .i64 y3, .int .i64 3]] | 25 => .tuple #[.agg #[.int .i64 a3, .int .i64 b3], .agg #[.int .i64 x3, .int .i64 y3, .int .i64 3]] | 31 => .agg #[.int .i64 a3, .int .i64 b3] | 32 => .agg #[.int .i64 x3, .int .i64 y3, .int .i64 3] | _ => undef) 7 8 8 9 10 11 #[.int .i64 0, .int .i64 0] #[.int .i64 a3, .int .i64 b3] #[.int .i64 0, .int .i64 0, .int .i64 0] #[.int .i64 x3, .int .i64 y3, .int .i64 3] 23 29 rfl rfl rfl (by kernel_rfl) (by kernel_rfl) (by kernel_rfl) (by kernel_rfl) (by kernel_rfl) ?_ ?_)
  · intro s T w i o K ho hs hpre hJ hK
    have hi := (Array.getElem?_eq_some_iff.1 ho).1
    have hi' : i = 0 ∨ i = 1 ∨ i = 2 ∨ i = 3 ∨ i = 4 ∨ i = 5 ∨ i = 6 ∨ i = 7 ∨ i = 8 ∨ i = 9 ∨ i = 10 ∨ i = 11 := by simp at hi; omega
    clear hi
    rcases hi' with rfl | rfl | rfl | rfl | rfl | rfl | rfl | rfl | rfl | rfl | rfl | rfl
    · obtain rfl := Option.some.inj ho
      have g : T[2]? = some (.pointer (some ⟨ba, 0, none⟩)) := hJ.frame 2 (by decide)
      exact wp_load_row 27 (.tmp 2) rfl _ (eval_tmp g) _ _ _ _ (blk_call HA.out hJ.bel) Tryd.underlying27 rfl (by kernel_rfl) (hK _ _ (hJ.pure (i := 0) (q := 26) (by decide) (by decide) (by decide) (by simp) (by decide) hJ.bel.size (Below.refl _ _)))
    · obtain rfl := Option.some.inj ho
      have g : T[2]? = some (.pointer (some ⟨ba, 0, none⟩)) := hJ.frame 2 (by decide)
      exact wp_load_row 27 (.tmp 2) rfl _ (eval_tmp g) _ _ _ _ (blk_call HA.out hJ.bel) Tryd.underlying27 rfl (by kernel_rfl) (hK _ _ (hJ.pure (i := 1) (q := 27) (by decide) (by decide) (by decide) (by simp) (by decide) hJ.bel.size (Below.refl _ _)))
    · obtain rfl := Option.some.inj ho
      have g : T[3]? = some (.pointer (some ⟨br, 0, none⟩)) := hJ.frame 3 (by decide)
      exact wp_load_row 30 (.tmp 3) rfl _ (eval_tmp g) _ _ _ _ (blk_call HR.out hJ.bel) Tryd.underlying30 rfl (by kernel_rfl) (hK _ _ (hJ.pure (i := 2) (q := 28) (by decide) (by decide) (by decide) (by simp) (by decide) hJ.bel.size (Below.refl _ _)))
    · obtain rfl := Option.some.inj ho
      have g27 := hJ.told (1, 27) (by decide) (hpre 1 (by simp [Region.binds]))
      have g28 := hJ.told (2, 28) (by decide) (hpre 2 (by simp [Region.binds]))
      go_simp
      refine (JQ.out _).mono ?_; rintro e w9 ⟨rfl, hb⟩
      exact hK _ _ (hJ.pure (i := 3) (q := 29) (by decide) (by decide) (by decide) (by simp) (by decide) hJ.bel.size (hb))
    · obtain rfl := Option.some.inj ho
      have g26 := hJ.told (0, 26) (by decide) (hpre 0 (by simp [Region.binds]))
      have g29 := hJ.told (3, 29) (by decide) (hpre 3 (by simp [Region.binds]))
      go_simp
      refine (tip_is X Y n0 n1 n2 W (-17) l1 l2 18 h1 h2 q0 q1 q2 x1 x2 x3 y1 y2 y3 u1 u2 u3 v1 v2 v3 a1 a2 a3 b1 b2 b3 _ (Tab.below TW.out hJ.bel) k0 k1 k2 V PP).mono ?_; rintro e w9 ⟨rfl, hb⟩
      exact hK _ _ (hJ.pure (i := 4) (q := 30) (by decide) (by decide) (by decide) (by simp) (by decide) hJ.bel.size (hb))
    · obtain rfl := Option.some.inj ho
      have g30 := hJ.told (4, 30) (by decide) (hpre 4 (by simp [Region.binds]))
      go_simp
      exact hK _ _ (hJ.pure (i := 5) (q := 25) (by decide) (by decide) (by decide) (by simp) (by decide) hJ.bel.size (Below.refl _ _))
    · obtain rfl := Option.some.inj ho
      have g25 := hJ.told (5, 25) (by decide) (hpre 5 (by simp [Region.binds]))
      go_simp
      exact hK _ _ (hJ.pure (i := 6) (q := 31) (by decide) (by decide) (by decide) (by simp) (by decide) hJ.bel.size (Below.refl _ _))
    · obtain rfl := Option.some.inj ho
      have g25 := hJ.told (5, 25) (by decide) (hpre 5 (by simp [Region.binds]))
      go_simp
      exact hK _ _ (hJ.pure (i := 7) (q := 32) (by decide) (by decide) (by decide) (by simp) (by decide) hJ.bel.size (Below.refl _ _))
    · obtain rfl := Option.some.inj ho
      go_simp
      exact hK _ _ (hJ.allocP hs (by decide) (by decide) (by simp) (by decide) hJ.bel.size)
    · obtain rfl := Option.some.inj ho
      go_simp
      exact hK _ _ (hJ.swap.allocP hs (by decide) (by decide) (by simp) (by decide) hJ.bel.size).swap
    · obtain rfl := Option.some.inj ho
      obtain ⟨b, hb, hnb, hh⟩ := hJ.fp (hpre 8 (by simp [Region.binds]))
      rw [if_neg (by rw [hs]; decide)] at hh
      have g31 := hJ.told (6, 31) (by decide) (hpre 6 (by simp [Region.binds]))
      exact wp_store_row 23 (.tmp 7) (.tmp 31) rfl b #[.int .i64 a3, .int .i64 b3] (eval_tmp hb) (eval_tmp g31) _ _ hh (by kernel_rfl) rfl (by kernel_rfl) (hK _ _ (hJ.storeP (by decide) (by decide) (hpre 8 (by simp [Region.binds])) hb hnb hh))
    · obtain rfl := Option.some.inj ho
      obtain ⟨b, hb, hnb, hh⟩ := hJ.fd (hpre 9 (by simp [Region.binds]))
      rw [if_neg (by rw [hs]; decide)] at hh
      have g32 := hJ.told (7, 32) (by decide) (hpre 7 (by simp [Region.binds]))
      exact wp_store_row 29 (.tmp 8) (.tmp 32) rfl b #[.int .i64 x3, .int .i64 y3, .int .i64 3] (eval_tmp hb) (eval_tmp g32) _ _ hh (by kernel_rfl) rfl (by kernel_rfl) (hK _ _ (hJ.swap.storeP (by decide) (by decide) (hpre 9 (by simp [Region.binds])) hb hnb hh).swap)
  · intro s T W9 hall hJ hfr
    have g26 := hJ.told (0, 26) (by decide) (hall 0 (by decide))
    have g27 := hJ.told (1, 27) (by decide) (hall 1 (by decide))
    have g28 := hJ.told (2, 28) (by decide) (hall 2 (by decide))
    have g29 := hJ.told (3, 29) (by decide) (hall 3 (by decide))
    have g30 := hJ.told (4, 30) (by decide) (hall 4 (by decide))
    have g25 := hJ.told (5, 25) (by decide) (hall 5 (by decide))
    have g31 := hJ.told (6, 31) (by decide) (hall 6 (by decide))
    have g32 := hJ.told (7, 32) (by decide) (hall 7 (by decide))
    obtain ⟨bp, g7, np, hp⟩ := hJ.fp (hall 8 (by decide))
    rw [if_pos (hall 10 (by decide))] at hp
    obtain ⟨bv, g8, nv, hv⟩ := hJ.fd (hall 9 (by decide))
    rw [if_pos (hall 11 (by decide))] at hv
    have hne := hJ.ne (hall 8 (by decide)) (hall 9 (by decide))
    rw [g7, g8] at hne
    have hT9 := conc [(26, .agg #[.int .i64 X, .int .i64 Y, .int .i64 n0, .int .i64 n1, .int .i64 n2, .int .i64 W, .int .i64 (-17), .int .i64 l1, .int .i64 l2, .int .i64 18, .int .i64 h1, .int .i64 h2]), (27, .agg #[.int .i64 X, .int .i64 Y, .int .i64 n0, .int .i64 n1, .int .i64 n2, .int .i64 W, .int .i64 (-17), .int .i64 l1, .int .i64 l2, .int .i64 18, .int .i64 h1, .int .i64 h2]), (28, .agg #[.int .u8 r0, .int .u8 r1, .int .u8 r2]), (29, .agg #[.int .i64 q0, .int .i64 q1, .int .i64 q2]), (30, .tuple #[.agg #[.int .i64 a3, .int .i64 b3], .agg #[.int .i64 x3, .int .i64 y3, .int .i64 3]]), (25, .tuple #[.agg #[.int .i64 a3, .int .i64 b3], .agg #[.int .i64 x3, .int .i64 y3, .int .i64 3]]), (31, .agg #[.int .i64 a3, .int .i64 b3]), (32, .agg #[.int .i64 x3, .int .i64 y3, .int .i64 3]), (7, .pointer (some ⟨bp, 0, none⟩)), (8, .pointer (some ⟨bv, 0, none⟩))] hJ.size hfr (by simp only [List.forall_mem_cons]; exact ⟨g26, g27, g28, g29, g30, g25, g31, g32, g7, g8, fun p hp => absurd hp List.not_mem_nil⟩) (by kernel_rfl)
    simp only [List.foldl, List.setIfInBounds_toArray, List.set_cons_succ, List.set_cons_zero] at hT9
    subst hT9
    have hb8 := hJ.bel
    clear hJ hall hfr g26 g27 g28 g29 g30 g25 g31 g32 g7 g8
    have Hp := Lib.hid hp
    have Hv := Lib.hid hv
    clear hp hv TW
    replace HA := Lib.hid (blk_call HA.out hb8)
    replace HR := Lib.hid (blk_call HR.out hb8)
    replace B := Lib.hid (belT B.out hb8)
    clear hb8
    have TW := Lib.hid (Tab.below TT.out B.out)
    have TH := Lib.hid (show (-1000000000 ≤ a3 ∧ a3 ≤ 1000000000) ∧ -1000000000 ≤ b3 ∧ b3 ≤ 1000000000 by have := PB.out; omega)
    have c0 := blk_cell HA.out 0 _ rfl
    have c1 := blk_cell HA.out 1 _ rfl
    have c2 := blk_cell HA.out 2 _ rfl
    have c3 := blk_cell HA.out 3 _ rfl
    have c4 := blk_cell HA.out 4 _ rfl
    have c5 := blk_cell HA.out 5 _ rfl
    have c6 := blk_cell HA.out 6 _ rfl
    have c7 := blk_cell HA.out 7 _ rfl
    have c8 := blk_cell HA.out 8 _ rfl
    have c9 := blk_cell HA.out 9 _ rfl
    have c10 := blk_cell HA.out 10 _ rfl
    have c11 := blk_cell HA.out 11 _ rfl
    have p_0 := blk_cell Hp.out 0 _ rfl
    have p_1 := blk_cell Hp.out 1 _ rfl
    have v_0 := blk_cell Hv.out 0 _ rfl
    have v_1 := blk_cell Hv.out 1 _ rfl
    have v_2 := blk_cell Hv.out 2 _ rfl
    go_upto_region 9 with (go_at_call 14; refine (solve_any X Y n0 n1 n2 W (-17) l1 l2 18 h1 h2 a3 b3 x3 y3 _ TW.out V D3 TH L N HL HN).mono ?_; rintro e Ws ⟨⟨ao, sc, rfl, hrow⟩, hb⟩)
    clear c0 c1 c2 c3 c4 c5 c6 c7 c8 c9 c10 c11
    clear p_0 p_1
    clear v_0 v_1 v_2
    clear TW
    have ROW := Lib.hid hrow
    clear hrow
    replace HA := Lib.hid (blk_call HA.out hb)
    replace HR := Lib.hid (blk_call HR.out hb)
    replace Hp := Lib.hid (blk_call Hp.out hb)
    replace Hv := Lib.hid (blk_call Hv.out hb)
    replace B := Lib.hid (belT B.out hb)
    clear hb
    obtain ⟨g1, hg1⟩ : ∃ g, X - (b3 - Y) = g := ⟨_, rfl⟩
    obtain ⟨g2, hg2⟩ : ∃ g, Y + a3 - X = g := ⟨_, rfl⟩
    have bX : -439400000 ≤ X ∧ X ≤ 439400000 := by have := VR.out; omega
    have bY : -439400000 ≤ Y ∧ Y ≤ 439400000 := by have := VR.out; omega
    have w1 : IntKind.i64.wrap (b3 - Y) = b3 - Y := wrap_k _ (by omega)
    have w2 : IntKind.i64.wrap (X - (b3 - Y)) = X - (b3 - Y) := by rw [IntKind.wrap_i64]; omega
    have w3 : IntKind.i64.wrap (Y + a3) = Y + a3 := wrap_k _ (by omega)
    have w4 : IntKind.i64.wrap (Y + a3 - X) = Y + a3 - X := by rw [IntKind.wrap_i64]; omega
    have w5 : -9223372036854775808 ≤ b3 - Y ∧ b3 - Y ≤ 9223372036854775807 := by omega
    have w6 : -9223372036854775808 ≤ g1 ∧ g1 ≤ 9223372036854775807 := by omega
    have w7 : -9223372036854775808 ≤ g2 ∧ g2 ≤ 9223372036854775807 := by omega
    have w8 : -9223372036854775808 ≤ Y + a3 ∧ Y + a3 ≤ 9223372036854775807 := by omega
    have c0 := blk_cell HA.out 0 _ rfl
    have c1 := blk_cell HA.out 1 _ rfl
    have p_0 := blk_cell Hp.out 0 _ rfl
    have p_1 := blk_cell Hp.out 1 _ rfl
    go_upto_region 10 with fail
    clear c0 c1 p_0 p_1 w1 w2 w3 w4 w5 w6 w7 w8
    have lHAbg := Lib.hid (Nat.ne_of_lt (blk_lt HA.out))
    have lHRbg := Lib.hid (Nat.ne_of_lt (blk_lt HR.out))
    have lHpbg := Lib.hid (Nat.ne_of_lt (blk_lt Hp.out))
    have lHvbg := Lib.hid (Nat.ne_of_lt (blk_lt Hv.out))
    replace HA := Lib.hid (blk_alloc HA.out (.cells #[.int .i64 g1, .int .i64 g2] 23))
    replace HR := Lib.hid (blk_alloc HR.out (.cells #[.int .i64 g1, .int .i64 g2] 23))
    replace Hp := Lib.hid (blk_alloc Hp.out (.cells #[.int .i64 g1, .int .i64 g2] 23))
    replace Hv := Lib.hid (blk_alloc Hv.out (.cells #[.int .i64 g1, .int .i64 g2] 23))
    replace ROW := Lib.hid (prow3_alloc ROW.out (.cells #[.int .i64 g1, .int .i64 g2] 23))
    have Hg := Lib.hid (blk_new Ws (.cells #[.int .i64 g1, .int .i64 g2] 23) _ rfl)
    have Nbg := Lib.hid (B.out.size)
    replace B := Lib.hid (belA B.out (.cells #[.int .i64 g1, .int .i64 g2] 23))
    obtain ⟨bg, ebg⟩ : ∃ x, Ws.heap.size = x := ⟨_, rfl⟩
    rw [ebg] at Hg Nbg lHAbg lHRbg lHpbg lHvbg ⊢
    clear ebg
    generalize Ws.alloc (.cells #[.int .i64 g1, .int .i64 g2] 23) = Wu at *
    obtain ⟨my, hmy⟩ : ∃ m, -y3 = m := ⟨_, rfl⟩
    have yb := (vd_bd D3.out).2.2
    have mb : -274625 ≤ my ∧ my ≤ 274625 := by omega
    have D4 : Hid (vdB my x3 3 = true) := Lib.hid (by rw [← hmy]; exact vd_of _ _ _ (by omega) (by omega) (by rw [← vd_len D3.out]; grind))
    have G4 : Hid (solL X Y n0 n1 n2 (-17) l1 l2 18 h1 h2 g1 g2 my x3 = solL X Y n0 n1 n2 (-17) l1 l2 18 h1 h2 (X - (b3 - Y)) (Y + a3 - X) (-y3) x3) := Lib.hid (by rw [hg1, hg2, hmy])
    obtain ⟨K, hK⟩ : ∃ K, solL X Y n0 n1 n2 (-17) l1 l2 18 h1 h2 g1 g2 my x3 = K := ⟨_, rfl⟩
    have HK := Lib.hid hK
    have HKN : Hid (K.length = N) := Lib.hid (by rw [← hK, G4.out, turn_len, HL.out, HN.out])
    have TM : Hid (∀ q ∈ L, (-17 ≤ q.1 ∧ q.1 ≤ 18) ∧ turn9 q ∈ K) := Lib.hid (fun q hq => by
        rw [← HL.out] at hq
        exact ⟨((mem_solL.1 hq).1.1), by rw [← hK, G4.out]; exact turn_mem hq⟩)
    have TG := Lib.hid (show (-1000000000 ≤ g1 ∧ g1 ≤ 1000000000) ∧ -1000000000 ≤ g2 ∧ g2 ≤ 1000000000 by have := turn_bd PP.out V.out; have := VR.out; omega)
    clear hg1 hg2 hK G4
    have NB36 : N ≤ 36 := by rw [← HN.out]; exact LB.out
    have TW := Lib.hid (Tab.below TT.out B.out)
    have c0 := blk_cell HA.out 0 _ rfl
    have c1 := blk_cell HA.out 1 _ rfl
    have c2 := blk_cell HA.out 2 _ rfl
    have c3 := blk_cell HA.out 3 _ rfl
    have c4 := blk_cell HA.out 4 _ rfl
    have c5 := blk_cell HA.out 5 _ rfl
    have c6 := blk_cell HA.out 6 _ rfl
    have c7 := blk_cell HA.out 7 _ rfl
    have c8 := blk_cell HA.out 8 _ rfl
    have c9 := blk_cell HA.out 9 _ rfl
    have c10 := blk_cell HA.out 10 _ rfl
    have c11 := blk_cell HA.out 11 _ rfl
    have p_0 := blk_cell Hg.out 0 _ rfl
    have p_1 := blk_cell Hg.out 1 _ rfl
    have v_0 := blk_cell Hv.out 0 _ rfl
    have v_1 := blk_cell Hv.out 1 _ rfl
    have v_2 := blk_cell Hv.out 2 _ rfl
    go_upto_region 11 with (go_at_call 14; refine (solve_any X Y n0 n1 n2 W (-17) l1 l2 18 h1 h2 g1 g2 my x3 _ TW.out V D4 TG K N HK HKN).mono ?_; rintro e Wk ⟨⟨bo, kc, rfl, hrow⟩, hb⟩)
    clear c0 c1 c2 c3 c4 c5 c6 c7 c8 c9 c10 c11
    clear p_0 p_1
    clear v_0 v_1 v_2
    clear TW
    have ROK := Lib.hid hrow
    clear hrow mb yb
    replace HA := Lib.hid (blk_call HA.out hb)
    replace HR := Lib.hid (blk_call HR.out hb)
    replace Hp := Lib.hid (blk_call Hp.out hb)
    replace Hv := Lib.hid (blk_call Hv.out hb)
    replace Hg := Lib.hid (blk_call Hg.out hb)
    replace ROW := Lib.hid (prow3_below ROW.out hb)
    replace B := Lib.hid (belT B.out hb)
    clear hb
    go_wp2_with fail
    go_loopw [12] (fun i wr => ∃ j : Nat, j ≤ N ∧ i = .int .i64 j ∧ Hid (Below Wk.heap.size Wk wr)) (fun i _ => N - (intOf i).toNat)
    case atStart => exact ⟨0, Nat.zero_le _, rfl, Lib.hid (Below.refl _ _)⟩
    case round =>
      obtain ⟨j, hj, rfl, HB⟩ := hrel
      by_cases hlt : j < N
      rotate_left
      · have hlt' : ¬ (j : Int) < N := by omega
        go_wp2_with fail
        go_ret
        exact ⟨rfl, belT B.out HB.out⟩
      have hLj : j < L.length := by rw [HN.out]; exact hlt
      have R1 := Lib.hid (prow3_below ROW.out HB.out)
      have R2 := Lib.hid (prow3_below ROK.out HB.out)
      obtain ⟨b', o', rfl, c1, c2, c3⟩ := R1.out j hLj
      have TQ := Lib.hid (TM.out _ (getD_mem hLj))
      generalize L.getD j j0 = eq at *
      obtain ⟨x, y, z⟩ := eq
      have hji : (j : Int) < N := by omega
      have lb := World.block_lt_of_cell? wr _ c1
      have xb := TQ.out.1
      simp only at xb
      obtain ⟨x9, hx9⟩ : ∃ x9, x + 9 = x9 := ⟨_, rfl⟩
      have x9b : -8 ≤ x9 ∧ x9 ≤ 27 := by omega
      go_upto_region 17 with fail
      have HQ := Lib.hid (blk_new wr (.cells #[.int .i64 x, .int .i64 y, .int .i64 z] 25) _ rfl)
      have R3 := Lib.hid (prow3_alloc R2.out (.cells #[.int .i64 x, .int .i64 y, .int .i64 z] 25))
      have B3 := Lib.hid (belA HB.out (.cells #[.int .i64 x, .int .i64 y, .int .i64 z] 25))
      have nq := HB.out.size
      obtain ⟨bq, hbq⟩ : ∃ q, wr.heap.size = q := ⟨_, rfl⟩
      rw [hbq] at HQ nq ⊢
      clear hbq c1 c2 c3 lb R1 R2
      skip
      generalize wr.alloc (.cells #[.int .i64 x, .int .i64 y, .int .i64 z] 25) = Wq at *
      have q0' := blk_cell HQ.out 0 _ rfl
      have f0 := blk_fz HQ.out 0
      go_upto_region 18 with fail
      clear q0' f0
      have HQ9 : Hid ((Wq.setCell ⟨bq, 0, none⟩ (.int .i64 x9)).heap[bq]? = some (.cells #[.int .i64 x9, .int .i64 y, .int .i64 z] 25 (0, 0))) := Lib.hid (blk_set (j := 0) HQ.out (.int .i64 x9))
      have B4 := Lib.hid (belS (p := ⟨bq, 0, none⟩) B3.out nq (.int .i64 x9))
      clear HQ B3 R3
      generalize Wq.setCell ⟨bq, 0, none⟩ (.int .i64 x9) = Wr at *
      have q0' := blk_cell HQ9.out 0 _ rfl
      have f0 := blk_fz HQ9.out 0
      by_cases h18 : 18 < x9
      · have TK : Hid ((x9 - 36, y, z) ∈ K) := Lib.hid (by have := TQ.out.2; unfold turn9 rot9 at this; simp only [hx9] at this; rwa [if_pos h18] at this)
        obtain ⟨x0, hx0⟩ : ∃ x0, x9 - 36 = x0 := ⟨_, rfl⟩
        rw [hx0] at TK
        have x0b : -17 ≤ x0 ∧ x0 ≤ -9 := by omega
        go_upto_region 20 with fail
        clear q0' f0
        have HQ0 : Hid ((Wr.setCell ⟨bq, 0, none⟩ (.int .i64 x0)).heap[bq]? = some (.cells #[.int .i64 x0, .int .i64 y, .int .i64 z] 25 (0, 0))) := Lib.hid (blk_set (j := 0) HQ9.out (.int .i64 x0))
        have B5 := Lib.hid (belS (p := ⟨bq, 0, none⟩) B4.out nq (.int .i64 x0))
        clear HQ9 B4
        generalize Wr.setCell ⟨bq, 0, none⟩ (.int .i64 x0) = Wz at *
        have q0' := blk_cell HQ0.out 0 _ rfl
        have q1' := blk_cell HQ0.out 1 _ rfl
        have q2' := blk_cell HQ0.out 2 _ rfl
        have R5 := Lib.hid (prow3_below ROK.out B5.out)
        go_wp2_with (go_at_call 23; refine (has3_is bo N kc K x0 y z true _ HKN.out (Lib.hid (decide_eq_true TK.out)) (by rw [HKN.out]; omega) R5.out).mono ?_; rintro e Wt ⟨rfl, hb⟩)
        exact ⟨⟨j + 1, by omega, by go_num, Lib.hid (belT B5.out hb)⟩, by simp [intOf]; omega⟩
      · have TK : Hid ((x9, y, z) ∈ K) := Lib.hid (by have := TQ.out.2; unfold turn9 rot9 at this; simp only [hx9] at this; rwa [if_neg h18] at this)
        go_upto_region 20 with fail
        clear q0' f0
        have q0' := blk_cell HQ9.out 0 _ rfl
        have q1' := blk_cell HQ9.out 1 _ rfl
        have q2' := blk_cell HQ9.out 2 _ rfl
        have R5 := Lib.hid (prow3_below ROK.out B4.out)
        go_wp2_with (go_at_call 23; refine (has3_is bo N kc K x9 y z true _ HKN.out (Lib.hid (decide_eq_true TK.out)) (by rw [HKN.out]; omega) R5.out).mono ?_; rintro e Wt ⟨rfl, hb⟩)
        exact ⟨⟨j + 1, by omega, by go_num, Lib.hid (belT B4.out hb)⟩, by simp [intOf]; omega⟩

set_option maxRecDepth 100000 in
theorem lifted (os : Os) (started : os.Started) (H : Type) (enc : TypeId × Value → H) :
    ReturnsInHanded {} Tryd.checked os 7 .any (fun w args => (Rows.invkinRotatedSpec.pre enc Tryd.prog Tryd.f7 [] false w args ∧ laidMetH Tryd.prog Rows.invkinRotatedRow.laid w) ∧ sizedMet enc Tryd.prog Tryd.f7 (OpenSpec.ofChange Rows.invkinRotatedSpec) false w args)
      (Rows.invkinRotatedSpec.post enc Tryd.prog Tryd.f7 false true false false) := by
  refine returnsInHanded_of_change_and (C := Tryd.checked) (X := fun w _ => laidMetH Tryd.prog Rows.invkinRotatedRow.laid w) (fun _ _ _ hh h => h.of_heap hh) own started (by kernel_rfl) Tryd.func7
    (ChangeSpec.witness_shaped (enc := enc) (C := Tryd.checked) (os := os) (X := fun w _ => laidMetH Tryd.prog Rows.invkinRotatedRow.laid w) false (World.doorLaid Tryd.prog 600 os) #[.agg #[.int .i64 0, .int .i64 0, .int .i64 0, .int .i64 0, .int .i64 0, .int .i64 0, .int .i64 0, .int .i64 0, .int .i64 0, .int .i64 0, .int .i64 0, .int .i64 0], .agg #[.int .u8 0, .int .u8 0, .int .u8 0]] 8 rfl (World.shaped_of_RefB (by kernel_rfl) (by kernel_rfl)) (by kernel_rfl) (by kernel_rfl) (by kernel_rfl) (show laidMetH Tryd.prog [(qn, Rows.laid_ambidexter_rotation_quadrant)] _ from door_met os _)) ?_
  intro W base args ds gs before hval0 hW _ _ hL _
  have hval : ∀ (j : Nat) t v, Tryd.f7.params[j]? = some t → args[j]? = some v → Value.okWide Tryd.prog W .any base t v := hval0
  have hW' := hW
  obtain ⟨p, q, hA0, hV, rfl, hfz, hnd⟩ := hW
  have hA : DataW.TrodAll enc Tryd.prog W 0 (fun _ => true) true Tryd.f7.params.toList args.toList ds p := hA0
  rw [Tryd.params7] at hA hval
  obtain ⟨v0, vs0, d0, ds0, p0, q0, hargs, rfl, rfl, h0, r0⟩ := trodAll_cons hA
  obtain ⟨v1, vs1, d1, ds1, p1, q1, rfl, rfl, rfl, h1, r1⟩ := trodAll_cons r0
  obtain ⟨rfl, rfl, rfl⟩ := trodAll_nil r1
  obtain rfl : args = #[v0, v1] := by cases args; simp_all
  obtain ⟨rfl, rfl⟩ := trodVars_none hV
  have k0 := h0
  have lt0 : ∀ x ∈ p0, x.block < W.heap.size := by obtain ⟨m, hm⟩ := k0; exact DataW.trod_lt m _ _ _ hm
  obtain ⟨c0_0, c0_1, c0_2, c0_3, c0_4, c0_5, c0_6, c0_7, c0_8, c0_9, c0_10, c0_11, rfl⟩ := AFr.open_arm (hval 0 27 v0 rfl rfl) h0
  have k1 := h1
  have lt1 : ∀ x ∈ p1, x.block < W.heap.size := by obtain ⟨m, hm⟩ := k1; exact DataW.trod_lt m _ _ _ hm
  obtain ⟨c1_0, c1_1, c1_2, rfl, b1_0, b1_1, b1_2⟩ := AFr.open_raw (hval 1 30 v1 rfl rfl) h1
  clear hA0 hval0
  simp only [List.append_nil] at hW'
  refine (walk c0_0 c0_1 c0_2 c0_3 c0_4 c0_5 c0_6 c0_7 c0_8 c0_9 c0_10 c0_11 c1_0 c1_1 c1_2 b1_0 b1_1 b1_2 W (tab_of_laid hL)).mono fun e W' ⟨he, bel⟩ => ?_
  subst he
  exact ⟨_, rfl, _, _, _, [], _, [], hW', trodAll_mk1 (shut_bool Tryd.underlying4 _), (trodAll_cons_mk (Below.trod HFr.laidOut (by kernel_rfl) (of_decide_eq_true (by kernel_rfl)) k0 bel lt0) (trodAll_cons_mk (Below.trod HFr.laidOut (by kernel_rfl) (of_decide_eq_true (by kernel_rfl)) k1 bel lt1) trodAll_mk0)), rfl, bel.frame _, fun h => by cases h⟩

theorem holds : Rows.InvkinRotatedSaid :=
  OpenClaim.holds_of_wide 7 Tryd.f7 rfl rfl rfl rfl rfl rfl rfl ⟨rfl, rfl, rfl, rfl, rfl⟩ rfl rfl rfl rfl rfl (by kernel_rfl) Tryd.func7 (by kernel_rfl)
    (of_decide_eq_true (by kernel_rfl)) (by unfold Func.isWrapper; first | (rw [if_pos (by decide +kernel)]; kernel_rfl) | (rw [if_neg (by decide +kernel)]; exact ⟨rfl, rfl⟩))
    (fun os started H enc _ => lifted os started H enc)

/-- THE STATEMENT: the tied card. -/
theorem card_holds : Rows.InvkinRotatedCardSaid :=
  Claim7.holds_tied_plain_at .later [] [.data] true Rows.invkinRotatedCard.stood.harness false
    holds (fun _ h => by cases h) (by kernel_rfl) (fun _ h => by cases h) invkinRotated_row_tie rfl ⟨rfl, rfl⟩ (by kernel_rfl) rfl
    (fun f fn hf hfn => by
      obtain rfl : f = 7 := Option.some.inj ((show Tryd.prog.funcNamed Rows.invkinRotatedRow.func = some 7 by kernel_rfl).symm.trans hf) |>.symm
      obtain rfl : fn = Tryd.f7 := (Option.some.inj (Tryd.func7.symm.trans hfn)).symm
      exact ⟨by kernel_rfl, fun j t ht => by
        rw [Tryd.params7] at ht
        have hm : t ∈ [27, 30] := by have := Array.mem_of_getElem? ht; simp only [List.mem_toArray, List.mem_cons, List.not_mem_nil, or_false] at this ⊢; grind
        have hall : ([27, 30].all fun u => !Tryd.prog.wantsStandIn u) = true := by kernel_rfl
        exact (show Tryd.prog.wantsStandIn t = false by simpa using List.all_eq_true.1 hall t hm)⟩)
    (by kernel_rfl)
#print axioms card_holds
end Go.Proofs.YtceejjamngplkaaDoor.invkinRotated
