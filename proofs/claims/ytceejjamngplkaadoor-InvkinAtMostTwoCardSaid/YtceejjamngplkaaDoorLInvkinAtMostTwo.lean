/- For every valid arm and every target, there are at most two solutions unless the third link starts at the base, and always at most 36; no two solutions have the same first joint.
Conditions: none on the arguments; the table of rotations lies as the program's text lays it (the card's tie). -/
import Derived.Test.YtceejjamngplkaaDoorIkR
import Derived.Test.YtceejjamngplkaaDoorIkW
import Derived.Test.YtceejjamngplkaaDoorIkT
import Derived.Test.YtceejjamngplkaaDoorIkX
import Derived.Test.YtceejjamngplkaaDoorAmO
import Derived.Test.YtceejjamngplkaaDoorIkU
import Derived.Test.YtceejjamngplkaaDoorBase
import Derived.Test.YtceejjamngplkaaDoorTie
import Derived.Test.YtceejjamngplkaaDoorCards
import Derived.SevenTiedAt
namespace Go.Proofs.YtceejjamngplkaaDoor.invkinAtMostTwo
open Go.ChangeShapes Go.WideShapes Go.ChangeAt Go.RowKit
set_option linter.unusedVariables false
set_option linter.unusedSimpArgs false
set_option maxRecDepth 100000

theorem first_at {L : List J3} (h : L.Pairwise (fun p q => p.1 < q.1)) {k : Nat} (h0 : 0 < k) (hk : k < L.length) : (L.getD (k - 1) j0).1 < (L.getD k j0).1 := by
  have := List.pairwise_iff_getElem.1 h (k - 1) k (by omega) hk (by omega)
  rwa [List.getD_eq_getElem?_getD, List.getD_eq_getElem?_getD, List.getElem?_eq_getElem hk, List.getElem?_eq_getElem (show k - 1 < L.length by omega)]
theorem drewN8 {w wr : World} {q : Nat} (h : wr = w.drewN q) (a : Addr) : wr.cell? a = w.cell? a := by rw [h]; rfl
set_option maxHeartbeats 8000000 in
theorem walk (X Y n0 n1 n2 W l0 l1 l2 h0 h1 h2 tx ty ex ey en : Int) (r0 r1 r2 : Int) (hr0 : 0 ≤ r0 ∧ r0 ≤ 255) (hr1 : 0 ≤ r1 ∧ r1 ≤ 255) (hr2 : 0 ≤ r2 ∧ r2 ≤ 255) (here : Bool) (w : World) (hT : Tab w) :
    Calls Tryd.prog 5 #[.agg #[.int .i64 X, .int .i64 Y, .int .i64 n0, .int .i64 n1, .int .i64 n2, .int .i64 W, .int .i64 l0, .int .i64 l1, .int .i64 l2, .int .i64 h0, .int .i64 h1, .int .i64 h2], .agg #[.int .i64 tx, .int .i64 ty], .agg #[.int .i64 ex, .int .i64 ey, .int .i64 en], .agg #[.int .u8 r0, .int .u8 r1, .int .u8 r2], .bool here] w fun e w' => e = .returned (.bool true) ∧ Below w.heap.size w w' := by
  go_enter Tryd.func5, Tryd.ntmps5
  go_upto_region 1 with fail
  obtain ⟨W0, hW0⟩ : ∃ z, ((((w.alloc (.cells #[.int .i64 X, .int .i64 Y, .int .i64 n0, .int .i64 n1, .int .i64 n2, .int .i64 W, .int .i64 l0, .int .i64 l1, .int .i64 l2, .int .i64 h0, .int .i64 h1, .int .i64 h2] 27)).alloc (.cells #[.int .i64 tx, .int .i64 ty] 23)).alloc (.cells #[.int .i64 ex, .int .i64 ey, .int .i64 en] 29)).alloc (.cells #[.int .u8 r0, .int .u8 r1, .int .u8 r2] 30)) = z := ⟨_, rfl⟩
  have HA : Hid (W0.heap[w.heap.size]? = some (.cells #[.int .i64 X, .int .i64 Y, .int .i64 n0, .int .i64 n1, .int .i64 n2, .int .i64 W, .int .i64 l0, .int .i64 l1, .int .i64 l2, .int .i64 h0, .int .i64 h1, .int .i64 h2] 27 (0, 0))) := Lib.hid (by rw [← hW0]; exact blk_alloc (blk_alloc (blk_alloc (blk_new _ _ _ rfl) _) _) _)
  have HE : Hid (W0.heap[w.heap.size + 1]? = some (.cells #[.int .i64 tx, .int .i64 ty] 23 (0, 0))) := Lib.hid (by rw [← hW0]; exact blk_alloc (blk_alloc (blk_new _ _ _ (by simp)) _) _)
  have HF : Hid (W0.heap[w.heap.size + 1 + 1]? = some (.cells #[.int .i64 ex, .int .i64 ey, .int .i64 en] 29 (0, 0))) := Lib.hid (by rw [← hW0]; exact blk_alloc (blk_new _ _ _ (by simp)) _)
  have HR : Hid (W0.heap[w.heap.size + 1 + 1 + 1]? = some (.cells #[.int .u8 r0, .int .u8 r1, .int .u8 r2] 30 (0, 0))) := Lib.hid (by rw [← hW0]; exact blk_new _ _ _ (by simp))
  have B : Hid (Below w.heap.size w W0) := Lib.hid (by rw [← hW0]; go_grown)
  have TT := Lib.hid hT
  rw [hW0]
  clear hW0 hT
  obtain ⟨ba, eba⟩ : ∃ a, w.heap.size = a := ⟨_, rfl⟩
  obtain ⟨be, ebe⟩ : ∃ a, w.heap.size + 1 = a := ⟨_, rfl⟩
  obtain ⟨bf, ebf⟩ : ∃ a, w.heap.size + 1 + 1 = a := ⟨_, rfl⟩
  obtain ⟨br, ebr⟩ : ∃ a, w.heap.size + 1 + 1 + 1 = a := ⟨_, rfl⟩
  have NE := Lib.hid (show w.heap.size ≤ ba ∧ w.heap.size ≤ be ∧ w.heap.size ≤ bf ∧ w.heap.size ≤ br ∧ ba ≠ be ∧ ba ≠ bf ∧ ba ≠ br ∧ be ≠ ba ∧ be ≠ bf ∧ be ≠ br ∧ bf ≠ ba ∧ bf ≠ be ∧ bf ≠ br ∧ br ≠ ba ∧ br ≠ be ∧ br ≠ bf by omega)
  rw [ebr, ebf, ebe, eba]
  rw [eba] at HA
  rw [ebe] at HE
  rw [ebf] at HF
  rw [ebr] at HR
  clear eba ebe ebf ebr
  go_upto_region 2 with (go_at_call 10; refine (head8_is _ (Tab.below TT.out B.out)).mono ?_; rintro e W1 ⟨rfl, hb⟩)
  replace HA := Lib.hid (blk_call HA.out hb)
  replace HE := Lib.hid (blk_call HE.out hb)
  replace HF := Lib.hid (blk_call HF.out hb)
  replace HR := Lib.hid (blk_call HR.out hb)
  replace B := Lib.hid (belT B.out hb)
  clear hb
  obtain ⟨t, ht⟩ : ∃ t, armB X Y n0 n1 n2 W l0 l1 l2 h0 h1 h2 = t := ⟨_, rfl⟩
  have HT := Lib.hid ht
  clear ht
  have c0 := blk_cell HA.out 0 _ rfl
  have c1 := blk_cell HA.out 1 _ rfl
  have c2 := blk_cell HA.out 2 _ rfl
  have c3 := blk_cell HA.out 3 _ rfl
  have c4 := blk_cell HA.out 4 _ rfl
  have c5 := blk_cell HA.out 5 _ rfl
  have c6 := blk_cell HA.out 6 _ rfl
  have c7 := blk_cell HA.out 7 _ rfl
  have c8 := blk_cell HA.out 8 _ rfl
  have c9 := blk_cell HA.out 9 _ rfl
  have c10 := blk_cell HA.out 10 _ rfl
  have c11 := blk_cell HA.out 11 _ rfl
  go_upto_region 3 with (go_at_call 11; refine (right7_is X Y n0 n1 n2 W l0 l1 l2 h0 h1 h2 t _ HT).mono ?_; rintro e W3 ⟨rfl, hb⟩)
  clear c0 c1 c2 c3 c4 c5 c6 c7 c8 c9 c10 c11
  replace HA := Lib.hid (blk_call HA.out hb)
  replace HE := Lib.hid (blk_call HE.out hb)
  replace HF := Lib.hid (blk_call HF.out hb)
  replace HR := Lib.hid (blk_call HR.out hb)
  replace B := Lib.hid (belT B.out hb)
  clear hb
  cases t
  · go_wp2_with fail
    go_ret
    exact ⟨rfl, B.out⟩
  have V := HT
  go_upto_region 5 with fail
  have VR := Lib.hid ((armB_iff X Y n0 n1 n2 W l0 l1 l2 h0 h1 h2).1 V.out)
  have JB0 := Lib.hid (jq_bd (l := l0) (h := h0) (by have := VR.out; omega) hr0.1)
  obtain ⟨q0, hq0⟩ : ∃ q, jq l0 h0 r0 = q := ⟨_, rfl⟩
  rw [hq0] at JB0
  have k0 : -1000 ≤ q0 ∧ q0 ≤ 1000 := by have := VR.out; have := JB0.out; omega
  replace hq0 := Lib.hid hq0
  have JB1 := Lib.hid (jq_bd (l := l1) (h := h1) (by have := VR.out; omega) hr1.1)
  obtain ⟨q1, hq1⟩ : ∃ q, jq l1 h1 r1 = q := ⟨_, rfl⟩
  rw [hq1] at JB1
  have k1 : -1000 ≤ q1 ∧ q1 ≤ 1000 := by have := VR.out; have := JB1.out; omega
  replace hq1 := Lib.hid hq1
  have JB2 := Lib.hid (jq_bd (l := l2) (h := h2) (by have := VR.out; omega) hr2.1)
  obtain ⟨q2, hq2⟩ : ∃ q, jq l2 h2 r2 = q := ⟨_, rfl⟩
  rw [hq2] at JB2
  have k2 : -1000 ≤ q2 ∧ q2 ≤ 1000 := by have := VR.out; have := JB2.out; omega
  replace hq2 := Lib.hid hq2
  have JQ : Hid (∀ w : World, Calls Tryd.prog 17 #[.agg #[.int .i64 X, .int .i64 Y, .int .i64 n0, .int .i64 n1, .int .i64 n2, .int .i64 W, .int .i64 l0, .int .i64 l1, .int .i64 l2, .int .i64 h0, .int .i64 h1, .int .i64 h2], .agg #[.int .u8 r0, .int .u8 r1, .int .u8 r2]] w fun e w' => e = .returned (.agg #[.int .i64 q0, .int .i64 q1, .int .i64 q2]) ∧ Below w.heap.size w w') := Lib.hid (fun w => by rw [← hq0.out, ← hq1.out, ← hq2.out]; exact joint_is X Y n0 n1 n2 W l0 l1 l2 h0 h1 h2 r0 r1 r2 w V hr0 hr1 hr2)
  obtain ⟨x1, x2, x3, y1, y2, y3, u1, u2, u3, v1, v2, v3, a1, a2, a3, b1, b2, b3, PP⟩ := pose_ex X Y n0 n1 n2 q0 q1 q2
  replace PP := Lib.hid PP
  have D1 := Lib.hid (vd_one q0 x1 y1 (Lib.hid PP.out.e1))
  have D2 := Lib.hid (vd_two (x1, y1) q1 x2 y2 1 2 D1.out (by omega) rfl (Lib.hid PP.out.e2))
  have D3 := Lib.hid (vd_two (x2, y2) q2 x3 y3 2 3 D2.out (by omega) rfl (Lib.hid PP.out.e3))
  have PB := Lib.hid (show (-439400000 ≤ a3 ∧ a3 ≤ 439400000) ∧ -439400000 ≤ b3 ∧ b3 ≤ 439400000 by have := pose_bd PP.out V.out; have := VR.out; omega)
  have PB0 := PB.out.1
  have PB1 := PB.out.2
  have TW := Lib.hid (Tab.below TT.out B.out)
  refine (wpIn_wide (n := 0)).1 (region_tip [27, 28, 29, 30, 31, 26, 32, 33, 13, 14] [(0, 27), (1, 28), (2, 29), (3, 30), (4, 31), (5, 26), (6, 32), (7, 33)] (fun t => match t with | 27 => .agg #[.int .i64 X, .int .i64 Y, .int .i64 n0, .int .i64 n1, .int .i64 n2, .int .i64 W, .int .i64 l0, .int .i64 l1, .int .i64 l2, .int .i64 h0, .int .i64 h1, .int .i64 h2] | 28 => .agg #[.int .i64 X, .int .i64 Y, .int .i64 n0, .int .i64 n1, .int .i64 n2, .int .i64 W, .int .i64 l0, .int .i64 l1, .int .i64 l2, .int .i64 h0, .int .i64 h1, .int .i64 h2] | 29 => .agg #[.int .u8 r0, .int .u8 r1, .int .u8 r2] | 30 => .agg #[.int .i64 q0, .int .i64 q1, .int .i64 q2] | 31 => .tuple #[.agg #[.int .i64 a3, .int .i64 b3], .agg #[.int .i64 x3, .int .i64 y3, .int .i64 3]] | 26 => .tuple #[.agg #[.int .i64 a3, .int .i64 b3], .agg #[.int .i64 x3, .int .i64 y3, .int .i64 3]] | 32 => .agg #[.int .i64 a3, .int .i64 b3] | 33 => .agg #[.int .i64 x3, .int .i64 y3, .int .i64 3] | _ => undef) 13 14 8 9 10 11 #[.int .i64 0, .int .i64 0] #[.int .i64 a3, .int .i64 b3] #[.int .i64 0, .int .i64 0, .int .i64 0] #[.int .i64 x3, .int .i64 y3, .int .i64 3] 23 29 rfl rfl rfl (by kernel_rfl) (by kernel_rfl) (by kernel_rfl) (by kernel_rfl) (by kernel_rfl) ?_ ?_)
  · intro s T w i o K ho hs hpre hJ hK
    have hi := (Array.getElem?_eq_some_iff.1 ho).1
    have hi' : i = 0 ∨ i = 1 ∨ i = 2 ∨ i = 3 ∨ i = 4 ∨ i = 5 ∨ i = 6 ∨ i = 7 ∨ i = 8 ∨ i = 9 ∨ i = 10 ∨ i = 11 := by simp at hi; omega
    clear hi
    rcases hi' with rfl | rfl | rfl | rfl | rfl | rfl | rfl | rfl | rfl | rfl | rfl | rfl
    · obtain rfl := Option.some.inj ho
      have g : T[5]? = some (.pointer (some ⟨ba, 0, none⟩)) := hJ.frame 5 (by decide)
      exact wp_load_row 27 (.tmp 5) rfl _ (eval_tmp g) _ _ _ _ (blk_call HA.out hJ.bel) Tryd.underlying27 rfl (by kernel_rfl) (hK _ _ (hJ.pure (i := 0) (q := 27) (by decide) (by decide) (by decide) (by simp) (by decide) hJ.bel.size (Below.refl _ _)))
    · obtain rfl := Option.some.inj ho
      have g : T[5]? = some (.pointer (some ⟨ba, 0, none⟩)) := hJ.frame 5 (by decide)
      exact wp_load_row 27 (.tmp 5) rfl _ (eval_tmp g) _ _ _ _ (blk_call HA.out hJ.bel) Tryd.underlying27 rfl (by kernel_rfl) (hK _ _ (hJ.pure (i := 1) (q := 28) (by decide) (by decide) (by decide) (by simp) (by decide) hJ.bel.size (Below.refl _ _)))
    · obtain rfl := Option.some.inj ho
      have g : T[8]? = some (.pointer (some ⟨br, 0, none⟩)) := hJ.frame 8 (by decide)
      exact wp_load_row 30 (.tmp 8) rfl _ (eval_tmp g) _ _ _ _ (blk_call HR.out hJ.bel) Tryd.underlying30 rfl (by kernel_rfl) (hK _ _ (hJ.pure (i := 2) (q := 29) (by decide) (by decide) (by decide) (by simp) (by decide) hJ.bel.size (Below.refl _ _)))
    · obtain rfl := Option.some.inj ho
      have g28 := hJ.told (1, 28) (by decide) (hpre 1 (by simp [Region.binds]))
      have g29 := hJ.told (2, 29) (by decide) (hpre 2 (by simp [Region.binds]))
      go_simp
      refine (JQ.out _).mono ?_; rintro e w9 ⟨rfl, hb⟩
      exact hK _ _ (hJ.pure (i := 3) (q := 30) (by decide) (by decide) (by decide) (by simp) (by decide) hJ.bel.size (hb))
    · obtain rfl := Option.some.inj ho
      have g27 := hJ.told (0, 27) (by decide) (hpre 0 (by simp [Region.binds]))
      have g30 := hJ.told (3, 30) (by decide) (hpre 3 (by simp [Region.binds]))
      go_simp
      refine (tip_is X Y n0 n1 n2 W l0 l1 l2 h0 h1 h2 q0 q1 q2 x1 x2 x3 y1 y2 y3 u1 u2 u3 v1 v2 v3 a1 a2 a3 b1 b2 b3 _ (Tab.below TW.out hJ.bel) k0 k1 k2 V PP).mono ?_; rintro e w9 ⟨rfl, hb⟩
      exact hK _ _ (hJ.pure (i := 4) (q := 31) (by decide) (by decide) (by decide) (by simp) (by decide) hJ.bel.size (hb))
    · obtain rfl := Option.some.inj ho
      have g31 := hJ.told (4, 31) (by decide) (hpre 4 (by simp [Region.binds]))
      go_simp
      exact hK _ _ (hJ.pure (i := 5) (q := 26) (by decide) (by decide) (by decide) (by simp) (by decide) hJ.bel.size (Below.refl _ _))
    · obtain rfl := Option.some.inj ho
      have g26 := hJ.told (5, 26) (by decide) (hpre 5 (by simp [Region.binds]))
      go_simp
      exact hK _ _ (hJ.pure (i := 6) (q := 32) (by decide) (by decide) (by decide) (by simp) (by decide) hJ.bel.size (Below.refl _ _))
    · obtain rfl := Option.some.inj ho
      have g26 := hJ.told (5, 26) (by decide) (hpre 5 (by simp [Region.binds]))
      go_simp
      exact hK _ _ (hJ.pure (i := 7) (q := 33) (by decide) (by decide) (by decide) (by simp) (by decide) hJ.bel.size (Below.refl _ _))
    · obtain rfl := Option.some.inj ho
      go_simp
      exact hK _ _ (hJ.allocP hs (by decide) (by decide) (by simp) (by decide) hJ.bel.size)
    · obtain rfl := Option.some.inj ho
      go_simp
      exact hK _ _ (hJ.swap.allocP hs (by decide) (by decide) (by simp) (by decide) hJ.bel.size).swap
    · obtain rfl := Option.some.inj ho
      obtain ⟨b, hb, hnb, hh⟩ := hJ.fp (hpre 8 (by simp [Region.binds]))
      rw [if_neg (by rw [hs]; decide)] at hh
      have g32 := hJ.told (6, 32) (by decide) (hpre 6 (by simp [Region.binds]))
      exact wp_store_row 23 (.tmp 13) (.tmp 32) rfl b #[.int .i64 a3, .int .i64 b3] (eval_tmp hb) (eval_tmp g32) _ _ hh (by kernel_rfl) rfl (by kernel_rfl) (hK _ _ (hJ.storeP (by decide) (by decide) (hpre 8 (by simp [Region.binds])) hb hnb hh))
    · obtain rfl := Option.some.inj ho
      obtain ⟨b, hb, hnb, hh⟩ := hJ.fd (hpre 9 (by simp [Region.binds]))
      rw [if_neg (by rw [hs]; decide)] at hh
      have g33 := hJ.told (7, 33) (by decide) (hpre 7 (by simp [Region.binds]))
      exact wp_store_row 29 (.tmp 14) (.tmp 33) rfl b #[.int .i64 x3, .int .i64 y3, .int .i64 3] (eval_tmp hb) (eval_tmp g33) _ _ hh (by kernel_rfl) rfl (by kernel_rfl) (hK _ _ (hJ.swap.storeP (by decide) (by decide) (hpre 9 (by simp [Region.binds])) hb hnb hh).swap)
  · intro s T W9 hall hJ hfr
    have g27 := hJ.told (0, 27) (by decide) (hall 0 (by decide))
    have g28 := hJ.told (1, 28) (by decide) (hall 1 (by decide))
    have g29 := hJ.told (2, 29) (by decide) (hall 2 (by decide))
    have g30 := hJ.told (3, 30) (by decide) (hall 3 (by decide))
    have g31 := hJ.told (4, 31) (by decide) (hall 4 (by decide))
    have g26 := hJ.told (5, 26) (by decide) (hall 5 (by decide))
    have g32 := hJ.told (6, 32) (by decide) (hall 6 (by decide))
    have g33 := hJ.told (7, 33) (by decide) (hall 7 (by decide))
    obtain ⟨bp, g13, np, hp⟩ := hJ.fp (hall 8 (by decide))
    rw [if_pos (hall 10 (by decide))] at hp
    obtain ⟨bv, g14, nv, hv⟩ := hJ.fd (hall 9 (by decide))
    rw [if_pos (hall 11 (by decide))] at hv
    have hne := hJ.ne (hall 8 (by decide)) (hall 9 (by decide))
    rw [g13, g14] at hne
    have hT9 := conc [(27, .agg #[.int .i64 X, .int .i64 Y, .int .i64 n0, .int .i64 n1, .int .i64 n2, .int .i64 W, .int .i64 l0, .int .i64 l1, .int .i64 l2, .int .i64 h0, .int .i64 h1, .int .i64 h2]), (28, .agg #[.int .i64 X, .int .i64 Y, .int .i64 n0, .int .i64 n1, .int .i64 n2, .int .i64 W, .int .i64 l0, .int .i64 l1, .int .i64 l2, .int .i64 h0, .int .i64 h1, .int .i64 h2]), (29, .agg #[.int .u8 r0, .int .u8 r1, .int .u8 r2]), (30, .agg #[.int .i64 q0, .int .i64 q1, .int .i64 q2]), (31, .tuple #[.agg #[.int .i64 a3, .int .i64 b3], .agg #[.int .i64 x3, .int .i64 y3, .int .i64 3]]), (26, .tuple #[.agg #[.int .i64 a3, .int .i64 b3], .agg #[.int .i64 x3, .int .i64 y3, .int .i64 3]]), (32, .agg #[.int .i64 a3, .int .i64 b3]), (33, .agg #[.int .i64 x3, .int .i64 y3, .int .i64 3]), (13, .pointer (some ⟨bp, 0, none⟩)), (14, .pointer (some ⟨bv, 0, none⟩))] hJ.size hfr (by simp only [List.forall_mem_cons]; exact ⟨g27, g28, g29, g30, g31, g26, g32, g33, g13, g14, fun p hp => absurd hp List.not_mem_nil⟩) (by kernel_rfl)
    simp only [List.foldl, List.setIfInBounds_toArray, List.set_cons_succ, List.set_cons_zero] at hT9
    subst hT9
    have hb8 := hJ.bel
    clear hJ hall hfr g27 g28 g29 g30 g31 g26 g32 g33 g13 g14
    have lHAp := Lib.hid (Nat.ne_of_lt (Nat.lt_of_lt_of_le (blk_lt HA.out) np))
    have lHAv := Lib.hid (Nat.ne_of_lt (Nat.lt_of_lt_of_le (blk_lt HA.out) nv))
    have lHEp := Lib.hid (Nat.ne_of_lt (Nat.lt_of_lt_of_le (blk_lt HE.out) np))
    have lHEv := Lib.hid (Nat.ne_of_lt (Nat.lt_of_lt_of_le (blk_lt HE.out) nv))
    have lHFp := Lib.hid (Nat.ne_of_lt (Nat.lt_of_lt_of_le (blk_lt HF.out) np))
    have lHFv := Lib.hid (Nat.ne_of_lt (Nat.lt_of_lt_of_le (blk_lt HF.out) nv))
    have lHRp := Lib.hid (Nat.ne_of_lt (Nat.lt_of_lt_of_le (blk_lt HR.out) np))
    have lHRv := Lib.hid (Nat.ne_of_lt (Nat.lt_of_lt_of_le (blk_lt HR.out) nv))
    have Np := Lib.hid (Nat.le_trans B.out.size np)
    have Nv := Lib.hid (Nat.le_trans B.out.size nv)
    have Hp := Lib.hid hp
    have Hv := Lib.hid hv
    have hne' : bp ≠ bv := fun e => hne (by rw [e])
    have NQ := Lib.hid hne'
    clear hp hv TW np nv hne hne'
    replace HA := Lib.hid (blk_call HA.out hb8)
    replace HE := Lib.hid (blk_call HE.out hb8)
    replace HF := Lib.hid (blk_call HF.out hb8)
    replace HR := Lib.hid (blk_call HR.out hb8)
    replace B := Lib.hid (belT B.out hb8)
    clear hb8
    cases here
    · skip
      go_upto_region 12 with fail
      obtain ⟨L, hL⟩ : ∃ L, solL X Y n0 n1 n2 l0 l1 l2 h0 h1 h2 a3 b3 x3 y3 = L := ⟨_, rfl⟩
      obtain ⟨N, hN⟩ : ∃ N, L.length = N := ⟨_, rfl⟩
      have LB := Lib.hid (show L.length ≤ 36 by rw [← hL]; exact solL_36 (by have := VR.out; omega) (by have := VR.out; omega) (by have := VR.out; omega) (by have := VR.out; omega))
      have HL := Lib.hid hL
      have HN := Lib.hid hN
      clear hL hN
      have TW := Lib.hid (Tab.below TT.out B.out)
      have c0 := blk_cell HA.out 0 _ rfl
      have c1 := blk_cell HA.out 1 _ rfl
      have c2 := blk_cell HA.out 2 _ rfl
      have c3 := blk_cell HA.out 3 _ rfl
      have c4 := blk_cell HA.out 4 _ rfl
      have c5 := blk_cell HA.out 5 _ rfl
      have c6 := blk_cell HA.out 6 _ rfl
      have c7 := blk_cell HA.out 7 _ rfl
      have c8 := blk_cell HA.out 8 _ rfl
      have c9 := blk_cell HA.out 9 _ rfl
      have c10 := blk_cell HA.out 10 _ rfl
      have c11 := blk_cell HA.out 11 _ rfl
      have p_0 := blk_cell Hp.out 0 _ rfl
      have p_1 := blk_cell Hp.out 1 _ rfl
      have v_0 := blk_cell Hv.out 0 _ rfl
      have v_1 := blk_cell Hv.out 1 _ rfl
      have v_2 := blk_cell Hv.out 2 _ rfl
      go_upto_region 13 with (go_at_call 14; refine (solve_any X Y n0 n1 n2 W l0 l1 l2 h0 h1 h2 a3 b3 x3 y3 _ TW.out V D3 (Lib.hid (show (-1000000000 ≤ a3 ∧ a3 ≤ 1000000000) ∧ -1000000000 ≤ b3 ∧ b3 ≤ 1000000000 by have := PB.out; omega)) L N HL HN).mono ?_; rintro e Ws ⟨⟨ao, sc, rfl, hrow⟩, hb⟩)
      clear c0 c1 c2 c3 c4 c5 c6 c7 c8 c9 c10 c11
      clear p_0 p_1
      clear v_0 v_1 v_2
      clear TW
      have ROW := Lib.hid hrow
      clear hrow
      replace HA := Lib.hid (blk_call HA.out hb)
      replace HE := Lib.hid (blk_call HE.out hb)
      replace HF := Lib.hid (blk_call HF.out hb)
      replace HR := Lib.hid (blk_call HR.out hb)
      replace Hp := Lib.hid (blk_call Hp.out hb)
      replace Hv := Lib.hid (blk_call Hv.out hb)
      replace B := Lib.hid (belT B.out hb)
      clear hb
      obtain ⟨U, hU⟩ : ∃ U, n2 * 16 * p65 (3 - 3) * x3 = U := ⟨_, rfl⟩
      obtain ⟨Z, hZ⟩ : ∃ Z, n2 * 16 * p65 (3 - 3) * y3 = Z := ⟨_, rfl⟩
      have E1 : Hid (n2 * (16 * x3) = U) := Lib.hid (by rw [← hU, show p65 (3 - 3) = 1 by decide]; grind)
      have E2 : Hid (n2 * (16 * y3) = Z) := Lib.hid (by rw [← hZ, show p65 (3 - 3) = 1 by decide]; grind)
      have N2 : -200 ≤ n2 ∧ n2 ≤ 200 := by have := VR.out; omega
      have UB : (-200000000 ≤ U ∧ U ≤ 200000000) ∧ -200000000 ≤ Z ∧ Z ≤ 200000000 := by
        have hb := vd_bd D3.out
        have t1 := far_bdI (n := n2) (M := 274625) (by have := VR.out; omega) hb.2.1
        have t2 := far_bdI (n := n2) (M := 274625) (by have := VR.out; omega) hb.2.2
        have e1 : n2 * (16 * x3) = 16 * (n2 * x3) := by grind
        have e2 : n2 * (16 * y3) = 16 * (n2 * y3) := by grind
        have := E1.out
        have := E2.out
        have := VR.out
        omega
      obtain ⟨ub, zb⟩ := UB
      have HU := Lib.hid hU
      have HZ := Lib.hid hZ
      clear hU hZ
      have c0 := blk_cell HA.out 0 _ rfl
      have c1 := blk_cell HA.out 1 _ rfl
      have c2 := blk_cell HA.out 2 _ rfl
      have c3 := blk_cell HA.out 3 _ rfl
      have c4 := blk_cell HA.out 4 _ rfl
      have c5 := blk_cell HA.out 5 _ rfl
      have c6 := blk_cell HA.out 6 _ rfl
      have c7 := blk_cell HA.out 7 _ rfl
      have c8 := blk_cell HA.out 8 _ rfl
      have c9 := blk_cell HA.out 9 _ rfl
      have c10 := blk_cell HA.out 10 _ rfl
      have c11 := blk_cell HA.out 11 _ rfl
      have v_0 := blk_cell Hv.out 0 _ rfl
      have v_1 := blk_cell Hv.out 1 _ rfl
      have v_2 := blk_cell Hv.out 2 _ rfl
      have la := blk_lt HA.out
      go_upto_region 14 with (go_at_call 26; refine (fine7_is x3 y3 3 n2 U Z _ D3.out N2 HU HZ).mono ?_; rintro e Wt ⟨rfl, hb⟩)
      clear c0 c1 c2 c3 c4 c5 c6 c7 c8 c9 c10 c11
      clear v_0 v_1 v_2
      clear la
      replace HA := Lib.hid (blk_call HA.out hb)
      replace HE := Lib.hid (blk_call HE.out hb)
      replace HF := Lib.hid (blk_call HF.out hb)
      replace HR := Lib.hid (blk_call HR.out hb)
      replace Hp := Lib.hid (blk_call Hp.out hb)
      replace Hv := Lib.hid (blk_call Hv.out hb)
      replace ROW := Lib.hid (prow3_below ROW.out hb)
      replace B := Lib.hid (belT B.out hb)
      clear hb
      have lHAb7 := Lib.hid (Nat.ne_of_lt (blk_lt HA.out))
      have lHEb7 := Lib.hid (Nat.ne_of_lt (blk_lt HE.out))
      have lHFb7 := Lib.hid (Nat.ne_of_lt (blk_lt HF.out))
      have lHRb7 := Lib.hid (Nat.ne_of_lt (blk_lt HR.out))
      have lHpb7 := Lib.hid (Nat.ne_of_lt (blk_lt Hp.out))
      have lHvb7 := Lib.hid (Nat.ne_of_lt (blk_lt Hv.out))
      replace HA := Lib.hid (blk_alloc HA.out (.cells #[.int .i64 U, .int .i64 Z] 23))
      replace HE := Lib.hid (blk_alloc HE.out (.cells #[.int .i64 U, .int .i64 Z] 23))
      replace HF := Lib.hid (blk_alloc HF.out (.cells #[.int .i64 U, .int .i64 Z] 23))
      replace HR := Lib.hid (blk_alloc HR.out (.cells #[.int .i64 U, .int .i64 Z] 23))
      replace Hp := Lib.hid (blk_alloc Hp.out (.cells #[.int .i64 U, .int .i64 Z] 23))
      replace Hv := Lib.hid (blk_alloc Hv.out (.cells #[.int .i64 U, .int .i64 Z] 23))
      replace ROW := Lib.hid (prow3_alloc ROW.out (.cells #[.int .i64 U, .int .i64 Z] 23))
      have H7 := Lib.hid (blk_new Wt (.cells #[.int .i64 U, .int .i64 Z] 23) _ rfl)
      have Nb7 := Lib.hid (B.out.size)
      replace B := Lib.hid (belA B.out (.cells #[.int .i64 U, .int .i64 Z] 23))
      obtain ⟨b7, eb7⟩ : ∃ x, Wt.heap.size = x := ⟨_, rfl⟩
      rw [eb7] at H7 Nb7 lHAb7 lHEb7 lHFb7 lHRb7 lHpb7 lHvb7 ⊢
      clear eb7
      generalize Wt.alloc (.cells #[.int .i64 U, .int .i64 Z] 23) = Wu at *
      have p_0 := blk_cell Hp.out 0 _ rfl
      have p_1 := blk_cell Hp.out 1 _ rfl
      have u_0 := blk_cell H7.out 0 _ rfl
      have u_1 := blk_cell H7.out 1 _ rfl
      have lp := blk_lt Hp.out
      have l7 := blk_lt H7.out
      obtain ⟨g1, hg1⟩ : ∃ g, a3 - U = g := ⟨_, rfl⟩
      obtain ⟨g2, hg2⟩ : ∃ g, b3 - Z = g := ⟨_, rfl⟩
      have wr1 : IntKind.i64.wrap (a3 - U) = a3 - U := wrap_k _ (by have := PB.out; omega)
      have wr2 : IntKind.i64.wrap (b3 - Z) = b3 - Z := wrap_k _ (by have := PB.out; omega)
      have tbx := PB.out.1
      have tby := PB.out.2
      have wr3 : -9223372036854775808 ≤ g1 ∧ g1 ≤ 9223372036854775807 := by omega
      have wr4 : -9223372036854775808 ≤ g2 ∧ g2 ≤ 9223372036854775807 := by omega
      go_upto_region 15 with fail
      clear wr1 wr2 wr3 wr4 tbx tby
      clear p_0 p_1 u_0 u_1 lp l7
      have lHAb8 := Lib.hid (Nat.ne_of_lt (blk_lt HA.out))
      have lHEb8 := Lib.hid (Nat.ne_of_lt (blk_lt HE.out))
      have lHFb8 := Lib.hid (Nat.ne_of_lt (blk_lt HF.out))
      have lHRb8 := Lib.hid (Nat.ne_of_lt (blk_lt HR.out))
      have lHpb8 := Lib.hid (Nat.ne_of_lt (blk_lt Hp.out))
      have lHvb8 := Lib.hid (Nat.ne_of_lt (blk_lt Hv.out))
      have lH7b8 := Lib.hid (Nat.ne_of_lt (blk_lt H7.out))
      replace HA := Lib.hid (blk_alloc HA.out (.cells #[.int .i64 g1, .int .i64 g2] 23))
      replace HE := Lib.hid (blk_alloc HE.out (.cells #[.int .i64 g1, .int .i64 g2] 23))
      replace HF := Lib.hid (blk_alloc HF.out (.cells #[.int .i64 g1, .int .i64 g2] 23))
      replace HR := Lib.hid (blk_alloc HR.out (.cells #[.int .i64 g1, .int .i64 g2] 23))
      replace Hp := Lib.hid (blk_alloc Hp.out (.cells #[.int .i64 g1, .int .i64 g2] 23))
      replace Hv := Lib.hid (blk_alloc Hv.out (.cells #[.int .i64 g1, .int .i64 g2] 23))
      replace H7 := Lib.hid (blk_alloc H7.out (.cells #[.int .i64 g1, .int .i64 g2] 23))
      replace ROW := Lib.hid (prow3_alloc ROW.out (.cells #[.int .i64 g1, .int .i64 g2] 23))
      have H8 := Lib.hid (blk_new Wu (.cells #[.int .i64 g1, .int .i64 g2] 23) _ rfl)
      have Nb8 := Lib.hid (B.out.size)
      replace B := Lib.hid (belA B.out (.cells #[.int .i64 g1, .int .i64 g2] 23))
      obtain ⟨b8, eb8⟩ : ∃ x, Wu.heap.size = x := ⟨_, rfl⟩
      rw [eb8] at H8 Nb8 lHAb8 lHEb8 lHFb8 lHRb8 lHpb8 lHvb8 lH7b8 ⊢
      clear eb8
      generalize Wu.alloc (.cells #[.int .i64 g1, .int .i64 g2] 23) = Wv at *
      have G1 := Lib.hid hg1
      have G2 := Lib.hid hg2
      clear hg1 hg2 ub zb
      have HF1 := Lib.hid (show L.Pairwise (fun p q => p.1 < q.1) by rw [← HL.out]; exact solL_first (by have := VR.out; omega) (by have := VR.out; omega) (by have := VR.out; omega) (by have := VR.out; omega))
      have HW2 : Hid (¬ (g1 = X ∧ g2 = Y) → N ≤ 2) := Lib.hid (fun h => by
          rw [← HN.out, ← HL.out]
          exact solL_two (by have := VR.out; omega) (by have := VR.out; omega) (by have := VR.out; omega) (by have := VR.out; omega) (by have := VR.out; omega) (by rw [E1.out, E2.out, G1.out, G2.out]; exact h))
      have N36 : N ≤ 36 := by rw [← HN.out]; exact LB.out
      clear HL LB E1 E2 HU HZ
      have HNl := HN.out
      subst HNl
      go_wp2_with fail
      go_loopw [19] (fun i wr => ∃ j : Nat, (1 ≤ j ∧ (j ≤ L.length ∨ j = 1)) ∧ i = .int .i64 j ∧ ∃ q, wr = Wv.drewN q) (fun i _ => L.length + 1 - (intOf i).toNat)
      case atStart => exact ⟨1, ⟨Nat.le_refl _, .inr rfl⟩, rfl, 0, rfl⟩
      case round =>
        obtain ⟨j, hj, rfl, q, hq⟩ := hrel
        by_cases hlt : j < L.length
        · obtain ⟨b', o', rfl, c1, c2, c3⟩ := ROW.out j hlt
          obtain ⟨b'', o'', e', c4, c5, c6⟩ := ROW.out (j - 1) (by omega)
          cases e'
          have d1 := (drewN8 hq _).trans c1
          have d4 := (drewN8 hq _).trans c4
          have HQQ := Lib.hid hq
          have FA := Lib.hid (first_at HF1.out (show 0 < j by omega) hlt)
          obtain ⟨z1, hz1⟩ : ∃ z, (L.getD j j0).1 = z := ⟨_, rfl⟩
          obtain ⟨z2, hz2⟩ : ∃ z, (L.getD (j - 1) j0).1 = z := ⟨_, rfl⟩
          rw [hz1] at d1
          rw [hz2] at d4
          have hzz : ¬ z1 ≤ z2 := by have := FA.out; rw [hz1, hz2] at this; omega
          clear c1 c2 c3 c4 c5 c6 hq hz1 hz2
          have hji : (j : Int) < L.length := by omega
          have hj1 : (1 : Int) ≤ j := by omega
          have hjs : ((j : Int) - 1) = ((j - 1 : Nat) : Int) := by omega
          obtain ⟨j', hj'⟩ : ∃ j', j = j' + 1 := ⟨j - 1, by omega⟩
          subst hj'
          simp only [Nat.add_sub_cancel] at d4
          push_cast at *
          go_upto_region 18 with fail
          go_region
          all_goals
            go_wp2
            exact ⟨⟨j' + 2, ⟨by omega, .inl (by omega)⟩, congrArg (Value.int .i64) (by push_cast; omega), q + 1, by rw [HQQ.out]; rfl⟩, by simp [intOf]; omega⟩
        · have hlt' : ¬ (j : Int) < L.length := by omega
          have h36 : (L.length : Int) ≤ 36 := by omega
          by_cases e1 : g1 = X
          · by_cases e2 : g2 = Y
            · subst e1
              subst e2
              have x0 := (drewN8 hq _).trans (blk_cell HA.out 0 _ rfl)
              have x1 := (drewN8 hq _).trans (blk_cell HA.out 1 _ rfl)
              have y0 := (drewN8 hq _).trans (blk_cell H8.out 0 _ rfl)
              have y1 := (drewN8 hq _).trans (blk_cell H8.out 1 _ rfl)
              have HQQ := Lib.hid hq
              clear hq
              go_wp2_with fail
              go_ret
              exact ⟨rfl, by rw [HQQ.out]; exact below_drewN B.out q⟩
            · have h2 : (L.length : Int) ≤ 2 := by have := HW2.out (fun h => e2 h.2); omega
              subst e1
              have x0 := (drewN8 hq _).trans (blk_cell HA.out 0 _ rfl)
              have x1 := (drewN8 hq _).trans (blk_cell HA.out 1 _ rfl)
              have y0 := (drewN8 hq _).trans (blk_cell H8.out 0 _ rfl)
              have y1 := (drewN8 hq _).trans (blk_cell H8.out 1 _ rfl)
              have HQQ := Lib.hid hq
              clear hq
              go_wp2_with fail
              go_ret
              exact ⟨rfl, by rw [HQQ.out]; exact below_drewN B.out q⟩
          · have h2 : (L.length : Int) ≤ 2 := by have := HW2.out (fun h => e1 h.1); omega
            have x0 := (drewN8 hq _).trans (blk_cell HA.out 0 _ rfl)
            have x1 := (drewN8 hq _).trans (blk_cell HA.out 1 _ rfl)
            have y0 := (drewN8 hq _).trans (blk_cell H8.out 0 _ rfl)
            have y1 := (drewN8 hq _).trans (blk_cell H8.out 1 _ rfl)
            have HQQ := Lib.hid hq
            clear hq
            go_wp2_with fail
            go_ret
            exact ⟨rfl, by rw [HQQ.out]; exact below_drewN B.out q⟩
    · skip
      go_upto_region 7 with fail
      obtain ⟨m, hm⟩ : ∃ m, mayB8 tx ty ex ey en = m := ⟨_, rfl⟩
      have HM := Lib.hid hm
      clear hm
      have c0 := blk_cell HA.out 0 _ rfl
      have c1 := blk_cell HA.out 1 _ rfl
      have c2 := blk_cell HA.out 2 _ rfl
      have c3 := blk_cell HA.out 3 _ rfl
      have c4 := blk_cell HA.out 4 _ rfl
      have c5 := blk_cell HA.out 5 _ rfl
      have c6 := blk_cell HA.out 6 _ rfl
      have c7 := blk_cell HA.out 7 _ rfl
      have c8 := blk_cell HA.out 8 _ rfl
      have c9 := blk_cell HA.out 9 _ rfl
      have c10 := blk_cell HA.out 10 _ rfl
      have c11 := blk_cell HA.out 11 _ rfl
      have p_0 := blk_cell HE.out 0 _ rfl
      have p_1 := blk_cell HE.out 1 _ rfl
      have v_0 := blk_cell HF.out 0 _ rfl
      have v_1 := blk_cell HF.out 1 _ rfl
      have v_2 := blk_cell HF.out 2 _ rfl
      go_upto_region 8 with (go_at_call 12; refine (may8_is X Y n0 n1 n2 W l0 l1 l2 h0 h1 h2 tx ty ex ey en m _ V HM).mono ?_; rintro e Wm ⟨rfl, hb⟩)
      clear c0 c1 c2 c3 c4 c5 c6 c7 c8 c9 c10 c11
      clear p_0 p_1
      clear v_0 v_1 v_2
      replace HA := Lib.hid (blk_call HA.out hb)
      replace HE := Lib.hid (blk_call HE.out hb)
      replace HF := Lib.hid (blk_call HF.out hb)
      replace HR := Lib.hid (blk_call HR.out hb)
      replace Hp := Lib.hid (blk_call Hp.out hb)
      replace Hv := Lib.hid (blk_call Hv.out hb)
      replace B := Lib.hid (belT B.out hb)
      clear hb
      cases m
      · go_wp2_with fail
        go_ret
        exact ⟨rfl, B.out⟩
      have MM := of_decide_eq_true HM.out
      obtain ⟨MP, MD, MN⟩ := MM
      subst MN
      have TD := Lib.hid MD
      have TP := Lib.hid MP
      clear MP MD HM
      have p_0 := blk_cell HE.out 0 _ rfl
      have p_1 := blk_cell HE.out 1 _ rfl
      have q_0 := blk_cell Hp.out 0 _ rfl
      have q_1 := blk_cell Hp.out 1 _ rfl
      have f0 := blk_fz Hp.out 0
      have f1 := blk_fz Hp.out 1
      have np := Np.out
      have nv := Nv.out
      go_upto_region 11 with fail
      clear p_0 p_1 q_0 q_1 f0 f1
      replace HA := Lib.hid (blk_other (j := 1) (blk_other (j := 0) HA.out (fun e => lHAp.out e.symm) (.int .i64 tx)) (fun e => lHAp.out e.symm) (.int .i64 ty))
      replace HE := Lib.hid (blk_other (j := 1) (blk_other (j := 0) HE.out (fun e => lHEp.out e.symm) (.int .i64 tx)) (fun e => lHEp.out e.symm) (.int .i64 ty))
      replace HF := Lib.hid (blk_other (j := 1) (blk_other (j := 0) HF.out (fun e => lHFp.out e.symm) (.int .i64 tx)) (fun e => lHFp.out e.symm) (.int .i64 ty))
      replace HR := Lib.hid (blk_other (j := 1) (blk_other (j := 0) HR.out (fun e => lHRp.out e.symm) (.int .i64 tx)) (fun e => lHRp.out e.symm) (.int .i64 ty))
      replace Hv := Lib.hid (blk_other (j := 1) (blk_other (j := 0) Hv.out NQ.out (.int .i64 tx)) NQ.out (.int .i64 ty))
      replace Hp : Hid (((Wm.setCell ⟨bp, 0, none⟩ (.int .i64 tx)).setCell ⟨bp, 1, none⟩ (.int .i64 ty)).heap[bp]? = some (.cells #[.int .i64 tx, .int .i64 ty] 23 (0, 0))) := Lib.hid (blk_set (j := 1) (blk_set (j := 0) Hp.out (.int .i64 tx)) (.int .i64 ty))
      replace B := Lib.hid (belS (p := ⟨bp, 1, none⟩) (belS (p := ⟨bp, 0, none⟩) B.out np (.int .i64 tx)) np (.int .i64 ty))
      generalize ((Wm.setCell ⟨bp, 0, none⟩ (.int .i64 tx)).setCell ⟨bp, 1, none⟩ (.int .i64 ty)) = Wn at *
      have v_0 := blk_cell HF.out 0 _ rfl
      have v_1 := blk_cell HF.out 1 _ rfl
      have v_2 := blk_cell HF.out 2 _ rfl
      have q_0 := blk_cell Hv.out 0 _ rfl
      have q_1 := blk_cell Hv.out 1 _ rfl
      have q_2 := blk_cell Hv.out 2 _ rfl
      have f0 := blk_fz Hv.out 0
      have f1 := blk_fz Hv.out 1
      have f2 := blk_fz Hv.out 2
      go_upto_region 12 with fail
      clear v_0 v_1 v_2 q_0 q_1 q_2 f0 f1 f2
      replace HA := Lib.hid (blk_other (j := 2) (blk_other (j := 1) (blk_other (j := 0) HA.out (fun e => lHAv.out e.symm) (.int .i64 ex)) (fun e => lHAv.out e.symm) (.int .i64 ey)) (fun e => lHAv.out e.symm) (.int .i64 3))
      replace HE := Lib.hid (blk_other (j := 2) (blk_other (j := 1) (blk_other (j := 0) HE.out (fun e => lHEv.out e.symm) (.int .i64 ex)) (fun e => lHEv.out e.symm) (.int .i64 ey)) (fun e => lHEv.out e.symm) (.int .i64 3))
      replace HF := Lib.hid (blk_other (j := 2) (blk_other (j := 1) (blk_other (j := 0) HF.out (fun e => lHFv.out e.symm) (.int .i64 ex)) (fun e => lHFv.out e.symm) (.int .i64 ey)) (fun e => lHFv.out e.symm) (.int .i64 3))
      replace HR := Lib.hid (blk_other (j := 2) (blk_other (j := 1) (blk_other (j := 0) HR.out (fun e => lHRv.out e.symm) (.int .i64 ex)) (fun e => lHRv.out e.symm) (.int .i64 ey)) (fun e => lHRv.out e.symm) (.int .i64 3))
      replace Hp := Lib.hid (blk_other (j := 2) (blk_other (j := 1) (blk_other (j := 0) Hp.out (fun e => NQ.out e.symm) (.int .i64 ex)) (fun e => NQ.out e.symm) (.int .i64 ey)) (fun e => NQ.out e.symm) (.int .i64 3))
      replace Hv : Hid ((((Wn.setCell ⟨bv, 0, none⟩ (.int .i64 ex)).setCell ⟨bv, 1, none⟩ (.int .i64 ey)).setCell ⟨bv, 2, none⟩ (.int .i64 3)).heap[bv]? = some (.cells #[.int .i64 ex, .int .i64 ey, .int .i64 3] 29 (0, 0))) := Lib.hid (blk_set (j := 2) (blk_set (j := 1) (blk_set (j := 0) Hv.out (.int .i64 ex)) (.int .i64 ey)) (.int .i64 3))
      replace B := Lib.hid (belS (p := ⟨bv, 2, none⟩) (belS (p := ⟨bv, 1, none⟩) (belS (p := ⟨bv, 0, none⟩) B.out nv (.int .i64 ex)) nv (.int .i64 ey)) nv (.int .i64 3))
      generalize (((Wn.setCell ⟨bv, 0, none⟩ (.int .i64 ex)).setCell ⟨bv, 1, none⟩ (.int .i64 ey)).setCell ⟨bv, 2, none⟩ (.int .i64 3)) = Wo at *
      clear np nv
      obtain ⟨L, hL⟩ : ∃ L, solL X Y n0 n1 n2 l0 l1 l2 h0 h1 h2 tx ty ex ey = L := ⟨_, rfl⟩
      obtain ⟨N, hN⟩ : ∃ N, L.length = N := ⟨_, rfl⟩
      have LB := Lib.hid (show L.length ≤ 36 by rw [← hL]; exact solL_36 (by have := VR.out; omega) (by have := VR.out; omega) (by have := VR.out; omega) (by have := VR.out; omega))
      have HL := Lib.hid hL
      have HN := Lib.hid hN
      clear hL hN
      have TW := Lib.hid (Tab.below TT.out B.out)
      have c0 := blk_cell HA.out 0 _ rfl
      have c1 := blk_cell HA.out 1 _ rfl
      have c2 := blk_cell HA.out 2 _ rfl
      have c3 := blk_cell HA.out 3 _ rfl
      have c4 := blk_cell HA.out 4 _ rfl
      have c5 := blk_cell HA.out 5 _ rfl
      have c6 := blk_cell HA.out 6 _ rfl
      have c7 := blk_cell HA.out 7 _ rfl
      have c8 := blk_cell HA.out 8 _ rfl
      have c9 := blk_cell HA.out 9 _ rfl
      have c10 := blk_cell HA.out 10 _ rfl
      have c11 := blk_cell HA.out 11 _ rfl
      have p_0 := blk_cell Hp.out 0 _ rfl
      have p_1 := blk_cell Hp.out 1 _ rfl
      have v_0 := blk_cell Hv.out 0 _ rfl
      have v_1 := blk_cell Hv.out 1 _ rfl
      have v_2 := blk_cell Hv.out 2 _ rfl
      go_upto_region 13 with (go_at_call 14; refine (solve_any X Y n0 n1 n2 W l0 l1 l2 h0 h1 h2 tx ty ex ey _ TW.out V TD (Lib.hid (show (-1000000000 ≤ tx ∧ tx ≤ 1000000000) ∧ -1000000000 ≤ ty ∧ ty ≤ 1000000000 by have := TP.out; omega)) L N HL HN).mono ?_; rintro e Ws ⟨⟨ao, sc, rfl, hrow⟩, hb⟩)
      clear c0 c1 c2 c3 c4 c5 c6 c7 c8 c9 c10 c11
      clear p_0 p_1
      clear v_0 v_1 v_2
      clear TW
      have ROW := Lib.hid hrow
      clear hrow
      replace HA := Lib.hid (blk_call HA.out hb)
      replace HE := Lib.hid (blk_call HE.out hb)
      replace HF := Lib.hid (blk_call HF.out hb)
      replace HR := Lib.hid (blk_call HR.out hb)
      replace Hp := Lib.hid (blk_call Hp.out hb)
      replace Hv := Lib.hid (blk_call Hv.out hb)
      replace B := Lib.hid (belT B.out hb)
      clear hb
      obtain ⟨U, hU⟩ : ∃ U, n2 * 16 * p65 (3 - 3) * ex = U := ⟨_, rfl⟩
      obtain ⟨Z, hZ⟩ : ∃ Z, n2 * 16 * p65 (3 - 3) * ey = Z := ⟨_, rfl⟩
      have E1 : Hid (n2 * (16 * ex) = U) := Lib.hid (by rw [← hU, show p65 (3 - 3) = 1 by decide]; grind)
      have E2 : Hid (n2 * (16 * ey) = Z) := Lib.hid (by rw [← hZ, show p65 (3 - 3) = 1 by decide]; grind)
      have N2 : -200 ≤ n2 ∧ n2 ≤ 200 := by have := VR.out; omega
      have UB : (-200000000 ≤ U ∧ U ≤ 200000000) ∧ -200000000 ≤ Z ∧ Z ≤ 200000000 := by
        have hb := vd_bd TD.out
        have t1 := far_bdI (n := n2) (M := 274625) (by have := VR.out; omega) hb.2.1
        have t2 := far_bdI (n := n2) (M := 274625) (by have := VR.out; omega) hb.2.2
        have e1 : n2 * (16 * ex) = 16 * (n2 * ex) := by grind
        have e2 : n2 * (16 * ey) = 16 * (n2 * ey) := by grind
        have := E1.out
        have := E2.out
        have := VR.out
        omega
      obtain ⟨ub, zb⟩ := UB
      have HU := Lib.hid hU
      have HZ := Lib.hid hZ
      clear hU hZ
      have c0 := blk_cell HA.out 0 _ rfl
      have c1 := blk_cell HA.out 1 _ rfl
      have c2 := blk_cell HA.out 2 _ rfl
      have c3 := blk_cell HA.out 3 _ rfl
      have c4 := blk_cell HA.out 4 _ rfl
      have c5 := blk_cell HA.out 5 _ rfl
      have c6 := blk_cell HA.out 6 _ rfl
      have c7 := blk_cell HA.out 7 _ rfl
      have c8 := blk_cell HA.out 8 _ rfl
      have c9 := blk_cell HA.out 9 _ rfl
      have c10 := blk_cell HA.out 10 _ rfl
      have c11 := blk_cell HA.out 11 _ rfl
      have v_0 := blk_cell Hv.out 0 _ rfl
      have v_1 := blk_cell Hv.out 1 _ rfl
      have v_2 := blk_cell Hv.out 2 _ rfl
      have la := blk_lt HA.out
      go_upto_region 14 with (go_at_call 26; refine (fine7_is ex ey 3 n2 U Z _ TD.out N2 HU HZ).mono ?_; rintro e Wt ⟨rfl, hb⟩)
      clear c0 c1 c2 c3 c4 c5 c6 c7 c8 c9 c10 c11
      clear v_0 v_1 v_2
      clear la
      replace HA := Lib.hid (blk_call HA.out hb)
      replace HE := Lib.hid (blk_call HE.out hb)
      replace HF := Lib.hid (blk_call HF.out hb)
      replace HR := Lib.hid (blk_call HR.out hb)
      replace Hp := Lib.hid (blk_call Hp.out hb)
      replace Hv := Lib.hid (blk_call Hv.out hb)
      replace ROW := Lib.hid (prow3_below ROW.out hb)
      replace B := Lib.hid (belT B.out hb)
      clear hb
      have lHAb7 := Lib.hid (Nat.ne_of_lt (blk_lt HA.out))
      have lHEb7 := Lib.hid (Nat.ne_of_lt (blk_lt HE.out))
      have lHFb7 := Lib.hid (Nat.ne_of_lt (blk_lt HF.out))
      have lHRb7 := Lib.hid (Nat.ne_of_lt (blk_lt HR.out))
      have lHpb7 := Lib.hid (Nat.ne_of_lt (blk_lt Hp.out))
      have lHvb7 := Lib.hid (Nat.ne_of_lt (blk_lt Hv.out))
      replace HA := Lib.hid (blk_alloc HA.out (.cells #[.int .i64 U, .int .i64 Z] 23))
      replace HE := Lib.hid (blk_alloc HE.out (.cells #[.int .i64 U, .int .i64 Z] 23))
      replace HF := Lib.hid (blk_alloc HF.out (.cells #[.int .i64 U, .int .i64 Z] 23))
      replace HR := Lib.hid (blk_alloc HR.out (.cells #[.int .i64 U, .int .i64 Z] 23))
      replace Hp := Lib.hid (blk_alloc Hp.out (.cells #[.int .i64 U, .int .i64 Z] 23))
      replace Hv := Lib.hid (blk_alloc Hv.out (.cells #[.int .i64 U, .int .i64 Z] 23))
      replace ROW := Lib.hid (prow3_alloc ROW.out (.cells #[.int .i64 U, .int .i64 Z] 23))
      have H7 := Lib.hid (blk_new Wt (.cells #[.int .i64 U, .int .i64 Z] 23) _ rfl)
      have Nb7 := Lib.hid (B.out.size)
      replace B := Lib.hid (belA B.out (.cells #[.int .i64 U, .int .i64 Z] 23))
      obtain ⟨b7, eb7⟩ : ∃ x, Wt.heap.size = x := ⟨_, rfl⟩
      rw [eb7] at H7 Nb7 lHAb7 lHEb7 lHFb7 lHRb7 lHpb7 lHvb7 ⊢
      clear eb7
      generalize Wt.alloc (.cells #[.int .i64 U, .int .i64 Z] 23) = Wu at *
      have p_0 := blk_cell Hp.out 0 _ rfl
      have p_1 := blk_cell Hp.out 1 _ rfl
      have u_0 := blk_cell H7.out 0 _ rfl
      have u_1 := blk_cell H7.out 1 _ rfl
      have lp := blk_lt Hp.out
      have l7 := blk_lt H7.out
      obtain ⟨g1, hg1⟩ : ∃ g, tx - U = g := ⟨_, rfl⟩
      obtain ⟨g2, hg2⟩ : ∃ g, ty - Z = g := ⟨_, rfl⟩
      have wr1 : IntKind.i64.wrap (tx - U) = tx - U := wrap_k _ (by have := TP.out; omega)
      have wr2 : IntKind.i64.wrap (ty - Z) = ty - Z := wrap_k _ (by have := TP.out; omega)
      have tbx := TP.out.1
      have tby := TP.out.2
      have wr3 : -9223372036854775808 ≤ g1 ∧ g1 ≤ 9223372036854775807 := by omega
      have wr4 : -9223372036854775808 ≤ g2 ∧ g2 ≤ 9223372036854775807 := by omega
      go_upto_region 15 with fail
      clear wr1 wr2 wr3 wr4 tbx tby
      clear p_0 p_1 u_0 u_1 lp l7
      have lHAb8 := Lib.hid (Nat.ne_of_lt (blk_lt HA.out))
      have lHEb8 := Lib.hid (Nat.ne_of_lt (blk_lt HE.out))
      have lHFb8 := Lib.hid (Nat.ne_of_lt (blk_lt HF.out))
      have lHRb8 := Lib.hid (Nat.ne_of_lt (blk_lt HR.out))
      have lHpb8 := Lib.hid (Nat.ne_of_lt (blk_lt Hp.out))
      have lHvb8 := Lib.hid (Nat.ne_of_lt (blk_lt Hv.out))
      have lH7b8 := Lib.hid (Nat.ne_of_lt (blk_lt H7.out))
      replace HA := Lib.hid (blk_alloc HA.out (.cells #[.int .i64 g1, .int .i64 g2] 23))
      replace HE := Lib.hid (blk_alloc HE.out (.cells #[.int .i64 g1, .int .i64 g2] 23))
      replace HF := Lib.hid (blk_alloc HF.out (.cells #[.int .i64 g1, .int .i64 g2] 23))
      replace HR := Lib.hid (blk_alloc HR.out (.cells #[.int .i64 g1, .int .i64 g2] 23))
      replace Hp := Lib.hid (blk_alloc Hp.out (.cells #[.int .i64 g1, .int .i64 g2] 23))
      replace Hv := Lib.hid (blk_alloc Hv.out (.cells #[.int .i64 g1, .int .i64 g2] 23))
      replace H7 := Lib.hid (blk_alloc H7.out (.cells #[.int .i64 g1, .int .i64 g2] 23))
      replace ROW := Lib.hid (prow3_alloc ROW.out (.cells #[.int .i64 g1, .int .i64 g2] 23))
      have H8 := Lib.hid (blk_new Wu (.cells #[.int .i64 g1, .int .i64 g2] 23) _ rfl)
      have Nb8 := Lib.hid (B.out.size)
      replace B := Lib.hid (belA B.out (.cells #[.int .i64 g1, .int .i64 g2] 23))
      obtain ⟨b8, eb8⟩ : ∃ x, Wu.heap.size = x := ⟨_, rfl⟩
      rw [eb8] at H8 Nb8 lHAb8 lHEb8 lHFb8 lHRb8 lHpb8 lHvb8 lH7b8 ⊢
      clear eb8
      generalize Wu.alloc (.cells #[.int .i64 g1, .int .i64 g2] 23) = Wv at *
      have G1 := Lib.hid hg1
      have G2 := Lib.hid hg2
      clear hg1 hg2 ub zb
      have HF1 := Lib.hid (show L.Pairwise (fun p q => p.1 < q.1) by rw [← HL.out]; exact solL_first (by have := VR.out; omega) (by have := VR.out; omega) (by have := VR.out; omega) (by have := VR.out; omega))
      have HW2 : Hid (¬ (g1 = X ∧ g2 = Y) → N ≤ 2) := Lib.hid (fun h => by
          rw [← HN.out, ← HL.out]
          exact solL_two (by have := VR.out; omega) (by have := VR.out; omega) (by have := VR.out; omega) (by have := VR.out; omega) (by have := VR.out; omega) (by rw [E1.out, E2.out, G1.out, G2.out]; exact h))
      have N36 : N ≤ 36 := by rw [← HN.out]; exact LB.out
      clear HL LB E1 E2 HU HZ
      have HNl := HN.out
      subst HNl
      go_wp2_with fail
      go_loopw [19] (fun i wr => ∃ j : Nat, (1 ≤ j ∧ (j ≤ L.length ∨ j = 1)) ∧ i = .int .i64 j ∧ ∃ q, wr = Wv.drewN q) (fun i _ => L.length + 1 - (intOf i).toNat)
      case atStart => exact ⟨1, ⟨Nat.le_refl _, .inr rfl⟩, rfl, 0, rfl⟩
      case round =>
        obtain ⟨j, hj, rfl, q, hq⟩ := hrel
        by_cases hlt : j < L.length
        · obtain ⟨b', o', rfl, c1, c2, c3⟩ := ROW.out j hlt
          obtain ⟨b'', o'', e', c4, c5, c6⟩ := ROW.out (j - 1) (by omega)
          cases e'
          have d1 := (drewN8 hq _).trans c1
          have d4 := (drewN8 hq _).trans c4
          have HQQ := Lib.hid hq
          have FA := Lib.hid (first_at HF1.out (show 0 < j by omega) hlt)
          obtain ⟨z1, hz1⟩ : ∃ z, (L.getD j j0).1 = z := ⟨_, rfl⟩
          obtain ⟨z2, hz2⟩ : ∃ z, (L.getD (j - 1) j0).1 = z := ⟨_, rfl⟩
          rw [hz1] at d1
          rw [hz2] at d4
          have hzz : ¬ z1 ≤ z2 := by have := FA.out; rw [hz1, hz2] at this; omega
          clear c1 c2 c3 c4 c5 c6 hq hz1 hz2
          have hji : (j : Int) < L.length := by omega
          have hj1 : (1 : Int) ≤ j := by omega
          have hjs : ((j : Int) - 1) = ((j - 1 : Nat) : Int) := by omega
          obtain ⟨j', hj'⟩ : ∃ j', j = j' + 1 := ⟨j - 1, by omega⟩
          subst hj'
          simp only [Nat.add_sub_cancel] at d4
          push_cast at *
          go_upto_region 18 with fail
          go_region
          all_goals
            go_wp2
            exact ⟨⟨j' + 2, ⟨by omega, .inl (by omega)⟩, congrArg (Value.int .i64) (by push_cast; omega), q + 1, by rw [HQQ.out]; rfl⟩, by simp [intOf]; omega⟩
        · have hlt' : ¬ (j : Int) < L.length := by omega
          have h36 : (L.length : Int) ≤ 36 := by omega
          by_cases e1 : g1 = X
          · by_cases e2 : g2 = Y
            · subst e1
              subst e2
              have x0 := (drewN8 hq _).trans (blk_cell HA.out 0 _ rfl)
              have x1 := (drewN8 hq _).trans (blk_cell HA.out 1 _ rfl)
              have y0 := (drewN8 hq _).trans (blk_cell H8.out 0 _ rfl)
              have y1 := (drewN8 hq _).trans (blk_cell H8.out 1 _ rfl)
              have HQQ := Lib.hid hq
              clear hq
              go_wp2_with fail
              go_ret
              exact ⟨rfl, by rw [HQQ.out]; exact below_drewN B.out q⟩
            · have h2 : (L.length : Int) ≤ 2 := by have := HW2.out (fun h => e2 h.2); omega
              subst e1
              have x0 := (drewN8 hq _).trans (blk_cell HA.out 0 _ rfl)
              have x1 := (drewN8 hq _).trans (blk_cell HA.out 1 _ rfl)
              have y0 := (drewN8 hq _).trans (blk_cell H8.out 0 _ rfl)
              have y1 := (drewN8 hq _).trans (blk_cell H8.out 1 _ rfl)
              have HQQ := Lib.hid hq
              clear hq
              go_wp2_with fail
              go_ret
              exact ⟨rfl, by rw [HQQ.out]; exact below_drewN B.out q⟩
          · have h2 : (L.length : Int) ≤ 2 := by have := HW2.out (fun h => e1 h.1); omega
            have x0 := (drewN8 hq _).trans (blk_cell HA.out 0 _ rfl)
            have x1 := (drewN8 hq _).trans (blk_cell HA.out 1 _ rfl)
            have y0 := (drewN8 hq _).trans (blk_cell H8.out 0 _ rfl)
            have y1 := (drewN8 hq _).trans (blk_cell H8.out 1 _ rfl)
            have HQQ := Lib.hid hq
            clear hq
            go_wp2_with fail
            go_ret
            exact ⟨rfl, by rw [HQQ.out]; exact below_drewN B.out q⟩

set_option maxRecDepth 100000 in
theorem lifted (os : Os) (started : os.Started) (H : Type) (enc : TypeId × Value → H) :
    ReturnsInHanded {} Tryd.checked os 5 .any (fun w args => (Rows.invkinAtMostTwoSpec.pre enc Tryd.prog Tryd.f5 [] false w args ∧ laidMetH Tryd.prog Rows.invkinAtMostTwoRow.laid w) ∧ sizedMet enc Tryd.prog Tryd.f5 (OpenSpec.ofChange Rows.invkinAtMostTwoSpec) false w args)
      (Rows.invkinAtMostTwoSpec.post enc Tryd.prog Tryd.f5 false true false false) := by
  refine returnsInHanded_of_change_and (C := Tryd.checked) (X := fun w _ => laidMetH Tryd.prog Rows.invkinAtMostTwoRow.laid w) (fun _ _ _ hh h => h.of_heap hh) own started (by kernel_rfl) Tryd.func5
    (ChangeSpec.witness_shaped (enc := enc) (C := Tryd.checked) (os := os) (X := fun w _ => laidMetH Tryd.prog Rows.invkinAtMostTwoRow.laid w) false (World.doorLaid Tryd.prog 600 os) #[.agg #[.int .i64 0, .int .i64 0, .int .i64 0, .int .i64 0, .int .i64 0, .int .i64 0, .int .i64 0, .int .i64 0, .int .i64 0, .int .i64 0, .int .i64 0, .int .i64 0], .agg #[.int .i64 0, .int .i64 0], .agg #[.int .i64 0, .int .i64 0, .int .i64 0], .agg #[.int .u8 0, .int .u8 0, .int .u8 0], .bool false] 8 rfl (World.shaped_of_RefB (by kernel_rfl) (by kernel_rfl)) (by kernel_rfl) (by kernel_rfl) (by kernel_rfl) (show laidMetH Tryd.prog [(qn, Rows.laid_ambidexter_rotation_quadrant)] _ from door_met os _)) ?_
  intro W base args ds gs before hval0 hW _ _ hL _
  have hval : ∀ (j : Nat) t v, Tryd.f5.params[j]? = some t → args[j]? = some v → Value.okWide Tryd.prog W .any base t v := hval0
  have hW' := hW
  obtain ⟨p, q, hA0, hV, rfl, hfz, hnd⟩ := hW
  have hA : DataW.TrodAll enc Tryd.prog W 0 (fun _ => true) true Tryd.f5.params.toList args.toList ds p := hA0
  rw [Tryd.params5] at hA hval
  obtain ⟨v0, vs0, d0, ds0, p0, q0, hargs, rfl, rfl, h0, r0⟩ := trodAll_cons hA
  obtain ⟨v1, vs1, d1, ds1, p1, q1, rfl, rfl, rfl, h1, r1⟩ := trodAll_cons r0
  obtain ⟨v2, vs2, d2, ds2, p2, q2, rfl, rfl, rfl, h2, r2⟩ := trodAll_cons r1
  obtain ⟨v3, vs3, d3, ds3, p3, q3, rfl, rfl, rfl, h3, r3⟩ := trodAll_cons r2
  obtain ⟨v4, vs4, d4, ds4, p4, q4, rfl, rfl, rfl, h4, r4⟩ := trodAll_cons r3
  obtain ⟨rfl, rfl, rfl⟩ := trodAll_nil r4
  obtain rfl : args = #[v0, v1, v2, v3, v4] := by cases args; simp_all
  obtain ⟨rfl, rfl⟩ := trodVars_none hV
  have k0 := h0
  have lt0 : ∀ x ∈ p0, x.block < W.heap.size := by obtain ⟨m, hm⟩ := k0; exact DataW.trod_lt m _ _ _ hm
  obtain ⟨c0_0, c0_1, c0_2, c0_3, c0_4, c0_5, c0_6, c0_7, c0_8, c0_9, c0_10, c0_11, rfl⟩ := AFr.open_arm (hval 0 27 v0 rfl rfl) h0
  have k1 := h1
  have lt1 : ∀ x ∈ p1, x.block < W.heap.size := by obtain ⟨m, hm⟩ := k1; exact DataW.trod_lt m _ _ _ hm
  obtain ⟨x1, y1, rfl⟩ := HFr.open_pt (hval 1 23 v1 rfl rfl) h1
  have k2 := h2
  have lt2 : ∀ x ∈ p2, x.block < W.heap.size := by obtain ⟨m, hm⟩ := k2; exact DataW.trod_lt m _ _ _ hm
  obtain ⟨c2_0, c2_1, c2_2, rfl⟩ := AFr.open_dir (hval 2 29 v2 rfl rfl) h2
  have k3 := h3
  have lt3 : ∀ x ∈ p3, x.block < W.heap.size := by obtain ⟨m, hm⟩ := k3; exact DataW.trod_lt m _ _ _ hm
  obtain ⟨c3_0, c3_1, c3_2, rfl, b3_0, b3_1, b3_2⟩ := AFr.open_raw (hval 3 30 v3 rfl rfl) h3
  obtain ⟨a4, rfl, rfl, rfl⟩ := open_bool Tryd.underlying4 (hval 4 4 v4 rfl rfl) h4
  clear hA0 hval0
  simp only [List.append_nil] at hW'
  refine (walk c0_0 c0_1 c0_2 c0_3 c0_4 c0_5 c0_6 c0_7 c0_8 c0_9 c0_10 c0_11 x1 y1 c2_0 c2_1 c2_2 c3_0 c3_1 c3_2 b3_0 b3_1 b3_2 a4 W (tab_of_laid hL)).mono fun e W' ⟨he, bel⟩ => ?_
  subst he
  exact ⟨_, rfl, _, _, _, [], _, [], hW', trodAll_mk1 (shut_bool Tryd.underlying4 _), (trodAll_cons_mk (Below.trod HFr.laidOut (by kernel_rfl) (of_decide_eq_true (by kernel_rfl)) k0 bel lt0) (trodAll_cons_mk (Below.trod HFr.laidOut (by kernel_rfl) (of_decide_eq_true (by kernel_rfl)) k1 bel lt1) (trodAll_cons_mk (Below.trod HFr.laidOut (by kernel_rfl) (of_decide_eq_true (by kernel_rfl)) k2 bel lt2) (trodAll_cons_mk (Below.trod HFr.laidOut (by kernel_rfl) (of_decide_eq_true (by kernel_rfl)) k3 bel lt3) (trodAll_cons_mk (shut_bool Tryd.underlying4 _) trodAll_mk0))))), rfl, bel.frame _, fun h => by cases h⟩

theorem holds : Rows.InvkinAtMostTwoSaid :=
  OpenClaim.holds_of_wide 5 Tryd.f5 rfl rfl rfl rfl rfl rfl rfl ⟨rfl, rfl, rfl, rfl, rfl⟩ rfl rfl rfl rfl rfl (by kernel_rfl) Tryd.func5 (by kernel_rfl)
    (of_decide_eq_true (by kernel_rfl)) (by unfold Func.isWrapper; first | (rw [if_pos (by decide +kernel)]; kernel_rfl) | (rw [if_neg (by decide +kernel)]; exact ⟨rfl, rfl⟩))
    (fun os started H enc _ => lifted os started H enc)

/-- THE STATEMENT: the tied card. -/
theorem card_holds : Rows.InvkinAtMostTwoCardSaid :=
  Claim7.holds_tied_plain_at .later [] [.data] true Rows.invkinAtMostTwoCard.stood.harness false
    holds (fun _ h => by cases h) (by kernel_rfl) (fun _ h => by cases h) invkinAtMostTwo_row_tie rfl ⟨rfl, rfl⟩ (by kernel_rfl) rfl
    (fun f fn hf hfn => by
      obtain rfl : f = 5 := Option.some.inj ((show Tryd.prog.funcNamed Rows.invkinAtMostTwoRow.func = some 5 by kernel_rfl).symm.trans hf) |>.symm
      obtain rfl : fn = Tryd.f5 := (Option.some.inj (Tryd.func5.symm.trans hfn)).symm
      exact ⟨by kernel_rfl, fun j t ht => by
        rw [Tryd.params5] at ht
        have hm : t ∈ [27, 23, 29, 30, 4] := by have := Array.mem_of_getElem? ht; simp only [List.mem_toArray, List.mem_cons, List.not_mem_nil, or_false] at this ⊢; grind
        have hall : ([27, 23, 29, 30, 4].all fun u => !Tryd.prog.wantsStandIn u) = true := by kernel_rfl
        exact (show Tryd.prog.wantsStandIn t = false by simpa using List.all_eq_true.1 hall t hm)⟩)
    (by kernel_rfl)
#print axioms card_holds
end Go.Proofs.YtceejjamngplkaaDoor.invkinAtMostTwo
