/- For every valid arm, Solve agrees with a brute-force enumeration, for arbitrary targets and for targets reached by a configuration; Nearest agrees with the reference implementation (at most 100 configurations).
Conditions: none on the arguments; the table of rotations lies as the program's text lays it (the card's tie). -/
import Derived.Test.YtceejjamngplkaaDoorIkR
import Derived.Test.YtceejjamngplkaaDoorIkW
import Derived.Test.YtceejjamngplkaaDoorIkT
import Derived.Test.YtceejjamngplkaaDoorIkX
import Derived.Test.YtceejjamngplkaaDoorIkM
import Derived.Test.YtceejjamngplkaaDoorIkN
import Derived.Test.YtceejjamngplkaaDoorAmO
import Derived.Test.YtceejjamngplkaaDoorIkU
import Derived.Test.YtceejjamngplkaaDoorBase
import Derived.Test.YtceejjamngplkaaDoorTie
import Derived.Test.YtceejjamngplkaaDoorCards
import Derived.SevenTiedAt
namespace Go.Proofs.YtceejjamngplkaaDoor.invkinMatchesReference
open Go.ChangeShapes Go.WideShapes Go.ChangeAt Go.RowKit
set_option linter.unusedVariables false
set_option linter.unusedSimpArgs false
set_option maxRecDepth 100000

theorem all_b {l : List J3} (h : l.all smB = true) : ∀ x ∈ l, B1000 x := fun x hx => b1000_of (List.all_eq_true.1 h x hx)
theorem take_all {l : List J3} {k : Nat} (hk : k < l.length) : (l.take (k + 1)).all smB = ((l.take k).all smB && smB (l.getD k j0)) := by
  rw [List.take_add_one, List.all_append, List.getD_eq_getElem?_getD, List.getElem?_eq_getElem hk]
  simp
set_option maxHeartbeats 16000000 in
theorem walk (X Y n0 n1 n2 W l0 l1 l2 h0 h1 h2 tx ty ex ey en : Int) (r0 r1 r2 : Int) (hr0 : 0 ≤ r0 ∧ r0 ≤ 255) (hr1 : 0 ≤ r1 ∧ r1 ≤ 255) (hr2 : 0 ≤ r2 ∧ r2 ≤ 255) (lo : Option Addr) (lc : Nat) (l : List J3) (hlc : l.length ≤ lc ∧ lc ≤ 9223372036854775807) (u v t : Int) (w : World) (hrow : PRow3 w lo l) (hT : Tab w) :
    Calls Tryd.prog 3 #[.agg #[.int .i64 X, .int .i64 Y, .int .i64 n0, .int .i64 n1, .int .i64 n2, .int .i64 W, .int .i64 l0, .int .i64 l1, .int .i64 l2, .int .i64 h0, .int .i64 h1, .int .i64 h2], .agg #[.int .i64 tx, .int .i64 ty], .agg #[.int .i64 ex, .int .i64 ey, .int .i64 en], .agg #[.int .u8 r0, .int .u8 r1, .int .u8 r2], .slice lo l.length lc, .agg #[.int .i64 u, .int .i64 v, .int .i64 t]] w fun e w' => e = .returned (.bool true) ∧ Below w.heap.size w w' := by
  have HRW := Lib.hid hrow
  have HLC := Lib.hid hlc
  clear hrow hlc
  go_enter Tryd.func3, Tryd.ntmps3
  go_upto_region 1 with fail
  obtain ⟨W0, hW0⟩ : ∃ z, (((((w.alloc (.cells #[.int .i64 X, .int .i64 Y, .int .i64 n0, .int .i64 n1, .int .i64 n2, .int .i64 W, .int .i64 l0, .int .i64 l1, .int .i64 l2, .int .i64 h0, .int .i64 h1, .int .i64 h2] 27)).alloc (.cells #[.int .i64 tx, .int .i64 ty] 23)).alloc (.cells #[.int .i64 ex, .int .i64 ey, .int .i64 en] 29)).alloc (.cells #[.int .u8 r0, .int .u8 r1, .int .u8 r2] 30)).alloc (.cells #[.int .i64 u, .int .i64 v, .int .i64 t] 25)) = z := ⟨_, rfl⟩
  have HA : Hid (W0.heap[w.heap.size]? = some (.cells #[.int .i64 X, .int .i64 Y, .int .i64 n0, .int .i64 n1, .int .i64 n2, .int .i64 W, .int .i64 l0, .int .i64 l1, .int .i64 l2, .int .i64 h0, .int .i64 h1, .int .i64 h2] 27 (0, 0))) := Lib.hid (by rw [← hW0]; exact blk_alloc (blk_alloc (blk_alloc (blk_alloc (blk_new _ _ _ rfl) _) _) _) _)
  have HE : Hid (W0.heap[w.heap.size + 1]? = some (.cells #[.int .i64 tx, .int .i64 ty] 23 (0, 0))) := Lib.hid (by rw [← hW0]; exact blk_alloc (blk_alloc (blk_alloc (blk_new _ _ _ (by simp)) _) _) _)
  have HF : Hid (W0.heap[w.heap.size + 1 + 1]? = some (.cells #[.int .i64 ex, .int .i64 ey, .int .i64 en] 29 (0, 0))) := Lib.hid (by rw [← hW0]; exact blk_alloc (blk_alloc (blk_new _ _ _ (by simp)) _) _)
  have HR : Hid (W0.heap[w.heap.size + 1 + 1 + 1]? = some (.cells #[.int .u8 r0, .int .u8 r1, .int .u8 r2] 30 (0, 0))) := Lib.hid (by rw [← hW0]; exact blk_alloc (blk_new _ _ _ (by simp)) _)
  have HQ : Hid (W0.heap[w.heap.size + 1 + 1 + 1 + 1]? = some (.cells #[.int .i64 u, .int .i64 v, .int .i64 t] 25 (0, 0))) := Lib.hid (by rw [← hW0]; exact blk_new _ _ _ (by simp))
  have B : Hid (Below w.heap.size w W0) := Lib.hid (by rw [← hW0]; go_grown)
  have TT := Lib.hid hT
  rw [hW0]
  clear hW0 hT
  obtain ⟨ba, eba⟩ : ∃ a, w.heap.size = a := ⟨_, rfl⟩
  obtain ⟨be, ebe⟩ : ∃ a, w.heap.size + 1 = a := ⟨_, rfl⟩
  obtain ⟨bf, ebf⟩ : ∃ a, w.heap.size + 1 + 1 = a := ⟨_, rfl⟩
  obtain ⟨br, ebr⟩ : ∃ a, w.heap.size + 1 + 1 + 1 = a := ⟨_, rfl⟩
  obtain ⟨bq, ebq⟩ : ∃ a, w.heap.size + 1 + 1 + 1 + 1 = a := ⟨_, rfl⟩
  have NE := Lib.hid (show w.heap.size ≤ ba ∧ w.heap.size ≤ be ∧ w.heap.size ≤ bf ∧ w.heap.size ≤ br ∧ w.heap.size ≤ bq ∧ ba ≠ be ∧ ba ≠ bf ∧ ba ≠ br ∧ ba ≠ bq ∧ be ≠ ba ∧ be ≠ bf ∧ be ≠ br ∧ be ≠ bq ∧ bf ≠ ba ∧ bf ≠ be ∧ bf ≠ br ∧ bf ≠ bq ∧ br ≠ ba ∧ br ≠ be ∧ br ≠ bf ∧ br ≠ bq ∧ bq ≠ ba ∧ bq ≠ be ∧ bq ≠ bf ∧ bq ≠ br by omega)
  rw [ebq, ebr, ebf, ebe, eba]
  rw [eba] at HA
  rw [ebe] at HE
  rw [ebf] at HF
  rw [ebr] at HR
  rw [ebq] at HQ
  clear eba ebe ebf ebr ebq
  go_upto_region 2 with (go_at_call 10; refine (head8_is _ (Tab.below TT.out B.out)).mono ?_; rintro e W1 ⟨rfl, hb⟩)
  replace HA := Lib.hid (blk_call HA.out hb)
  replace HE := Lib.hid (blk_call HE.out hb)
  replace HF := Lib.hid (blk_call HF.out hb)
  replace HR := Lib.hid (blk_call HR.out hb)
  replace HQ := Lib.hid (blk_call HQ.out hb)
  replace B := Lib.hid (belT B.out hb)
  clear hb
  obtain ⟨g, hg⟩ : ∃ g, armB X Y n0 n1 n2 W l0 l1 l2 h0 h1 h2 = g := ⟨_, rfl⟩
  have HT := Lib.hid hg
  clear hg
  have c0 := blk_cell HA.out 0 _ rfl
  have c1 := blk_cell HA.out 1 _ rfl
  have c2 := blk_cell HA.out 2 _ rfl
  have c3 := blk_cell HA.out 3 _ rfl
  have c4 := blk_cell HA.out 4 _ rfl
  have c5 := blk_cell HA.out 5 _ rfl
  have c6 := blk_cell HA.out 6 _ rfl
  have c7 := blk_cell HA.out 7 _ rfl
  have c8 := blk_cell HA.out 8 _ rfl
  have c9 := blk_cell HA.out 9 _ rfl
  have c10 := blk_cell HA.out 10 _ rfl
  have c11 := blk_cell HA.out 11 _ rfl
  go_upto_region 3 with (go_at_call 11; refine (right7_is X Y n0 n1 n2 W l0 l1 l2 h0 h1 h2 g _ HT).mono ?_; rintro e W3 ⟨rfl, hb⟩)
  clear c0 c1 c2 c3 c4 c5 c6 c7 c8 c9 c10 c11
  replace HA := Lib.hid (blk_call HA.out hb)
  replace HE := Lib.hid (blk_call HE.out hb)
  replace HF := Lib.hid (blk_call HF.out hb)
  replace HR := Lib.hid (blk_call HR.out hb)
  replace HQ := Lib.hid (blk_call HQ.out hb)
  replace B := Lib.hid (belT B.out hb)
  clear hb
  cases g
  · go_wp2_with fail
    go_ret
    exact ⟨rfl, B.out⟩
  have V := HT
  by_cases h100 : 100 < l.length
  · have h100' : (100 : Int) < l.length := by omega
    go_wp2_with fail
    go_ret
    exact ⟨rfl, B.out⟩
  have h100' : ¬ (100 : Int) < l.length := by omega
  go_upto_region 5 with fail
  clear h100'
  obtain ⟨m, hm⟩ : ∃ m, mayB8 tx ty ex ey en = m := ⟨_, rfl⟩
  have HM := Lib.hid hm
  clear hm
  have c0 := blk_cell HA.out 0 _ rfl
  have c1 := blk_cell HA.out 1 _ rfl
  have c2 := blk_cell HA.out 2 _ rfl
  have c3 := blk_cell HA.out 3 _ rfl
  have c4 := blk_cell HA.out 4 _ rfl
  have c5 := blk_cell HA.out 5 _ rfl
  have c6 := blk_cell HA.out 6 _ rfl
  have c7 := blk_cell HA.out 7 _ rfl
  have c8 := blk_cell HA.out 8 _ rfl
  have c9 := blk_cell HA.out 9 _ rfl
  have c10 := blk_cell HA.out 10 _ rfl
  have c11 := blk_cell HA.out 11 _ rfl
  have p_0 := blk_cell HE.out 0 _ rfl
  have p_1 := blk_cell HE.out 1 _ rfl
  have v_0 := blk_cell HF.out 0 _ rfl
  have v_1 := blk_cell HF.out 1 _ rfl
  have v_2 := blk_cell HF.out 2 _ rfl
  go_upto_region 6 with (go_at_call 12; refine (may8_is X Y n0 n1 n2 W l0 l1 l2 h0 h1 h2 tx ty ex ey en m _ V HM).mono ?_; rintro e Wm ⟨rfl, hb⟩)
  clear c0 c1 c2 c3 c4 c5 c6 c7 c8 c9 c10 c11
  clear p_0 p_1
  clear v_0 v_1 v_2
  replace HA := Lib.hid (blk_call HA.out hb)
  replace HE := Lib.hid (blk_call HE.out hb)
  replace HF := Lib.hid (blk_call HF.out hb)
  replace HR := Lib.hid (blk_call HR.out hb)
  replace HQ := Lib.hid (blk_call HQ.out hb)
  replace B := Lib.hid (belT B.out hb)
  clear hb
  have VR := Lib.hid ((armB_iff X Y n0 n1 n2 W l0 l1 l2 h0 h1 h2).1 V.out)
  have JB0 := Lib.hid (jq_bd (l := l0) (h := h0) (by have := VR.out; omega) hr0.1)
  obtain ⟨q0, hq0⟩ : ∃ q, jq l0 h0 r0 = q := ⟨_, rfl⟩
  rw [hq0] at JB0
  have k0 : -1000 ≤ q0 ∧ q0 ≤ 1000 := by have := VR.out; have := JB0.out; omega
  replace hq0 := Lib.hid hq0
  have JB1 := Lib.hid (jq_bd (l := l1) (h := h1) (by have := VR.out; omega) hr1.1)
  obtain ⟨q1, hq1⟩ : ∃ q, jq l1 h1 r1 = q := ⟨_, rfl⟩
  rw [hq1] at JB1
  have k1 : -1000 ≤ q1 ∧ q1 ≤ 1000 := by have := VR.out; have := JB1.out; omega
  replace hq1 := Lib.hid hq1
  have JB2 := Lib.hid (jq_bd (l := l2) (h := h2) (by have := VR.out; omega) hr2.1)
  obtain ⟨q2, hq2⟩ : ∃ q, jq l2 h2 r2 = q := ⟨_, rfl⟩
  rw [hq2] at JB2
  have k2 : -1000 ≤ q2 ∧ q2 ≤ 1000 := by have := VR.out; have := JB2.out; omega
  replace hq2 := Lib.hid hq2
  have JQ : Hid (∀ w : World, Calls Tryd.prog 17 #[.agg #[.int .i64 X, .int .i64 Y, .int .i64 n0, .int .i64 n1, .int .i64 n2, .int .i64 W, .int .i64 l0, .int .i64 l1, .int .i64 l2, .int .i64 h0, .int .i64 h1, .int .i64 h2], .agg #[.int .u8 r0, .int .u8 r1, .int .u8 r2]] w fun e w' => e = .returned (.agg #[.int .i64 q0, .int .i64 q1, .int .i64 q2]) ∧ Below w.heap.size w w') := Lib.hid (fun w => by rw [← hq0.out, ← hq1.out, ← hq2.out]; exact joint_is X Y n0 n1 n2 W l0 l1 l2 h0 h1 h2 r0 r1 r2 w V hr0 hr1 hr2)
  obtain ⟨x1, x2, x3, y1, y2, y3, u1, u2, u3, v1, v2, v3, a1, a2, a3, b1, b2, b3, PP⟩ := pose_ex X Y n0 n1 n2 q0 q1 q2
  replace PP := Lib.hid PP
  have D1 := Lib.hid (vd_one q0 x1 y1 (Lib.hid PP.out.e1))
  have D2 := Lib.hid (vd_two (x1, y1) q1 x2 y2 1 2 D1.out (by omega) rfl (Lib.hid PP.out.e2))
  have D3 := Lib.hid (vd_two (x2, y2) q2 x3 y3 2 3 D2.out (by omega) rfl (Lib.hid PP.out.e3))
  have PB := Lib.hid (show (-439400000 ≤ a3 ∧ a3 ≤ 439400000) ∧ -439400000 ≤ b3 ∧ b3 ≤ 439400000 by have := pose_bd PP.out V.out; have := VR.out; omega)
  have PB0 := PB.out.1
  have PB1 := PB.out.2
  obtain ⟨L, hL⟩ : ∃ L, solL X Y n0 n1 n2 l0 l1 l2 h0 h1 h2 a3 b3 x3 y3 = L := ⟨_, rfl⟩
  obtain ⟨N, hN⟩ : ∃ N, L.length = N := ⟨_, rfl⟩
  have LB := Lib.hid (show L.length ≤ 36 by rw [← hL]; exact solL_36 (by have := VR.out; omega) (by have := VR.out; omega) (by have := VR.out; omega) (by have := VR.out; omega))
  have HL := Lib.hid hL
  have HN := Lib.hid hN
  clear hL hN
  cases m
  · skip
    go_upto_region 10 with fail
    have TW := Lib.hid (Tab.below TT.out B.out)
    have HLL := HL
    have HNL := HN
    have LBL := LB
    clear HL HN LB
    refine (wpIn_wide (n := 0)).1 (region_tip [55, 56, 57, 58, 59, 54, 60, 61, 17, 18] [(0, 55), (1, 56), (2, 57), (3, 58), (4, 59), (5, 54), (6, 60), (7, 61)] (fun t => match t with | 55 => .agg #[.int .i64 X, .int .i64 Y, .int .i64 n0, .int .i64 n1, .int .i64 n2, .int .i64 W, .int .i64 l0, .int .i64 l1, .int .i64 l2, .int .i64 h0, .int .i64 h1, .int .i64 h2] | 56 => .agg #[.int .i64 X, .int .i64 Y, .int .i64 n0, .int .i64 n1, .int .i64 n2, .int .i64 W, .int .i64 l0, .int .i64 l1, .int .i64 l2, .int .i64 h0, .int .i64 h1, .int .i64 h2] | 57 => .agg #[.int .u8 r0, .int .u8 r1, .int .u8 r2] | 58 => .agg #[.int .i64 q0, .int .i64 q1, .int .i64 q2] | 59 => .tuple #[.agg #[.int .i64 a3, .int .i64 b3], .agg #[.int .i64 x3, .int .i64 y3, .int .i64 3]] | 54 => .tuple #[.agg #[.int .i64 a3, .int .i64 b3], .agg #[.int .i64 x3, .int .i64 y3, .int .i64 3]] | 60 => .agg #[.int .i64 a3, .int .i64 b3] | 61 => .agg #[.int .i64 x3, .int .i64 y3, .int .i64 3] | _ => undef) 17 18 8 9 10 11 #[.int .i64 0, .int .i64 0] #[.int .i64 a3, .int .i64 b3] #[.int .i64 0, .int .i64 0, .int .i64 0] #[.int .i64 x3, .int .i64 y3, .int .i64 3] 23 29 rfl rfl rfl (by kernel_rfl) (by kernel_rfl) (by kernel_rfl) (by kernel_rfl) (by kernel_rfl) ?_ ?_)
    · intro s T w i o K ho hs hpre hJ hK
      have hi := (Array.getElem?_eq_some_iff.1 ho).1
      have hi' : i = 0 ∨ i = 1 ∨ i = 2 ∨ i = 3 ∨ i = 4 ∨ i = 5 ∨ i = 6 ∨ i = 7 ∨ i = 8 ∨ i = 9 ∨ i = 10 ∨ i = 11 := by simp at hi; omega
      clear hi
      rcases hi' with rfl | rfl | rfl | rfl | rfl | rfl | rfl | rfl | rfl | rfl | rfl | rfl
      · obtain rfl := Option.some.inj ho
        have g : T[6]? = some (.pointer (some ⟨ba, 0, none⟩)) := hJ.frame 6 (by decide)
        exact wp_load_row 27 (.tmp 6) rfl _ (eval_tmp g) _ _ _ _ (blk_call HA.out hJ.bel) Tryd.underlying27 rfl (by kernel_rfl) (hK _ _ (hJ.pure (i := 0) (q := 55) (by decide) (by decide) (by decide) (by simp) (by decide) hJ.bel.size (Below.refl _ _)))
      · obtain rfl := Option.some.inj ho
        have g : T[6]? = some (.pointer (some ⟨ba, 0, none⟩)) := hJ.frame 6 (by decide)
        exact wp_load_row 27 (.tmp 6) rfl _ (eval_tmp g) _ _ _ _ (blk_call HA.out hJ.bel) Tryd.underlying27 rfl (by kernel_rfl) (hK _ _ (hJ.pure (i := 1) (q := 56) (by decide) (by decide) (by decide) (by simp) (by decide) hJ.bel.size (Below.refl _ _)))
      · obtain rfl := Option.some.inj ho
        have g : T[9]? = some (.pointer (some ⟨br, 0, none⟩)) := hJ.frame 9 (by decide)
        exact wp_load_row 30 (.tmp 9) rfl _ (eval_tmp g) _ _ _ _ (blk_call HR.out hJ.bel) Tryd.underlying30 rfl (by kernel_rfl) (hK _ _ (hJ.pure (i := 2) (q := 57) (by decide) (by decide) (by decide) (by simp) (by decide) hJ.bel.size (Below.refl _ _)))
      · obtain rfl := Option.some.inj ho
        have g56 := hJ.told (1, 56) (by decide) (hpre 1 (by simp [Region.binds]))
        have g57 := hJ.told (2, 57) (by decide) (hpre 2 (by simp [Region.binds]))
        go_simp
        refine (JQ.out _).mono ?_; rintro e w9 ⟨rfl, hb⟩
        exact hK _ _ (hJ.pure (i := 3) (q := 58) (by decide) (by decide) (by decide) (by simp) (by decide) hJ.bel.size (hb))
      · obtain rfl := Option.some.inj ho
        have g55 := hJ.told (0, 55) (by decide) (hpre 0 (by simp [Region.binds]))
        have g58 := hJ.told (3, 58) (by decide) (hpre 3 (by simp [Region.binds]))
        go_simp
        refine (tip_is X Y n0 n1 n2 W l0 l1 l2 h0 h1 h2 q0 q1 q2 x1 x2 x3 y1 y2 y3 u1 u2 u3 v1 v2 v3 a1 a2 a3 b1 b2 b3 _ (Tab.below TW.out hJ.bel) k0 k1 k2 V PP).mono ?_; rintro e w9 ⟨rfl, hb⟩
        exact hK _ _ (hJ.pure (i := 4) (q := 59) (by decide) (by decide) (by decide) (by simp) (by decide) hJ.bel.size (hb))
      · obtain rfl := Option.some.inj ho
        have g59 := hJ.told (4, 59) (by decide) (hpre 4 (by simp [Region.binds]))
        go_simp
        exact hK _ _ (hJ.pure (i := 5) (q := 54) (by decide) (by decide) (by decide) (by simp) (by decide) hJ.bel.size (Below.refl _ _))
      · obtain rfl := Option.some.inj ho
        have g54 := hJ.told (5, 54) (by decide) (hpre 5 (by simp [Region.binds]))
        go_simp
        exact hK _ _ (hJ.pure (i := 6) (q := 60) (by decide) (by decide) (by decide) (by simp) (by decide) hJ.bel.size (Below.refl _ _))
      · obtain rfl := Option.some.inj ho
        have g54 := hJ.told (5, 54) (by decide) (hpre 5 (by simp [Region.binds]))
        go_simp
        exact hK _ _ (hJ.pure (i := 7) (q := 61) (by decide) (by decide) (by decide) (by simp) (by decide) hJ.bel.size (Below.refl _ _))
      · obtain rfl := Option.some.inj ho
        go_simp
        exact hK _ _ (hJ.allocP hs (by decide) (by decide) (by simp) (by decide) hJ.bel.size)
      · obtain rfl := Option.some.inj ho
        go_simp
        exact hK _ _ (hJ.swap.allocP hs (by decide) (by decide) (by simp) (by decide) hJ.bel.size).swap
      · obtain rfl := Option.some.inj ho
        obtain ⟨b, hb, hnb, hh⟩ := hJ.fp (hpre 8 (by simp [Region.binds]))
        rw [if_neg (by rw [hs]; decide)] at hh
        have g60 := hJ.told (6, 60) (by decide) (hpre 6 (by simp [Region.binds]))
        exact wp_store_row 23 (.tmp 17) (.tmp 60) rfl b #[.int .i64 a3, .int .i64 b3] (eval_tmp hb) (eval_tmp g60) _ _ hh (by kernel_rfl) rfl (by kernel_rfl) (hK _ _ (hJ.storeP (by decide) (by decide) (hpre 8 (by simp [Region.binds])) hb hnb hh))
      · obtain rfl := Option.some.inj ho
        obtain ⟨b, hb, hnb, hh⟩ := hJ.fd (hpre 9 (by simp [Region.binds]))
        rw [if_neg (by rw [hs]; decide)] at hh
        have g61 := hJ.told (7, 61) (by decide) (hpre 7 (by simp [Region.binds]))
        exact wp_store_row 29 (.tmp 18) (.tmp 61) rfl b #[.int .i64 x3, .int .i64 y3, .int .i64 3] (eval_tmp hb) (eval_tmp g61) _ _ hh (by kernel_rfl) rfl (by kernel_rfl) (hK _ _ (hJ.swap.storeP (by decide) (by decide) (hpre 9 (by simp [Region.binds])) hb hnb hh).swap)
    · intro s T Wt hall hJ hfr
      have g55 := hJ.told (0, 55) (by decide) (hall 0 (by decide))
      have g56 := hJ.told (1, 56) (by decide) (hall 1 (by decide))
      have g57 := hJ.told (2, 57) (by decide) (hall 2 (by decide))
      have g58 := hJ.told (3, 58) (by decide) (hall 3 (by decide))
      have g59 := hJ.told (4, 59) (by decide) (hall 4 (by decide))
      have g54 := hJ.told (5, 54) (by decide) (hall 5 (by decide))
      have g60 := hJ.told (6, 60) (by decide) (hall 6 (by decide))
      have g61 := hJ.told (7, 61) (by decide) (hall 7 (by decide))
      obtain ⟨bp, g17, np, hp⟩ := hJ.fp (hall 8 (by decide))
      rw [if_pos (hall 10 (by decide))] at hp
      obtain ⟨bv, g18, nv, hv⟩ := hJ.fd (hall 9 (by decide))
      rw [if_pos (hall 11 (by decide))] at hv
      have hne := hJ.ne (hall 8 (by decide)) (hall 9 (by decide))
      rw [g17, g18] at hne
      have hT9 := conc [(55, .agg #[.int .i64 X, .int .i64 Y, .int .i64 n0, .int .i64 n1, .int .i64 n2, .int .i64 W, .int .i64 l0, .int .i64 l1, .int .i64 l2, .int .i64 h0, .int .i64 h1, .int .i64 h2]), (56, .agg #[.int .i64 X, .int .i64 Y, .int .i64 n0, .int .i64 n1, .int .i64 n2, .int .i64 W, .int .i64 l0, .int .i64 l1, .int .i64 l2, .int .i64 h0, .int .i64 h1, .int .i64 h2]), (57, .agg #[.int .u8 r0, .int .u8 r1, .int .u8 r2]), (58, .agg #[.int .i64 q0, .int .i64 q1, .int .i64 q2]), (59, .tuple #[.agg #[.int .i64 a3, .int .i64 b3], .agg #[.int .i64 x3, .int .i64 y3, .int .i64 3]]), (54, .tuple #[.agg #[.int .i64 a3, .int .i64 b3], .agg #[.int .i64 x3, .int .i64 y3, .int .i64 3]]), (60, .agg #[.int .i64 a3, .int .i64 b3]), (61, .agg #[.int .i64 x3, .int .i64 y3, .int .i64 3]), (17, .pointer (some ⟨bp, 0, none⟩)), (18, .pointer (some ⟨bv, 0, none⟩))] hJ.size hfr (by simp only [List.forall_mem_cons]; exact ⟨g55, g56, g57, g58, g59, g54, g60, g61, g17, g18, fun p hp => absurd hp List.not_mem_nil⟩) (by kernel_rfl)
      simp only [List.foldl, List.setIfInBounds_toArray, List.set_cons_succ, List.set_cons_zero] at hT9
      subst hT9
      have hb8 := hJ.bel
      clear hJ hall hfr g55 g56 g57 g58 g59 g54 g60 g61 g17 g18
      have Hp := Lib.hid hp
      have Hv := Lib.hid hv
      clear hp hv TW
      replace HA := Lib.hid (blk_call HA.out hb8)
      replace HE := Lib.hid (blk_call HE.out hb8)
      replace HF := Lib.hid (blk_call HF.out hb8)
      replace HR := Lib.hid (blk_call HR.out hb8)
      replace HQ := Lib.hid (blk_call HQ.out hb8)
      replace B := Lib.hid (belT B.out hb8)
      clear hb8
      go_upto_region 11 with fail
      have TW := Lib.hid (Tab.below TT.out B.out)
      have ALLC : ∀ w : World, Tab w → Calls Tryd.prog 15 #[.agg #[.int .i64 X, .int .i64 Y, .int .i64 n0, .int .i64 n1, .int .i64 n2, .int .i64 W, .int .i64 l0, .int .i64 l1, .int .i64 l2, .int .i64 h0, .int .i64 h1, .int .i64 h2], .agg #[.int .i64 a3, .int .i64 b3], .agg #[.int .i64 x3, .int .i64 y3, .int .i64 3]] w fun e w' => (∃ ao cap, e = .returned (.slice ao N cap) ∧ PRow3 w' ao L) ∧ Below w.heap.size w w' := fun w h => by have := all8_is X Y n0 n1 n2 W l0 l1 l2 h0 h1 h2 a3 b3 x3 y3 w h V; rw [HLL.out, HNL.out] at this; exact this
      obtain ⟨sp, hsp⟩ : ∃ sp : ToldS, sp = [none, none, none, none, none, none, none, none, none, none, none, none, none, none, none, none, none, none, none, some (eqS (.bool true)), none, none, none, none, none, none, none, none, none, none, none, none, none, none, none, none, none, none, none, none, none, none, none, none, none, none, none, none, none, none, none, none, none, none, none, none, none, none, none, none, none, none, some (eqS (.agg #[.int .i64 X, .int .i64 Y, .int .i64 n0, .int .i64 n1, .int .i64 n2, .int .i64 W, .int .i64 l0, .int .i64 l1, .int .i64 l2, .int .i64 h0, .int .i64 h1, .int .i64 h2])), some (eqS (.agg #[.int .i64 a3, .int .i64 b3])), some (eqS (.agg #[.int .i64 x3, .int .i64 y3, .int .i64 3])), some (rowN N L), some (eqS (.agg #[.int .i64 X, .int .i64 Y, .int .i64 n0, .int .i64 n1, .int .i64 n2, .int .i64 W, .int .i64 l0, .int .i64 l1, .int .i64 l2, .int .i64 h0, .int .i64 h1, .int .i64 h2])), some (eqS (.agg #[.int .i64 a3, .int .i64 b3])), some (eqS (.agg #[.int .i64 x3, .int .i64 y3, .int .i64 3])), some (rowN N L), some (eqS (.bool true))] := ⟨_, rfl⟩
      have s19 : sp.getD 19 none = some (eqS (.bool true)) := by rw [hsp]; rfl
      have s62 : sp.getD 62 none = some (eqS (.agg #[.int .i64 X, .int .i64 Y, .int .i64 n0, .int .i64 n1, .int .i64 n2, .int .i64 W, .int .i64 l0, .int .i64 l1, .int .i64 l2, .int .i64 h0, .int .i64 h1, .int .i64 h2])) := by rw [hsp]; rfl
      have s63 : sp.getD 63 none = some (eqS (.agg #[.int .i64 a3, .int .i64 b3])) := by rw [hsp]; rfl
      have s64 : sp.getD 64 none = some (eqS (.agg #[.int .i64 x3, .int .i64 y3, .int .i64 3])) := by rw [hsp]; rfl
      have s65 : sp.getD 65 none = some (rowN N L) := by rw [hsp]; rfl
      have s66 : sp.getD 66 none = some (eqS (.agg #[.int .i64 X, .int .i64 Y, .int .i64 n0, .int .i64 n1, .int .i64 n2, .int .i64 W, .int .i64 l0, .int .i64 l1, .int .i64 l2, .int .i64 h0, .int .i64 h1, .int .i64 h2])) := by rw [hsp]; rfl
      have s67 : sp.getD 67 none = some (eqS (.agg #[.int .i64 a3, .int .i64 b3])) := by rw [hsp]; rfl
      have s68 : sp.getD 68 none = some (eqS (.agg #[.int .i64 x3, .int .i64 y3, .int .i64 3])) := by rw [hsp]; rfl
      have s69 : sp.getD 69 none = some (rowN N L) := by rw [hsp]; rfl
      have s70 : sp.getD 70 none = some (eqS (.bool true)) := by rw [hsp]; rfl
      clear hsp
      refine (wpIn_wide (n := 0)).1 (region_allR (RtS sp) (rtS_keep sp) rfl rfl rfl (by kernel_rfl) (by kernel_rfl) (by kernel_rfl) ?_ ?_)
      · intro Q'
        refine obsR_cons ?_ ?_
        · intro T wx K hB hF hD hK
          have g6 : T[6]? = some (.pointer (some ⟨ba, 0, none⟩)) := hF 6 (freeM_of (by kernel_rfl))
          refine ob_yes (wanted_none rfl) ?_
          clear hF hD
          exact wp_load_row 27 (.tmp 6) rfl _ (eval_tmp g6) _ _ _ _ (blk_call HA.out hB) Tryd.underlying27 rfl (by kernel_rfl) (hK _ _ (Below.refl _ _) (rt_eqS s62))
        refine obsR_cons ?_ ?_
        · intro T wx K hB hF hD hK
          have g17 : T[17]? = some (.pointer (some ⟨bp, 0, none⟩)) := hF 17 (freeM_of (by kernel_rfl))
          refine ob_yes (wanted_none rfl) ?_
          clear hF hD
          exact wp_load_row 23 (.tmp 17) rfl _ (eval_tmp g17) _ _ _ _ (blk_call Hp.out hB) Tryd.underlying23 rfl (by kernel_rfl) (hK _ _ (Below.refl _ _) (rt_eqS s63))
        refine obsR_cons ?_ ?_
        · intro T wx K hB hF hD hK
          have g18 : T[18]? = some (.pointer (some ⟨bv, 0, none⟩)) := hF 18 (freeM_of (by kernel_rfl))
          refine ob_yes (wanted_none rfl) ?_
          clear hF hD
          exact wp_load_row 29 (.tmp 18) rfl _ (eval_tmp g18) _ _ _ _ (blk_call Hv.out hB) Tryd.underlying29 rfl (by kernel_rfl) (hK _ _ (Below.refl _ _) (rt_eqS s64))
        refine obsR_cons ?_ ?_
        · intro T wx K hB hF hD hK
          have g62 := get_eqS (hD 0 62 (by simp [Region.binds]) (by kernel_rfl)) s62
          have g63 := get_eqS (hD 1 63 (by simp [Region.binds]) (by kernel_rfl)) s63
          have g64 := get_eqS (hD 2 64 (by simp [Region.binds]) (by kernel_rfl)) s64
          refine ob_yes (wanted_none rfl) ?_
          clear hF hD
          go_simp
          refine (solve_any X Y n0 n1 n2 W l0 l1 l2 h0 h1 h2 a3 b3 x3 y3 _ (TW.out.below hB) V D3 (Lib.hid (show (-1000000000 ≤ a3 ∧ a3 ≤ 1000000000) ∧ -1000000000 ≤ b3 ∧ b3 ≤ 1000000000 by have := PB.out; omega)) L N HLL HNL).mono ?_; rintro e w9 ⟨⟨ao, cp, rfl, hp⟩, hb⟩
          exact hK _ _ hb (rt_S s65 ⟨_, _, rfl, hp⟩)
        refine obsR_cons ?_ ?_
        · intro T wx K hB hF hD hK
          have g6 : T[6]? = some (.pointer (some ⟨ba, 0, none⟩)) := hF 6 (freeM_of (by kernel_rfl))
          refine ob_yes (wanted_none rfl) ?_
          clear hF hD
          exact wp_load_row 27 (.tmp 6) rfl _ (eval_tmp g6) _ _ _ _ (blk_call HA.out hB) Tryd.underlying27 rfl (by kernel_rfl) (hK _ _ (Below.refl _ _) (rt_eqS s66))
        refine obsR_cons ?_ ?_
        · intro T wx K hB hF hD hK
          have g17 : T[17]? = some (.pointer (some ⟨bp, 0, none⟩)) := hF 17 (freeM_of (by kernel_rfl))
          refine ob_yes (wanted_none rfl) ?_
          clear hF hD
          exact wp_load_row 23 (.tmp 17) rfl _ (eval_tmp g17) _ _ _ _ (blk_call Hp.out hB) Tryd.underlying23 rfl (by kernel_rfl) (hK _ _ (Below.refl _ _) (rt_eqS s67))
        refine obsR_cons ?_ ?_
        · intro T wx K hB hF hD hK
          have g18 : T[18]? = some (.pointer (some ⟨bv, 0, none⟩)) := hF 18 (freeM_of (by kernel_rfl))
          refine ob_yes (wanted_none rfl) ?_
          clear hF hD
          exact wp_load_row 29 (.tmp 18) rfl _ (eval_tmp g18) _ _ _ _ (blk_call Hv.out hB) Tryd.underlying29 rfl (by kernel_rfl) (hK _ _ (Below.refl _ _) (rt_eqS s68))
        refine obsR_cons ?_ ?_
        · intro T wx K hB hF hD hK
          have g66 := get_eqS (hD 4 66 (by simp [Region.binds]) (by kernel_rfl)) s66
          have g67 := get_eqS (hD 5 67 (by simp [Region.binds]) (by kernel_rfl)) s67
          have g68 := get_eqS (hD 6 68 (by simp [Region.binds]) (by kernel_rfl)) s68
          refine ob_yes (wanted_none rfl) ?_
          clear hF hD
          go_simp
          refine (ALLC _ (TW.out.below hB)).mono ?_; rintro e w9 ⟨⟨ao, cp, rfl, hp⟩, hb⟩
          exact hK _ _ hb (rt_S s69 ⟨_, _, rfl, hp⟩)
        refine obsR_cons ?_ ?_
        · intro T wx K hB hF hD hK
          obtain ⟨v65, g65, p65⟩ := getS (hD 3 65 (by simp [Region.binds]) (by kernel_rfl)) s65
          obtain ⟨v69, g69, p69⟩ := getS (hD 7 69 (by simp [Region.binds]) (by kernel_rfl)) s69
          refine ob_yes (wanted_none rfl) ?_
          clear hF hD
          obtain ⟨aoa, ca, rfl, hpa⟩ := p65
          obtain ⟨aob, cb, rfl, hpb⟩ := p69
          go_simp
          refine (same3_is aoa aob N N ca cb L L true _ HNL.out HNL.out (Lib.hid (by simp)) (by have := LBL.out; omega) (by have := LBL.out; omega) hpa hpb).mono ?_; rintro e w9 ⟨rfl, hb⟩
          exact hK _ _ hb (rt_eqS s70)
        refine obsR_cons ?_ ?_
        · intro T wx K hB hF hD hK
          have g70 := get_eqS (hD 8 70 (by simp [Region.binds]) (by kernel_rfl)) s70
          refine ob_yes (wanted_none rfl) ?_
          clear hF hD
          go_simp
          exact hK _ _ (Below.refl _ _) (rt_eqS s19)
        exact obsR_nil
      · intro Tu Wu hb8 hF hs hD
        have g62 := get_eqS (hD 0 62 (by decide) (by kernel_rfl)) s62
        have g63 := get_eqS (hD 1 63 (by decide) (by kernel_rfl)) s63
        have g64 := get_eqS (hD 2 64 (by decide) (by kernel_rfl)) s64
        obtain ⟨v65, g65, p65⟩ := getS (hD 3 65 (by decide) (by kernel_rfl)) s65
        have g66 := get_eqS (hD 4 66 (by decide) (by kernel_rfl)) s66
        have g67 := get_eqS (hD 5 67 (by decide) (by kernel_rfl)) s67
        have g68 := get_eqS (hD 6 68 (by decide) (by kernel_rfl)) s68
        obtain ⟨v69, g69, p69⟩ := getS (hD 7 69 (by decide) (by kernel_rfl)) s69
        have g70 := get_eqS (hD 8 70 (by decide) (by kernel_rfl)) s70
        have g19 := get_eqS (hD 9 19 (by decide) (by kernel_rfl)) s19
        have hT9 := conc [(62, .agg #[.int .i64 X, .int .i64 Y, .int .i64 n0, .int .i64 n1, .int .i64 n2, .int .i64 W, .int .i64 l0, .int .i64 l1, .int .i64 l2, .int .i64 h0, .int .i64 h1, .int .i64 h2]), (63, .agg #[.int .i64 a3, .int .i64 b3]), (64, .agg #[.int .i64 x3, .int .i64 y3, .int .i64 3]), (65, v65), (66, .agg #[.int .i64 X, .int .i64 Y, .int .i64 n0, .int .i64 n1, .int .i64 n2, .int .i64 W, .int .i64 l0, .int .i64 l1, .int .i64 l2, .int .i64 h0, .int .i64 h1, .int .i64 h2]), (67, .agg #[.int .i64 a3, .int .i64 b3]), (68, .agg #[.int .i64 x3, .int .i64 y3, .int .i64 3]), (69, v69), (70, .bool true), (19, .bool true)] hs hF (by simp only [List.forall_mem_cons]; exact ⟨g62, g63, g64, g65, g66, g67, g68, g69, g70, g19, fun p hp => absurd hp List.not_mem_nil⟩) (by kernel_rfl)
        simp only [List.foldl, List.setIfInBounds_toArray, List.set_cons_succ, List.set_cons_zero] at hT9
        subst hT9
        clear hF hD hs g62 g63 g64 g65 g66 g67 g68 g69 g70 g19 s19 s62 s63 s64 s65 s66 s67 s68 s69 s70
        clear TW ALLC
        replace HA := Lib.hid (blk_call HA.out hb8)
        replace HE := Lib.hid (blk_call HE.out hb8)
        replace HF := Lib.hid (blk_call HF.out hb8)
        replace HR := Lib.hid (blk_call HR.out hb8)
        replace HQ := Lib.hid (blk_call HQ.out hb8)
        replace Hp := Lib.hid (blk_call Hp.out hb8)
        replace Hv := Lib.hid (blk_call Hv.out hb8)
        replace B := Lib.hid (belT B.out hb8)
        clear hb8
        obtain ⟨sq, hsq⟩ : ∃ s, smB (u, v, t) = s := ⟨_, rfl⟩
        have SQ := Lib.hid hsq
        clear hsq
        have q_0 := blk_cell HQ.out 0 _ rfl
        have q_1 := blk_cell HQ.out 1 _ rfl
        have q_2 := blk_cell HQ.out 2 _ rfl
        go_upto_region 13 with (go_at_call 18; refine (small_is u v t sq _ SQ).mono ?_; rintro e Wv ⟨rfl, hb⟩)
        clear q_0 q_1 q_2
        replace HA := Lib.hid (blk_call HA.out hb)
        replace HE := Lib.hid (blk_call HE.out hb)
        replace HF := Lib.hid (blk_call HF.out hb)
        replace HR := Lib.hid (blk_call HR.out hb)
        replace HQ := Lib.hid (blk_call HQ.out hb)
        replace Hp := Lib.hid (blk_call Hp.out hb)
        replace Hv := Lib.hid (blk_call Hv.out hb)
        replace B := Lib.hid (belT B.out hb)
        clear hb
        go_wp2_with fail
        go_loopw [21, 20] (fun i s20 wr => ∃ (j : Nat) (s : Bool), j ≤ l.length ∧ i = .int .i64 j ∧ s20 = .bool s ∧ Hid ((sq && (l.take j).all smB) = s) ∧ Hid (Below Wv.heap.size Wv wr)) (fun i _ _ => l.length - (intOf i).toNat)
        case atStart => exact ⟨0, sq, Nat.zero_le _, rfl, rfl, Lib.hid (by simp), Lib.hid (Below.refl _ _)⟩
        case round =>
          obtain ⟨j, s, hj, rfl, rfl, HS, HB⟩ := hrel
          have B0 := B
          clear B
          have B := Lib.hid (belT B0.out HB.out)
          by_cases hlt : j < l.length
          · obtain ⟨b', o', rfl, c1, c2, c3⟩ := prow3_below HRW.out B.out j hlt
            have hji : (j : Int) < l.length := by omega
            have TA := Lib.hid (take_all hlt)
            generalize l.getD j j0 = eq at *
            obtain ⟨x, y, z⟩ := eq
            obtain ⟨s', hs'⟩ : ∃ s, smB (x, y, z) = s := ⟨_, rfl⟩
            have S2 := Lib.hid hs'
            have HS2 : Hid ((sq && (l.take (j + 1)).all smB) = (s && s')) := Lib.hid (by rw [TA.out, ← HS.out, hs', Bool.and_assoc])
            clear hs' TA
            cases s
            all_goals cases s'
            all_goals
              go_wp2_with (go_at_call 18; refine (small_is x y z _ _ S2).mono ?_; rintro e Wx ⟨rfl, hb⟩)
              exact ⟨⟨j + 1, _, by omega, by go_num, rfl, HS2, Lib.hid (belT HB.out hb)⟩, by simp [intOf]; omega⟩
          · obtain rfl : j = l.length := by omega
            have HS3 := HS.out
            rw [List.take_length] at HS3
            have HS4 := Lib.hid HS3
            clear HS HS3
            cases s
            · go_wp2_with fail
              go_ret
              exact ⟨rfl, B.out⟩
            have HQr := Lib.hid (blk_call HQ.out HB.out)
            have HAL : Hid (∀ x ∈ l, B1000 x) := Lib.hid (all_b (by have := HS4.out; simp only [Bool.and_eq_true] at this; exact this.2))
            have HQB : B1000 (u, v, t) := b1000_of (by rw [SQ.out]; have := HS4.out; simp only [Bool.and_eq_true] at this; exact this.1)
            obtain ⟨e0, e1, e2, he⟩ : ∃ a b c, nearL (u, v, t) l = (a, b, c) := ⟨_, _, _, rfl⟩
            have HE' := Lib.hid he
            clear he
            have RW1 := Lib.hid (prow3_below HRW.out B.out)
            have q_0 := blk_cell HQr.out 0 _ rfl
            have q_1 := blk_cell HQr.out 1 _ rfl
            have q_2 := blk_cell HQr.out 2 _ rfl
            go_upto_region 21 with (go_at_call 19; refine (nearest_is lo l.length lc l u v t e0 e1 e2 _ rfl (by omega) HLC.out.1 HLC.out.2 RW1.out HAL HQB HE').mono ?_; rintro e Wy ⟨rfl, hb⟩)
            clear q_0 q_1 q_2
            have HQ2 := Lib.hid (blk_alloc (blk_call HQr.out hb) (.cells #[.int .i64 e0, .int .i64 e1, .int .i64 e2] 25))
            have H23 := Lib.hid (blk_new Wy (.cells #[.int .i64 e0, .int .i64 e1, .int .i64 e2] 25) _ rfl)
            have RW2 := Lib.hid (prow3_alloc (prow3_below RW1.out hb) (.cells #[.int .i64 e0, .int .i64 e1, .int .i64 e2] 25))
            have B2 := Lib.hid (belA (belT B.out hb) (.cells #[.int .i64 e0, .int .i64 e1, .int .i64 e2] 25))
            obtain ⟨b23, eb23⟩ : ∃ x, Wy.heap.size = x := ⟨_, rfl⟩
            rw [eb23] at H23 ⊢
            clear eb23 hb
            generalize Wy.alloc (.cells #[.int .i64 e0, .int .i64 e1, .int .i64 e2] 25) = Wz at *
            have q_0 := blk_cell HQ2.out 0 _ rfl
            have q_1 := blk_cell HQ2.out 1 _ rfl
            have q_2 := blk_cell HQ2.out 2 _ rfl
            go_upto_region 22 with (go_at_call 20; refine (near8_is lo l.length lc l u v t e0 e1 e2 _ rfl (by omega) RW2.out HAL HQB HE').mono ?_; rintro e Wa ⟨rfl, hb⟩)
            have H23b := Lib.hid (blk_alloc (blk_call H23.out hb) (.cells #[.int .i64 e0, .int .i64 e1, .int .i64 e2] 25))
            have H25 := Lib.hid (blk_new Wa (.cells #[.int .i64 e0, .int .i64 e1, .int .i64 e2] 25) _ rfl)
            have B3 := Lib.hid (belA (belT B2.out hb) (.cells #[.int .i64 e0, .int .i64 e1, .int .i64 e2] 25))
            obtain ⟨b25, eb25⟩ : ∃ x, Wa.heap.size = x := ⟨_, rfl⟩
            rw [eb25] at H25 ⊢
            clear eb25 hb q_0 q_1 q_2
            generalize Wa.alloc (.cells #[.int .i64 e0, .int .i64 e1, .int .i64 e2] 25) = Wb at *
            have x_0 := blk_cell H23b.out 0 _ rfl
            have x_1 := blk_cell H23b.out 1 _ rfl
            have x_2 := blk_cell H23b.out 2 _ rfl
            have y_0 := blk_cell H25.out 0 _ rfl
            have y_1 := blk_cell H25.out 1 _ rfl
            have y_2 := blk_cell H25.out 2 _ rfl
            have EQ := eqlJ e0 e1 e2 e0 e1 e2 true (Lib.hid (by simp))
            obtain ⟨ie, hie⟩ : ∃ s, l.isEmpty = s := ⟨_, rfl⟩
            cases ie
            all_goals
              go_wp2_with fail
              go_ret
              exact ⟨rfl, B3.out⟩
  · skip
    have MM := of_decide_eq_true HM.out
    obtain ⟨MP, MD, MN⟩ := MM
    subst MN
    have TD := Lib.hid MD
    have TP := Lib.hid MP
    clear MP MD HM
    obtain ⟨L1, hL1⟩ : ∃ L1, solL X Y n0 n1 n2 l0 l1 l2 h0 h1 h2 tx ty ex ey = L1 := ⟨_, rfl⟩
    obtain ⟨N1, hN1⟩ : ∃ N, L1.length = N := ⟨_, rfl⟩
    have LBL1 := Lib.hid (show L1.length ≤ 36 by rw [← hL1]; exact solL_36 (by have := VR.out; omega) (by have := VR.out; omega) (by have := VR.out; omega) (by have := VR.out; omega))
    have HLL1 := Lib.hid hL1
    have HNL1 := Lib.hid hN1
    clear hL1 hN1
    go_upto_region 7 with fail
    have TW := Lib.hid (Tab.below TT.out B.out)
    have ALLC : ∀ w : World, Tab w → Calls Tryd.prog 15 #[.agg #[.int .i64 X, .int .i64 Y, .int .i64 n0, .int .i64 n1, .int .i64 n2, .int .i64 W, .int .i64 l0, .int .i64 l1, .int .i64 l2, .int .i64 h0, .int .i64 h1, .int .i64 h2], .agg #[.int .i64 tx, .int .i64 ty], .agg #[.int .i64 ex, .int .i64 ey, .int .i64 3]] w fun e w' => (∃ ao cap, e = .returned (.slice ao N1 cap) ∧ PRow3 w' ao L1) ∧ Below w.heap.size w w' := fun w h => by have := all8_is X Y n0 n1 n2 W l0 l1 l2 h0 h1 h2 tx ty ex ey w h V; rw [HLL1.out, HNL1.out] at this; exact this
    obtain ⟨sp, hsp⟩ : ∃ sp : ToldS, sp = [none, none, none, none, none, none, none, none, none, none, none, none, none, none, none, none, some (eqS (.bool true)), none, none, none, none, none, none, none, none, none, none, none, none, none, none, none, none, none, none, none, none, none, none, none, none, none, none, some (eqS (.agg #[.int .i64 X, .int .i64 Y, .int .i64 n0, .int .i64 n1, .int .i64 n2, .int .i64 W, .int .i64 l0, .int .i64 l1, .int .i64 l2, .int .i64 h0, .int .i64 h1, .int .i64 h2])), some (eqS (.agg #[.int .i64 tx, .int .i64 ty])), some (eqS (.agg #[.int .i64 ex, .int .i64 ey, .int .i64 3])), some (rowN N1 L1), some (eqS (.agg #[.int .i64 X, .int .i64 Y, .int .i64 n0, .int .i64 n1, .int .i64 n2, .int .i64 W, .int .i64 l0, .int .i64 l1, .int .i64 l2, .int .i64 h0, .int .i64 h1, .int .i64 h2])), some (eqS (.agg #[.int .i64 tx, .int .i64 ty])), some (eqS (.agg #[.int .i64 ex, .int .i64 ey, .int .i64 3])), some (rowN N1 L1), some (eqS (.bool true))] := ⟨_, rfl⟩
    have s16 : sp.getD 16 none = some (eqS (.bool true)) := by rw [hsp]; rfl
    have s43 : sp.getD 43 none = some (eqS (.agg #[.int .i64 X, .int .i64 Y, .int .i64 n0, .int .i64 n1, .int .i64 n2, .int .i64 W, .int .i64 l0, .int .i64 l1, .int .i64 l2, .int .i64 h0, .int .i64 h1, .int .i64 h2])) := by rw [hsp]; rfl
    have s44 : sp.getD 44 none = some (eqS (.agg #[.int .i64 tx, .int .i64 ty])) := by rw [hsp]; rfl
    have s45 : sp.getD 45 none = some (eqS (.agg #[.int .i64 ex, .int .i64 ey, .int .i64 3])) := by rw [hsp]; rfl
    have s46 : sp.getD 46 none = some (rowN N1 L1) := by rw [hsp]; rfl
    have s47 : sp.getD 47 none = some (eqS (.agg #[.int .i64 X, .int .i64 Y, .int .i64 n0, .int .i64 n1, .int .i64 n2, .int .i64 W, .int .i64 l0, .int .i64 l1, .int .i64 l2, .int .i64 h0, .int .i64 h1, .int .i64 h2])) := by rw [hsp]; rfl
    have s48 : sp.getD 48 none = some (eqS (.agg #[.int .i64 tx, .int .i64 ty])) := by rw [hsp]; rfl
    have s49 : sp.getD 49 none = some (eqS (.agg #[.int .i64 ex, .int .i64 ey, .int .i64 3])) := by rw [hsp]; rfl
    have s50 : sp.getD 50 none = some (rowN N1 L1) := by rw [hsp]; rfl
    have s51 : sp.getD 51 none = some (eqS (.bool true)) := by rw [hsp]; rfl
    clear hsp
    refine (wpIn_wide (n := 0)).1 (region_allR (RtS sp) (rtS_keep sp) rfl rfl rfl (by kernel_rfl) (by kernel_rfl) (by kernel_rfl) ?_ ?_)
    · intro Q'
      refine obsR_cons ?_ ?_
      · intro T wx K hB hF hD hK
        have g6 : T[6]? = some (.pointer (some ⟨ba, 0, none⟩)) := hF 6 (freeM_of (by kernel_rfl))
        refine ob_yes (wanted_none rfl) ?_
        clear hF hD
        exact wp_load_row 27 (.tmp 6) rfl _ (eval_tmp g6) _ _ _ _ (blk_call HA.out hB) Tryd.underlying27 rfl (by kernel_rfl) (hK _ _ (Below.refl _ _) (rt_eqS s43))
      refine obsR_cons ?_ ?_
      · intro T wx K hB hF hD hK
        have g7 : T[7]? = some (.pointer (some ⟨be, 0, none⟩)) := hF 7 (freeM_of (by kernel_rfl))
        refine ob_yes (wanted_none rfl) ?_
        clear hF hD
        exact wp_load_row 23 (.tmp 7) rfl _ (eval_tmp g7) _ _ _ _ (blk_call HE.out hB) Tryd.underlying23 rfl (by kernel_rfl) (hK _ _ (Below.refl _ _) (rt_eqS s44))
      refine obsR_cons ?_ ?_
      · intro T wx K hB hF hD hK
        have g8 : T[8]? = some (.pointer (some ⟨bf, 0, none⟩)) := hF 8 (freeM_of (by kernel_rfl))
        refine ob_yes (wanted_none rfl) ?_
        clear hF hD
        exact wp_load_row 29 (.tmp 8) rfl _ (eval_tmp g8) _ _ _ _ (blk_call HF.out hB) Tryd.underlying29 rfl (by kernel_rfl) (hK _ _ (Below.refl _ _) (rt_eqS s45))
      refine obsR_cons ?_ ?_
      · intro T wx K hB hF hD hK
        have g43 := get_eqS (hD 0 43 (by simp [Region.binds]) (by kernel_rfl)) s43
        have g44 := get_eqS (hD 1 44 (by simp [Region.binds]) (by kernel_rfl)) s44
        have g45 := get_eqS (hD 2 45 (by simp [Region.binds]) (by kernel_rfl)) s45
        refine ob_yes (wanted_none rfl) ?_
        clear hF hD
        go_simp
        refine (solve_any X Y n0 n1 n2 W l0 l1 l2 h0 h1 h2 tx ty ex ey _ (TW.out.below hB) V TD (Lib.hid (show (-1000000000 ≤ tx ∧ tx ≤ 1000000000) ∧ -1000000000 ≤ ty ∧ ty ≤ 1000000000 by have := TP.out; omega)) L1 N1 HLL1 HNL1).mono ?_; rintro e w9 ⟨⟨ao, cp, rfl, hp⟩, hb⟩
        exact hK _ _ hb (rt_S s46 ⟨_, _, rfl, hp⟩)
      refine obsR_cons ?_ ?_
      · intro T wx K hB hF hD hK
        have g6 : T[6]? = some (.pointer (some ⟨ba, 0, none⟩)) := hF 6 (freeM_of (by kernel_rfl))
        refine ob_yes (wanted_none rfl) ?_
        clear hF hD
        exact wp_load_row 27 (.tmp 6) rfl _ (eval_tmp g6) _ _ _ _ (blk_call HA.out hB) Tryd.underlying27 rfl (by kernel_rfl) (hK _ _ (Below.refl _ _) (rt_eqS s47))
      refine obsR_cons ?_ ?_
      · intro T wx K hB hF hD hK
        have g7 : T[7]? = some (.pointer (some ⟨be, 0, none⟩)) := hF 7 (freeM_of (by kernel_rfl))
        refine ob_yes (wanted_none rfl) ?_
        clear hF hD
        exact wp_load_row 23 (.tmp 7) rfl _ (eval_tmp g7) _ _ _ _ (blk_call HE.out hB) Tryd.underlying23 rfl (by kernel_rfl) (hK _ _ (Below.refl _ _) (rt_eqS s48))
      refine obsR_cons ?_ ?_
      · intro T wx K hB hF hD hK
        have g8 : T[8]? = some (.pointer (some ⟨bf, 0, none⟩)) := hF 8 (freeM_of (by kernel_rfl))
        refine ob_yes (wanted_none rfl) ?_
        clear hF hD
        exact wp_load_row 29 (.tmp 8) rfl _ (eval_tmp g8) _ _ _ _ (blk_call HF.out hB) Tryd.underlying29 rfl (by kernel_rfl) (hK _ _ (Below.refl _ _) (rt_eqS s49))
      refine obsR_cons ?_ ?_
      · intro T wx K hB hF hD hK
        have g47 := get_eqS (hD 4 47 (by simp [Region.binds]) (by kernel_rfl)) s47
        have g48 := get_eqS (hD 5 48 (by simp [Region.binds]) (by kernel_rfl)) s48
        have g49 := get_eqS (hD 6 49 (by simp [Region.binds]) (by kernel_rfl)) s49
        refine ob_yes (wanted_none rfl) ?_
        clear hF hD
        go_simp
        refine (ALLC _ (TW.out.below hB)).mono ?_; rintro e w9 ⟨⟨ao, cp, rfl, hp⟩, hb⟩
        exact hK _ _ hb (rt_S s50 ⟨_, _, rfl, hp⟩)
      refine obsR_cons ?_ ?_
      · intro T wx K hB hF hD hK
        obtain ⟨v46, g46, p46⟩ := getS (hD 3 46 (by simp [Region.binds]) (by kernel_rfl)) s46
        obtain ⟨v50, g50, p50⟩ := getS (hD 7 50 (by simp [Region.binds]) (by kernel_rfl)) s50
        refine ob_yes (wanted_none rfl) ?_
        clear hF hD
        obtain ⟨aoa, ca, rfl, hpa⟩ := p46
        obtain ⟨aob, cb, rfl, hpb⟩ := p50
        go_simp
        refine (same3_is aoa aob N1 N1 ca cb L1 L1 true _ HNL1.out HNL1.out (Lib.hid (by simp)) (by have := LBL1.out; omega) (by have := LBL1.out; omega) hpa hpb).mono ?_; rintro e w9 ⟨rfl, hb⟩
        exact hK _ _ hb (rt_eqS s51)
      refine obsR_cons ?_ ?_
      · intro T wx K hB hF hD hK
        have g51 := get_eqS (hD 8 51 (by simp [Region.binds]) (by kernel_rfl)) s51
        refine ob_yes (wanted_none rfl) ?_
        clear hF hD
        go_simp
        exact hK _ _ (Below.refl _ _) (rt_eqS s16)
      exact obsR_nil
    · intro To Wo hb8 hF hs hD
      have g43 := get_eqS (hD 0 43 (by decide) (by kernel_rfl)) s43
      have g44 := get_eqS (hD 1 44 (by decide) (by kernel_rfl)) s44
      have g45 := get_eqS (hD 2 45 (by decide) (by kernel_rfl)) s45
      obtain ⟨v46, g46, p46⟩ := getS (hD 3 46 (by decide) (by kernel_rfl)) s46
      have g47 := get_eqS (hD 4 47 (by decide) (by kernel_rfl)) s47
      have g48 := get_eqS (hD 5 48 (by decide) (by kernel_rfl)) s48
      have g49 := get_eqS (hD 6 49 (by decide) (by kernel_rfl)) s49
      obtain ⟨v50, g50, p50⟩ := getS (hD 7 50 (by decide) (by kernel_rfl)) s50
      have g51 := get_eqS (hD 8 51 (by decide) (by kernel_rfl)) s51
      have g16 := get_eqS (hD 9 16 (by decide) (by kernel_rfl)) s16
      have hT9 := conc [(43, .agg #[.int .i64 X, .int .i64 Y, .int .i64 n0, .int .i64 n1, .int .i64 n2, .int .i64 W, .int .i64 l0, .int .i64 l1, .int .i64 l2, .int .i64 h0, .int .i64 h1, .int .i64 h2]), (44, .agg #[.int .i64 tx, .int .i64 ty]), (45, .agg #[.int .i64 ex, .int .i64 ey, .int .i64 3]), (46, v46), (47, .agg #[.int .i64 X, .int .i64 Y, .int .i64 n0, .int .i64 n1, .int .i64 n2, .int .i64 W, .int .i64 l0, .int .i64 l1, .int .i64 l2, .int .i64 h0, .int .i64 h1, .int .i64 h2]), (48, .agg #[.int .i64 tx, .int .i64 ty]), (49, .agg #[.int .i64 ex, .int .i64 ey, .int .i64 3]), (50, v50), (51, .bool true), (16, .bool true)] hs hF (by simp only [List.forall_mem_cons]; exact ⟨g43, g44, g45, g46, g47, g48, g49, g50, g51, g16, fun p hp => absurd hp List.not_mem_nil⟩) (by kernel_rfl)
      simp only [List.foldl, List.setIfInBounds_toArray, List.set_cons_succ, List.set_cons_zero] at hT9
      subst hT9
      clear hF hD hs g43 g44 g45 g46 g47 g48 g49 g50 g51 g16 s16 s43 s44 s45 s46 s47 s48 s49 s50 s51
      clear TW ALLC
      replace HA := Lib.hid (blk_call HA.out hb8)
      replace HE := Lib.hid (blk_call HE.out hb8)
      replace HF := Lib.hid (blk_call HF.out hb8)
      replace HR := Lib.hid (blk_call HR.out hb8)
      replace HQ := Lib.hid (blk_call HQ.out hb8)
      replace B := Lib.hid (belT B.out hb8)
      clear hb8
      go_upto_region 10 with fail
      have TW := Lib.hid (Tab.below TT.out B.out)
      have HLL := HL
      have HNL := HN
      have LBL := LB
      clear HL HN LB
      refine (wpIn_wide (n := 0)).1 (region_tip [55, 56, 57, 58, 59, 54, 60, 61, 17, 18] [(0, 55), (1, 56), (2, 57), (3, 58), (4, 59), (5, 54), (6, 60), (7, 61)] (fun t => match t with | 55 => .agg #[.int .i64 X, .int .i64 Y, .int .i64 n0, .int .i64 n1, .int .i64 n2, .int .i64 W, .int .i64 l0, .int .i64 l1, .int .i64 l2, .int .i64 h0, .int .i64 h1, .int .i64 h2] | 56 => .agg #[.int .i64 X, .int .i64 Y, .int .i64 n0, .int .i64 n1, .int .i64 n2, .int .i64 W, .int .i64 l0, .int .i64 l1, .int .i64 l2, .int .i64 h0, .int .i64 h1, .int .i64 h2] | 57 => .agg #[.int .u8 r0, .int .u8 r1, .int .u8 r2] | 58 => .agg #[.int .i64 q0, .int .i64 q1, .int .i64 q2] | 59 => .tuple #[.agg #[.int .i64 a3, .int .i64 b3], .agg #[.int .i64 x3, .int .i64 y3, .int .i64 3]] | 54 => .tuple #[.agg #[.int .i64 a3, .int .i64 b3], .agg #[.int .i64 x3, .int .i64 y3, .int .i64 3]] | 60 => .agg #[.int .i64 a3, .int .i64 b3] | 61 => .agg #[.int .i64 x3, .int .i64 y3, .int .i64 3] | _ => undef) 17 18 8 9 10 11 #[.int .i64 0, .int .i64 0] #[.int .i64 a3, .int .i64 b3] #[.int .i64 0, .int .i64 0, .int .i64 0] #[.int .i64 x3, .int .i64 y3, .int .i64 3] 23 29 rfl rfl rfl (by kernel_rfl) (by kernel_rfl) (by kernel_rfl) (by kernel_rfl) (by kernel_rfl) ?_ ?_)
      · intro s T w i o K ho hs hpre hJ hK
        have hi := (Array.getElem?_eq_some_iff.1 ho).1
        have hi' : i = 0 ∨ i = 1 ∨ i = 2 ∨ i = 3 ∨ i = 4 ∨ i = 5 ∨ i = 6 ∨ i = 7 ∨ i = 8 ∨ i = 9 ∨ i = 10 ∨ i = 11 := by simp at hi; omega
        clear hi
        rcases hi' with rfl | rfl | rfl | rfl | rfl | rfl | rfl | rfl | rfl | rfl | rfl | rfl
        · obtain rfl := Option.some.inj ho
          have g : T[6]? = some (.pointer (some ⟨ba, 0, none⟩)) := hJ.frame 6 (by decide)
          exact wp_load_row 27 (.tmp 6) rfl _ (eval_tmp g) _ _ _ _ (blk_call HA.out hJ.bel) Tryd.underlying27 rfl (by kernel_rfl) (hK _ _ (hJ.pure (i := 0) (q := 55) (by decide) (by decide) (by decide) (by simp) (by decide) hJ.bel.size (Below.refl _ _)))
        · obtain rfl := Option.some.inj ho
          have g : T[6]? = some (.pointer (some ⟨ba, 0, none⟩)) := hJ.frame 6 (by decide)
          exact wp_load_row 27 (.tmp 6) rfl _ (eval_tmp g) _ _ _ _ (blk_call HA.out hJ.bel) Tryd.underlying27 rfl (by kernel_rfl) (hK _ _ (hJ.pure (i := 1) (q := 56) (by decide) (by decide) (by decide) (by simp) (by decide) hJ.bel.size (Below.refl _ _)))
        · obtain rfl := Option.some.inj ho
          have g : T[9]? = some (.pointer (some ⟨br, 0, none⟩)) := hJ.frame 9 (by decide)
          exact wp_load_row 30 (.tmp 9) rfl _ (eval_tmp g) _ _ _ _ (blk_call HR.out hJ.bel) Tryd.underlying30 rfl (by kernel_rfl) (hK _ _ (hJ.pure (i := 2) (q := 57) (by decide) (by decide) (by decide) (by simp) (by decide) hJ.bel.size (Below.refl _ _)))
        · obtain rfl := Option.some.inj ho
          have g56 := hJ.told (1, 56) (by decide) (hpre 1 (by simp [Region.binds]))
          have g57 := hJ.told (2, 57) (by decide) (hpre 2 (by simp [Region.binds]))
          go_simp
          refine (JQ.out _).mono ?_; rintro e w9 ⟨rfl, hb⟩
          exact hK _ _ (hJ.pure (i := 3) (q := 58) (by decide) (by decide) (by decide) (by simp) (by decide) hJ.bel.size (hb))
        · obtain rfl := Option.some.inj ho
          have g55 := hJ.told (0, 55) (by decide) (hpre 0 (by simp [Region.binds]))
          have g58 := hJ.told (3, 58) (by decide) (hpre 3 (by simp [Region.binds]))
          go_simp
          refine (tip_is X Y n0 n1 n2 W l0 l1 l2 h0 h1 h2 q0 q1 q2 x1 x2 x3 y1 y2 y3 u1 u2 u3 v1 v2 v3 a1 a2 a3 b1 b2 b3 _ (Tab.below TW.out hJ.bel) k0 k1 k2 V PP).mono ?_; rintro e w9 ⟨rfl, hb⟩
          exact hK _ _ (hJ.pure (i := 4) (q := 59) (by decide) (by decide) (by decide) (by simp) (by decide) hJ.bel.size (hb))
        · obtain rfl := Option.some.inj ho
          have g59 := hJ.told (4, 59) (by decide) (hpre 4 (by simp [Region.binds]))
          go_simp
          exact hK _ _ (hJ.pure (i := 5) (q := 54) (by decide) (by decide) (by decide) (by simp) (by decide) hJ.bel.size (Below.refl _ _))
        · obtain rfl := Option.some.inj ho
          have g54 := hJ.told (5, 54) (by decide) (hpre 5 (by simp [Region.binds]))
          go_simp
          exact hK _ _ (hJ.pure (i := 6) (q := 60) (by decide) (by decide) (by decide) (by simp) (by decide) hJ.bel.size (Below.refl _ _))
        · obtain rfl := Option.some.inj ho
          have g54 := hJ.told (5, 54) (by decide) (hpre 5 (by simp [Region.binds]))
          go_simp
          exact hK _ _ (hJ.pure (i := 7) (q := 61) (by decide) (by decide) (by decide) (by simp) (by decide) hJ.bel.size (Below.refl _ _))
        · obtain rfl := Option.some.inj ho
          go_simp
          exact hK _ _ (hJ.allocP hs (by decide) (by decide) (by simp) (by decide) hJ.bel.size)
        · obtain rfl := Option.some.inj ho
          go_simp
          exact hK _ _ (hJ.swap.allocP hs (by decide) (by decide) (by simp) (by decide) hJ.bel.size).swap
        · obtain rfl := Option.some.inj ho
          obtain ⟨b, hb, hnb, hh⟩ := hJ.fp (hpre 8 (by simp [Region.binds]))
          rw [if_neg (by rw [hs]; decide)] at hh
          have g60 := hJ.told (6, 60) (by decide) (hpre 6 (by simp [Region.binds]))
          exact wp_store_row 23 (.tmp 17) (.tmp 60) rfl b #[.int .i64 a3, .int .i64 b3] (eval_tmp hb) (eval_tmp g60) _ _ hh (by kernel_rfl) rfl (by kernel_rfl) (hK _ _ (hJ.storeP (by decide) (by decide) (hpre 8 (by simp [Region.binds])) hb hnb hh))
        · obtain rfl := Option.some.inj ho
          obtain ⟨b, hb, hnb, hh⟩ := hJ.fd (hpre 9 (by simp [Region.binds]))
          rw [if_neg (by rw [hs]; decide)] at hh
          have g61 := hJ.told (7, 61) (by decide) (hpre 7 (by simp [Region.binds]))
          exact wp_store_row 29 (.tmp 18) (.tmp 61) rfl b #[.int .i64 x3, .int .i64 y3, .int .i64 3] (eval_tmp hb) (eval_tmp g61) _ _ hh (by kernel_rfl) rfl (by kernel_rfl) (hK _ _ (hJ.swap.storeP (by decide) (by decide) (hpre 9 (by simp [Region.binds])) hb hnb hh).swap)
      · intro s T Wt hall hJ hfr
        have g55 := hJ.told (0, 55) (by decide) (hall 0 (by decide))
        have g56 := hJ.told (1, 56) (by decide) (hall 1 (by decide))
        have g57 := hJ.told (2, 57) (by decide) (hall 2 (by decide))
        have g58 := hJ.told (3, 58) (by decide) (hall 3 (by decide))
        have g59 := hJ.told (4, 59) (by decide) (hall 4 (by decide))
        have g54 := hJ.told (5, 54) (by decide) (hall 5 (by decide))
        have g60 := hJ.told (6, 60) (by decide) (hall 6 (by decide))
        have g61 := hJ.told (7, 61) (by decide) (hall 7 (by decide))
        obtain ⟨bp, g17, np, hp⟩ := hJ.fp (hall 8 (by decide))
        rw [if_pos (hall 10 (by decide))] at hp
        obtain ⟨bv, g18, nv, hv⟩ := hJ.fd (hall 9 (by decide))
        rw [if_pos (hall 11 (by decide))] at hv
        have hne := hJ.ne (hall 8 (by decide)) (hall 9 (by decide))
        rw [g17, g18] at hne
        have hT9 := conc [(55, .agg #[.int .i64 X, .int .i64 Y, .int .i64 n0, .int .i64 n1, .int .i64 n2, .int .i64 W, .int .i64 l0, .int .i64 l1, .int .i64 l2, .int .i64 h0, .int .i64 h1, .int .i64 h2]), (56, .agg #[.int .i64 X, .int .i64 Y, .int .i64 n0, .int .i64 n1, .int .i64 n2, .int .i64 W, .int .i64 l0, .int .i64 l1, .int .i64 l2, .int .i64 h0, .int .i64 h1, .int .i64 h2]), (57, .agg #[.int .u8 r0, .int .u8 r1, .int .u8 r2]), (58, .agg #[.int .i64 q0, .int .i64 q1, .int .i64 q2]), (59, .tuple #[.agg #[.int .i64 a3, .int .i64 b3], .agg #[.int .i64 x3, .int .i64 y3, .int .i64 3]]), (54, .tuple #[.agg #[.int .i64 a3, .int .i64 b3], .agg #[.int .i64 x3, .int .i64 y3, .int .i64 3]]), (60, .agg #[.int .i64 a3, .int .i64 b3]), (61, .agg #[.int .i64 x3, .int .i64 y3, .int .i64 3]), (17, .pointer (some ⟨bp, 0, none⟩)), (18, .pointer (some ⟨bv, 0, none⟩))] hJ.size hfr (by simp only [List.forall_mem_cons]; exact ⟨g55, g56, g57, g58, g59, g54, g60, g61, g17, g18, fun p hp => absurd hp List.not_mem_nil⟩) (by kernel_rfl)
        simp only [List.foldl, List.setIfInBounds_toArray, List.set_cons_succ, List.set_cons_zero] at hT9
        subst hT9
        have hb8 := hJ.bel
        clear hJ hall hfr g55 g56 g57 g58 g59 g54 g60 g61 g17 g18
        have Hp := Lib.hid hp
        have Hv := Lib.hid hv
        clear hp hv TW
        replace HA := Lib.hid (blk_call HA.out hb8)
        replace HE := Lib.hid (blk_call HE.out hb8)
        replace HF := Lib.hid (blk_call HF.out hb8)
        replace HR := Lib.hid (blk_call HR.out hb8)
        replace HQ := Lib.hid (blk_call HQ.out hb8)
        replace B := Lib.hid (belT B.out hb8)
        clear hb8
        go_upto_region 11 with fail
        have TW := Lib.hid (Tab.below TT.out B.out)
        have ALLC : ∀ w : World, Tab w → Calls Tryd.prog 15 #[.agg #[.int .i64 X, .int .i64 Y, .int .i64 n0, .int .i64 n1, .int .i64 n2, .int .i64 W, .int .i64 l0, .int .i64 l1, .int .i64 l2, .int .i64 h0, .int .i64 h1, .int .i64 h2], .agg #[.int .i64 a3, .int .i64 b3], .agg #[.int .i64 x3, .int .i64 y3, .int .i64 3]] w fun e w' => (∃ ao cap, e = .returned (.slice ao N cap) ∧ PRow3 w' ao L) ∧ Below w.heap.size w w' := fun w h => by have := all8_is X Y n0 n1 n2 W l0 l1 l2 h0 h1 h2 a3 b3 x3 y3 w h V; rw [HLL.out, HNL.out] at this; exact this
        obtain ⟨sp, hsp⟩ : ∃ sp : ToldS, sp = [none, none, none, none, none, none, none, none, none, none, none, none, none, none, none, none, none, none, none, some (eqS (.bool true)), none, none, none, none, none, none, none, none, none, none, none, none, none, none, none, none, none, none, none, none, none, none, none, none, none, none, none, none, none, none, none, none, none, none, none, none, none, none, none, none, none, none, some (eqS (.agg #[.int .i64 X, .int .i64 Y, .int .i64 n0, .int .i64 n1, .int .i64 n2, .int .i64 W, .int .i64 l0, .int .i64 l1, .int .i64 l2, .int .i64 h0, .int .i64 h1, .int .i64 h2])), some (eqS (.agg #[.int .i64 a3, .int .i64 b3])), some (eqS (.agg #[.int .i64 x3, .int .i64 y3, .int .i64 3])), some (rowN N L), some (eqS (.agg #[.int .i64 X, .int .i64 Y, .int .i64 n0, .int .i64 n1, .int .i64 n2, .int .i64 W, .int .i64 l0, .int .i64 l1, .int .i64 l2, .int .i64 h0, .int .i64 h1, .int .i64 h2])), some (eqS (.agg #[.int .i64 a3, .int .i64 b3])), some (eqS (.agg #[.int .i64 x3, .int .i64 y3, .int .i64 3])), some (rowN N L), some (eqS (.bool true))] := ⟨_, rfl⟩
        have s19 : sp.getD 19 none = some (eqS (.bool true)) := by rw [hsp]; rfl
        have s62 : sp.getD 62 none = some (eqS (.agg #[.int .i64 X, .int .i64 Y, .int .i64 n0, .int .i64 n1, .int .i64 n2, .int .i64 W, .int .i64 l0, .int .i64 l1, .int .i64 l2, .int .i64 h0, .int .i64 h1, .int .i64 h2])) := by rw [hsp]; rfl
        have s63 : sp.getD 63 none = some (eqS (.agg #[.int .i64 a3, .int .i64 b3])) := by rw [hsp]; rfl
        have s64 : sp.getD 64 none = some (eqS (.agg #[.int .i64 x3, .int .i64 y3, .int .i64 3])) := by rw [hsp]; rfl
        have s65 : sp.getD 65 none = some (rowN N L) := by rw [hsp]; rfl
        have s66 : sp.getD 66 none = some (eqS (.agg #[.int .i64 X, .int .i64 Y, .int .i64 n0, .int .i64 n1, .int .i64 n2, .int .i64 W, .int .i64 l0, .int .i64 l1, .int .i64 l2, .int .i64 h0, .int .i64 h1, .int .i64 h2])) := by rw [hsp]; rfl
        have s67 : sp.getD 67 none = some (eqS (.agg #[.int .i64 a3, .int .i64 b3])) := by rw [hsp]; rfl
        have s68 : sp.getD 68 none = some (eqS (.agg #[.int .i64 x3, .int .i64 y3, .int .i64 3])) := by rw [hsp]; rfl
        have s69 : sp.getD 69 none = some (rowN N L) := by rw [hsp]; rfl
        have s70 : sp.getD 70 none = some (eqS (.bool true)) := by rw [hsp]; rfl
        clear hsp
        refine (wpIn_wide (n := 0)).1 (region_allR (RtS sp) (rtS_keep sp) rfl rfl rfl (by kernel_rfl) (by kernel_rfl) (by kernel_rfl) ?_ ?_)
        · intro Q'
          refine obsR_cons ?_ ?_
          · intro T wx K hB hF hD hK
            have g6 : T[6]? = some (.pointer (some ⟨ba, 0, none⟩)) := hF 6 (freeM_of (by kernel_rfl))
            refine ob_yes (wanted_none rfl) ?_
            clear hF hD
            exact wp_load_row 27 (.tmp 6) rfl _ (eval_tmp g6) _ _ _ _ (blk_call HA.out hB) Tryd.underlying27 rfl (by kernel_rfl) (hK _ _ (Below.refl _ _) (rt_eqS s62))
          refine obsR_cons ?_ ?_
          · intro T wx K hB hF hD hK
            have g17 : T[17]? = some (.pointer (some ⟨bp, 0, none⟩)) := hF 17 (freeM_of (by kernel_rfl))
            refine ob_yes (wanted_none rfl) ?_
            clear hF hD
            exact wp_load_row 23 (.tmp 17) rfl _ (eval_tmp g17) _ _ _ _ (blk_call Hp.out hB) Tryd.underlying23 rfl (by kernel_rfl) (hK _ _ (Below.refl _ _) (rt_eqS s63))
          refine obsR_cons ?_ ?_
          · intro T wx K hB hF hD hK
            have g18 : T[18]? = some (.pointer (some ⟨bv, 0, none⟩)) := hF 18 (freeM_of (by kernel_rfl))
            refine ob_yes (wanted_none rfl) ?_
            clear hF hD
            exact wp_load_row 29 (.tmp 18) rfl _ (eval_tmp g18) _ _ _ _ (blk_call Hv.out hB) Tryd.underlying29 rfl (by kernel_rfl) (hK _ _ (Below.refl _ _) (rt_eqS s64))
          refine obsR_cons ?_ ?_
          · intro T wx K hB hF hD hK
            have g62 := get_eqS (hD 0 62 (by simp [Region.binds]) (by kernel_rfl)) s62
            have g63 := get_eqS (hD 1 63 (by simp [Region.binds]) (by kernel_rfl)) s63
            have g64 := get_eqS (hD 2 64 (by simp [Region.binds]) (by kernel_rfl)) s64
            refine ob_yes (wanted_none rfl) ?_
            clear hF hD
            go_simp
            refine (solve_any X Y n0 n1 n2 W l0 l1 l2 h0 h1 h2 a3 b3 x3 y3 _ (TW.out.below hB) V D3 (Lib.hid (show (-1000000000 ≤ a3 ∧ a3 ≤ 1000000000) ∧ -1000000000 ≤ b3 ∧ b3 ≤ 1000000000 by have := PB.out; omega)) L N HLL HNL).mono ?_; rintro e w9 ⟨⟨ao, cp, rfl, hp⟩, hb⟩
            exact hK _ _ hb (rt_S s65 ⟨_, _, rfl, hp⟩)
          refine obsR_cons ?_ ?_
          · intro T wx K hB hF hD hK
            have g6 : T[6]? = some (.pointer (some ⟨ba, 0, none⟩)) := hF 6 (freeM_of (by kernel_rfl))
            refine ob_yes (wanted_none rfl) ?_
            clear hF hD
            exact wp_load_row 27 (.tmp 6) rfl _ (eval_tmp g6) _ _ _ _ (blk_call HA.out hB) Tryd.underlying27 rfl (by kernel_rfl) (hK _ _ (Below.refl _ _) (rt_eqS s66))
          refine obsR_cons ?_ ?_
          · intro T wx K hB hF hD hK
            have g17 : T[17]? = some (.pointer (some ⟨bp, 0, none⟩)) := hF 17 (freeM_of (by kernel_rfl))
            refine ob_yes (wanted_none rfl) ?_
            clear hF hD
            exact wp_load_row 23 (.tmp 17) rfl _ (eval_tmp g17) _ _ _ _ (blk_call Hp.out hB) Tryd.underlying23 rfl (by kernel_rfl) (hK _ _ (Below.refl _ _) (rt_eqS s67))
          refine obsR_cons ?_ ?_
          · intro T wx K hB hF hD hK
            have g18 : T[18]? = some (.pointer (some ⟨bv, 0, none⟩)) := hF 18 (freeM_of (by kernel_rfl))
            refine ob_yes (wanted_none rfl) ?_
            clear hF hD
            exact wp_load_row 29 (.tmp 18) rfl _ (eval_tmp g18) _ _ _ _ (blk_call Hv.out hB) Tryd.underlying29 rfl (by kernel_rfl) (hK _ _ (Below.refl _ _) (rt_eqS s68))
          refine obsR_cons ?_ ?_
          · intro T wx K hB hF hD hK
            have g66 := get_eqS (hD 4 66 (by simp [Region.binds]) (by kernel_rfl)) s66
            have g67 := get_eqS (hD 5 67 (by simp [Region.binds]) (by kernel_rfl)) s67
            have g68 := get_eqS (hD 6 68 (by simp [Region.binds]) (by kernel_rfl)) s68
            refine ob_yes (wanted_none rfl) ?_
            clear hF hD
            go_simp
            refine (ALLC _ (TW.out.below hB)).mono ?_; rintro e w9 ⟨⟨ao, cp, rfl, hp⟩, hb⟩
            exact hK _ _ hb (rt_S s69 ⟨_, _, rfl, hp⟩)
          refine obsR_cons ?_ ?_
          · intro T wx K hB hF hD hK
            obtain ⟨v65, g65, p65⟩ := getS (hD 3 65 (by simp [Region.binds]) (by kernel_rfl)) s65
            obtain ⟨v69, g69, p69⟩ := getS (hD 7 69 (by simp [Region.binds]) (by kernel_rfl)) s69
            refine ob_yes (wanted_none rfl) ?_
            clear hF hD
            obtain ⟨aoa, ca, rfl, hpa⟩ := p65
            obtain ⟨aob, cb, rfl, hpb⟩ := p69
            go_simp
            refine (same3_is aoa aob N N ca cb L L true _ HNL.out HNL.out (Lib.hid (by simp)) (by have := LBL.out; omega) (by have := LBL.out; omega) hpa hpb).mono ?_; rintro e w9 ⟨rfl, hb⟩
            exact hK _ _ hb (rt_eqS s70)
          refine obsR_cons ?_ ?_
          · intro T wx K hB hF hD hK
            have g70 := get_eqS (hD 8 70 (by simp [Region.binds]) (by kernel_rfl)) s70
            refine ob_yes (wanted_none rfl) ?_
            clear hF hD
            go_simp
            exact hK _ _ (Below.refl _ _) (rt_eqS s19)
          exact obsR_nil
        · intro Tu Wu hb8 hF hs hD
          have g62 := get_eqS (hD 0 62 (by decide) (by kernel_rfl)) s62
          have g63 := get_eqS (hD 1 63 (by decide) (by kernel_rfl)) s63
          have g64 := get_eqS (hD 2 64 (by decide) (by kernel_rfl)) s64
          obtain ⟨v65, g65, p65⟩ := getS (hD 3 65 (by decide) (by kernel_rfl)) s65
          have g66 := get_eqS (hD 4 66 (by decide) (by kernel_rfl)) s66
          have g67 := get_eqS (hD 5 67 (by decide) (by kernel_rfl)) s67
          have g68 := get_eqS (hD 6 68 (by decide) (by kernel_rfl)) s68
          obtain ⟨v69, g69, p69⟩ := getS (hD 7 69 (by decide) (by kernel_rfl)) s69
          have g70 := get_eqS (hD 8 70 (by decide) (by kernel_rfl)) s70
          have g19 := get_eqS (hD 9 19 (by decide) (by kernel_rfl)) s19
          have hT9 := conc [(62, .agg #[.int .i64 X, .int .i64 Y, .int .i64 n0, .int .i64 n1, .int .i64 n2, .int .i64 W, .int .i64 l0, .int .i64 l1, .int .i64 l2, .int .i64 h0, .int .i64 h1, .int .i64 h2]), (63, .agg #[.int .i64 a3, .int .i64 b3]), (64, .agg #[.int .i64 x3, .int .i64 y3, .int .i64 3]), (65, v65), (66, .agg #[.int .i64 X, .int .i64 Y, .int .i64 n0, .int .i64 n1, .int .i64 n2, .int .i64 W, .int .i64 l0, .int .i64 l1, .int .i64 l2, .int .i64 h0, .int .i64 h1, .int .i64 h2]), (67, .agg #[.int .i64 a3, .int .i64 b3]), (68, .agg #[.int .i64 x3, .int .i64 y3, .int .i64 3]), (69, v69), (70, .bool true), (19, .bool true)] hs hF (by simp only [List.forall_mem_cons]; exact ⟨g62, g63, g64, g65, g66, g67, g68, g69, g70, g19, fun p hp => absurd hp List.not_mem_nil⟩) (by kernel_rfl)
          simp only [List.foldl, List.setIfInBounds_toArray, List.set_cons_succ, List.set_cons_zero] at hT9
          subst hT9
          clear hF hD hs g62 g63 g64 g65 g66 g67 g68 g69 g70 g19 s19 s62 s63 s64 s65 s66 s67 s68 s69 s70
          clear TW ALLC
          replace HA := Lib.hid (blk_call HA.out hb8)
          replace HE := Lib.hid (blk_call HE.out hb8)
          replace HF := Lib.hid (blk_call HF.out hb8)
          replace HR := Lib.hid (blk_call HR.out hb8)
          replace HQ := Lib.hid (blk_call HQ.out hb8)
          replace Hp := Lib.hid (blk_call Hp.out hb8)
          replace Hv := Lib.hid (blk_call Hv.out hb8)
          replace B := Lib.hid (belT B.out hb8)
          clear hb8
          obtain ⟨sq, hsq⟩ : ∃ s, smB (u, v, t) = s := ⟨_, rfl⟩
          have SQ := Lib.hid hsq
          clear hsq
          have q_0 := blk_cell HQ.out 0 _ rfl
          have q_1 := blk_cell HQ.out 1 _ rfl
          have q_2 := blk_cell HQ.out 2 _ rfl
          go_upto_region 13 with (go_at_call 18; refine (small_is u v t sq _ SQ).mono ?_; rintro e Wv ⟨rfl, hb⟩)
          clear q_0 q_1 q_2
          replace HA := Lib.hid (blk_call HA.out hb)
          replace HE := Lib.hid (blk_call HE.out hb)
          replace HF := Lib.hid (blk_call HF.out hb)
          replace HR := Lib.hid (blk_call HR.out hb)
          replace HQ := Lib.hid (blk_call HQ.out hb)
          replace Hp := Lib.hid (blk_call Hp.out hb)
          replace Hv := Lib.hid (blk_call Hv.out hb)
          replace B := Lib.hid (belT B.out hb)
          clear hb
          go_wp2_with fail
          go_loopw [21, 20] (fun i s20 wr => ∃ (j : Nat) (s : Bool), j ≤ l.length ∧ i = .int .i64 j ∧ s20 = .bool s ∧ Hid ((sq && (l.take j).all smB) = s) ∧ Hid (Below Wv.heap.size Wv wr)) (fun i _ _ => l.length - (intOf i).toNat)
          case atStart => exact ⟨0, sq, Nat.zero_le _, rfl, rfl, Lib.hid (by simp), Lib.hid (Below.refl _ _)⟩
          case round =>
            obtain ⟨j, s, hj, rfl, rfl, HS, HB⟩ := hrel
            have B0 := B
            clear B
            have B := Lib.hid (belT B0.out HB.out)
            by_cases hlt : j < l.length
            · obtain ⟨b', o', rfl, c1, c2, c3⟩ := prow3_below HRW.out B.out j hlt
              have hji : (j : Int) < l.length := by omega
              have TA := Lib.hid (take_all hlt)
              generalize l.getD j j0 = eq at *
              obtain ⟨x, y, z⟩ := eq
              obtain ⟨s', hs'⟩ : ∃ s, smB (x, y, z) = s := ⟨_, rfl⟩
              have S2 := Lib.hid hs'
              have HS2 : Hid ((sq && (l.take (j + 1)).all smB) = (s && s')) := Lib.hid (by rw [TA.out, ← HS.out, hs', Bool.and_assoc])
              clear hs' TA
              cases s
              all_goals cases s'
              all_goals
                go_wp2_with (go_at_call 18; refine (small_is x y z _ _ S2).mono ?_; rintro e Wx ⟨rfl, hb⟩)
                exact ⟨⟨j + 1, _, by omega, by go_num, rfl, HS2, Lib.hid (belT HB.out hb)⟩, by simp [intOf]; omega⟩
            · obtain rfl : j = l.length := by omega
              have HS3 := HS.out
              rw [List.take_length] at HS3
              have HS4 := Lib.hid HS3
              clear HS HS3
              cases s
              · go_wp2_with fail
                go_ret
                exact ⟨rfl, B.out⟩
              have HQr := Lib.hid (blk_call HQ.out HB.out)
              have HAL : Hid (∀ x ∈ l, B1000 x) := Lib.hid (all_b (by have := HS4.out; simp only [Bool.and_eq_true] at this; exact this.2))
              have HQB : B1000 (u, v, t) := b1000_of (by rw [SQ.out]; have := HS4.out; simp only [Bool.and_eq_true] at this; exact this.1)
              obtain ⟨e0, e1, e2, he⟩ : ∃ a b c, nearL (u, v, t) l = (a, b, c) := ⟨_, _, _, rfl⟩
              have HE' := Lib.hid he
              clear he
              have RW1 := Lib.hid (prow3_below HRW.out B.out)
              have q_0 := blk_cell HQr.out 0 _ rfl
              have q_1 := blk_cell HQr.out 1 _ rfl
              have q_2 := blk_cell HQr.out 2 _ rfl
              go_upto_region 21 with (go_at_call 19; refine (nearest_is lo l.length lc l u v t e0 e1 e2 _ rfl (by omega) HLC.out.1 HLC.out.2 RW1.out HAL HQB HE').mono ?_; rintro e Wy ⟨rfl, hb⟩)
              clear q_0 q_1 q_2
              have HQ2 := Lib.hid (blk_alloc (blk_call HQr.out hb) (.cells #[.int .i64 e0, .int .i64 e1, .int .i64 e2] 25))
              have H23 := Lib.hid (blk_new Wy (.cells #[.int .i64 e0, .int .i64 e1, .int .i64 e2] 25) _ rfl)
              have RW2 := Lib.hid (prow3_alloc (prow3_below RW1.out hb) (.cells #[.int .i64 e0, .int .i64 e1, .int .i64 e2] 25))
              have B2 := Lib.hid (belA (belT B.out hb) (.cells #[.int .i64 e0, .int .i64 e1, .int .i64 e2] 25))
              obtain ⟨b23, eb23⟩ : ∃ x, Wy.heap.size = x := ⟨_, rfl⟩
              rw [eb23] at H23 ⊢
              clear eb23 hb
              generalize Wy.alloc (.cells #[.int .i64 e0, .int .i64 e1, .int .i64 e2] 25) = Wz at *
              have q_0 := blk_cell HQ2.out 0 _ rfl
              have q_1 := blk_cell HQ2.out 1 _ rfl
              have q_2 := blk_cell HQ2.out 2 _ rfl
              go_upto_region 22 with (go_at_call 20; refine (near8_is lo l.length lc l u v t e0 e1 e2 _ rfl (by omega) RW2.out HAL HQB HE').mono ?_; rintro e Wa ⟨rfl, hb⟩)
              have H23b := Lib.hid (blk_alloc (blk_call H23.out hb) (.cells #[.int .i64 e0, .int .i64 e1, .int .i64 e2] 25))
              have H25 := Lib.hid (blk_new Wa (.cells #[.int .i64 e0, .int .i64 e1, .int .i64 e2] 25) _ rfl)
              have B3 := Lib.hid (belA (belT B2.out hb) (.cells #[.int .i64 e0, .int .i64 e1, .int .i64 e2] 25))
              obtain ⟨b25, eb25⟩ : ∃ x, Wa.heap.size = x := ⟨_, rfl⟩
              rw [eb25] at H25 ⊢
              clear eb25 hb q_0 q_1 q_2
              generalize Wa.alloc (.cells #[.int .i64 e0, .int .i64 e1, .int .i64 e2] 25) = Wb at *
              have x_0 := blk_cell H23b.out 0 _ rfl
              have x_1 := blk_cell H23b.out 1 _ rfl
              have x_2 := blk_cell H23b.out 2 _ rfl
              have y_0 := blk_cell H25.out 0 _ rfl
              have y_1 := blk_cell H25.out 1 _ rfl
              have y_2 := blk_cell H25.out 2 _ rfl
              have EQ := eqlJ e0 e1 e2 e0 e1 e2 true (Lib.hid (by simp))
              obtain ⟨ie, hie⟩ : ∃ s, l.isEmpty = s := ⟨_, rfl⟩
              cases ie
              all_goals
                go_wp2_with fail
                go_ret
                exact ⟨rfl, B3.out⟩

set_option maxRecDepth 100000 in
theorem lifted (os : Os) (started : os.Started) (H : Type) (enc : TypeId × Value → H) :
    ReturnsInHanded {} Tryd.checked os 3 .any (fun w args => (Rows.invkinMatchesReferenceSpec.pre enc Tryd.prog Tryd.f3 [] false w args ∧ laidMetH Tryd.prog Rows.invkinMatchesReferenceRow.laid w) ∧ sizedMet enc Tryd.prog Tryd.f3 (OpenSpec.ofChange Rows.invkinMatchesReferenceSpec) false w args)
      (Rows.invkinMatchesReferenceSpec.post enc Tryd.prog Tryd.f3 false true false false) := by
  refine returnsInHanded_of_change_and (C := Tryd.checked) (X := fun w _ => laidMetH Tryd.prog Rows.invkinMatchesReferenceRow.laid w) (fun _ _ _ hh h => h.of_heap hh) own started (by kernel_rfl) Tryd.func3
    (ChangeSpec.witness_shaped (enc := enc) (C := Tryd.checked) (os := os) (X := fun w _ => laidMetH Tryd.prog Rows.invkinMatchesReferenceRow.laid w) false (World.doorLaid Tryd.prog 600 os) #[.agg #[.int .i64 0, .int .i64 0, .int .i64 0, .int .i64 0, .int .i64 0, .int .i64 0, .int .i64 0, .int .i64 0, .int .i64 0, .int .i64 0, .int .i64 0, .int .i64 0], .agg #[.int .i64 0, .int .i64 0], .agg #[.int .i64 0, .int .i64 0, .int .i64 0], .agg #[.int .u8 0, .int .u8 0, .int .u8 0], .slice none 0 0, .agg #[.int .i64 0, .int .i64 0, .int .i64 0]] 8 rfl (World.shaped_of_RefB (by kernel_rfl) (by kernel_rfl)) (by kernel_rfl) (by kernel_rfl) (by kernel_rfl) (show laidMetH Tryd.prog [(qn, Rows.laid_ambidexter_rotation_quadrant)] _ from door_met os _)) ?_
  intro W base args ds gs before hval0 hW _ _ hL _
  have hval : ∀ (j : Nat) t v, Tryd.f3.params[j]? = some t → args[j]? = some v → Value.okWide Tryd.prog W .any base t v := hval0
  have hW' := hW
  obtain ⟨p, q, hA0, hV, rfl, hfz, hnd⟩ := hW
  have hA : DataW.TrodAll enc Tryd.prog W 0 (fun _ => true) true Tryd.f3.params.toList args.toList ds p := hA0
  rw [Tryd.params3] at hA hval
  obtain ⟨v0, vs0, d0, ds0, p0, q0, hargs, rfl, rfl, h0, r0⟩ := trodAll_cons hA
  obtain ⟨v1, vs1, d1, ds1, p1, q1, rfl, rfl, rfl, h1, r1⟩ := trodAll_cons r0
  obtain ⟨v2, vs2, d2, ds2, p2, q2, rfl, rfl, rfl, h2, r2⟩ := trodAll_cons r1
  obtain ⟨v3, vs3, d3, ds3, p3, q3, rfl, rfl, rfl, h3, r3⟩ := trodAll_cons r2
  obtain ⟨v4, vs4, d4, ds4, p4, q4, rfl, rfl, rfl, h4, r4⟩ := trodAll_cons r3
  obtain ⟨v5, vs5, d5, ds5, p5, q5, rfl, rfl, rfl, h5, r5⟩ := trodAll_cons r4
  obtain ⟨rfl, rfl, rfl⟩ := trodAll_nil r5
  obtain rfl : args = #[v0, v1, v2, v3, v4, v5] := by cases args; simp_all
  obtain ⟨rfl, rfl⟩ := trodVars_none hV
  have k0 := h0
  have lt0 : ∀ x ∈ p0, x.block < W.heap.size := by obtain ⟨m, hm⟩ := k0; exact DataW.trod_lt m _ _ _ hm
  obtain ⟨c0_0, c0_1, c0_2, c0_3, c0_4, c0_5, c0_6, c0_7, c0_8, c0_9, c0_10, c0_11, rfl⟩ := AFr.open_arm (hval 0 27 v0 rfl rfl) h0
  have k1 := h1
  have lt1 : ∀ x ∈ p1, x.block < W.heap.size := by obtain ⟨m, hm⟩ := k1; exact DataW.trod_lt m _ _ _ hm
  obtain ⟨x1, y1, rfl⟩ := HFr.open_pt (hval 1 23 v1 rfl rfl) h1
  have k2 := h2
  have lt2 : ∀ x ∈ p2, x.block < W.heap.size := by obtain ⟨m, hm⟩ := k2; exact DataW.trod_lt m _ _ _ hm
  obtain ⟨c2_0, c2_1, c2_2, rfl⟩ := AFr.open_dir (hval 2 29 v2 rfl rfl) h2
  have k3 := h3
  have lt3 : ∀ x ∈ p3, x.block < W.heap.size := by obtain ⟨m, hm⟩ := k3; exact DataW.trod_lt m _ _ _ hm
  obtain ⟨c3_0, c3_1, c3_2, rfl, b3_0, b3_1, b3_2⟩ := AFr.open_raw (hval 3 30 v3 rfl rfl) h3
  have k4 := h4
  have lt4 : ∀ x ∈ p4, x.block < W.heap.size := by obtain ⟨m, hm⟩ := k4; exact DataW.trod_lt m _ _ _ hm
  obtain ⟨a4, cap4, l4, rfl, n4, w4⟩ := AFr.open_jts (hval 4 31 v4 rfl rfl) h4
  have k5 := h5
  have lt5 : ∀ x ∈ p5, x.block < W.heap.size := by obtain ⟨m, hm⟩ := k5; exact DataW.trod_lt m _ _ _ hm
  obtain ⟨c5_0, c5_1, c5_2, rfl, b5_0, b5_1, b5_2⟩ := AFr.open_joints (hval 5 25 v5 rfl rfl) h5
  clear hA0 hval0
  simp only [List.append_nil] at hW'
  refine (walk c0_0 c0_1 c0_2 c0_3 c0_4 c0_5 c0_6 c0_7 c0_8 c0_9 c0_10 c0_11 x1 y1 c2_0 c2_1 c2_2 c3_0 c3_1 c3_2 b3_0 b3_1 b3_2 a4 cap4 l4 n4 c5_0 c5_1 c5_2 W w4 (tab_of_laid hL)).mono fun e W' ⟨he, bel⟩ => ?_
  subst he
  exact ⟨_, rfl, _, _, _, [], _, [], hW', trodAll_mk1 (shut_bool Tryd.underlying4 _), (trodAll_cons_mk (Below.trod HFr.laidOut (by kernel_rfl) (of_decide_eq_true (by kernel_rfl)) k0 bel lt0) (trodAll_cons_mk (Below.trod HFr.laidOut (by kernel_rfl) (of_decide_eq_true (by kernel_rfl)) k1 bel lt1) (trodAll_cons_mk (Below.trod HFr.laidOut (by kernel_rfl) (of_decide_eq_true (by kernel_rfl)) k2 bel lt2) (trodAll_cons_mk (Below.trod HFr.laidOut (by kernel_rfl) (of_decide_eq_true (by kernel_rfl)) k3 bel lt3) (trodAll_cons_mk (Below.trod HFr.laidOut (by kernel_rfl) (of_decide_eq_true (by kernel_rfl)) k4 bel lt4) (trodAll_cons_mk (Below.trod HFr.laidOut (by kernel_rfl) (of_decide_eq_true (by kernel_rfl)) k5 bel lt5) trodAll_mk0)))))), rfl, bel.frame _, fun h => by cases h⟩

theorem holds : Rows.InvkinMatchesReferenceSaid :=
  OpenClaim.holds_of_wide 3 Tryd.f3 rfl rfl rfl rfl rfl rfl rfl ⟨rfl, rfl, rfl, rfl, rfl⟩ rfl rfl rfl rfl rfl (by kernel_rfl) Tryd.func3 (by kernel_rfl)
    (of_decide_eq_true (by kernel_rfl)) (by unfold Func.isWrapper; first | (rw [if_pos (by decide +kernel)]; kernel_rfl) | (rw [if_neg (by decide +kernel)]; exact ⟨rfl, rfl⟩))
    (fun os started H enc _ => lifted os started H enc)

/-- THE STATEMENT: the tied card. -/
theorem card_holds : Rows.InvkinMatchesReferenceCardSaid :=
  Claim7.holds_tied_plain_at .later [] [.data] true Rows.invkinMatchesReferenceCard.stood.harness false
    holds (fun _ h => by cases h) (by kernel_rfl) (fun _ h => by cases h) invkinMatchesReference_row_tie rfl ⟨rfl, rfl⟩ (by kernel_rfl) rfl
    (fun f fn hf hfn => by
      obtain rfl : f = 3 := Option.some.inj ((show Tryd.prog.funcNamed Rows.invkinMatchesReferenceRow.func = some 3 by kernel_rfl).symm.trans hf) |>.symm
      obtain rfl : fn = Tryd.f3 := (Option.some.inj (Tryd.func3.symm.trans hfn)).symm
      exact ⟨by kernel_rfl, fun j t ht => by
        rw [Tryd.params3] at ht
        have hm : t ∈ [27, 23, 29, 30, 31, 25] := by have := Array.mem_of_getElem? ht; simp only [List.mem_toArray, List.mem_cons, List.not_mem_nil, or_false] at this ⊢; grind
        have hall : ([27, 23, 29, 30, 31, 25].all fun u => !Tryd.prog.wantsStandIn u) = true := by kernel_rfl
        exact (show Tryd.prog.wantsStandIn t = false by simpa using List.all_eq_true.1 hall t hm)⟩)
    (by kernel_rfl)
#print axioms card_holds
end Go.Proofs.YtceejjamngplkaaDoor.invkinMatchesReference
