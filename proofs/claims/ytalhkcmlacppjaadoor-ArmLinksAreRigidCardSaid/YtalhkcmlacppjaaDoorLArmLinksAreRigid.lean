/- For every valid arm and all joint values within its limits, each link has its length; its body is a valid polygon of the implied area with both end points on its boundary; all points and corners are valid and multiples of 16.
Conditions: none on the arguments; the table of rotations lies as the program's text lays it (the card's tie). -/
import Derived.Test.YtalhkcmlacppjaaDoorAmV
import Derived.Test.YtalhkcmlacppjaaDoorAmU
import Derived.Test.YtalhkcmlacppjaaDoorBase
import Derived.Test.YtalhkcmlacppjaaDoorTie
import Derived.Test.YtalhkcmlacppjaaDoorCards
import Derived.SevenTiedAt
namespace Go.Proofs.YtalhkcmlacppjaaDoor.armLinksAreRigid
open Go.ChangeShapes Go.WideShapes Go.ChangeAt Go.RowKit
set_option linter.unusedVariables false
set_option linter.unusedSimpArgs false
set_option maxRecDepth 100000

theorem wrapb (n : Int) (h : -9000000000000000000 ≤ n ∧ n ≤ 9000000000000000000) : IntKind.i64.wrap n = n := by rw [IntKind.wrap_i64]; omega
theorem t16 (x : Int) : (x * 4394000).tdiv 16 = x * 274625 := by
  rw [show x * 4394000 = 16 * (x * 274625) by omega]
  exact Int.mul_tdiv_cancel_left _ (by omega)
theorem tm16 {x : Int} (h : x % 16 = 0) : x.tmod 16 = 0 := by rw [Int.tmod_eq_emod]; split <;> omega
theorem may_of {x y : Int} (h : InV x ∧ InV y) : mayB x y = true := (mayB_iff x y).2 h

set_option maxHeartbeats 4000000 in
theorem walk (X Y n0 n1 n2 W l0 l1 l2 h0 h1 h2 : Int) (r0 r1 r2 : Int) (hr0 : 0 ≤ r0 ∧ r0 ≤ 255) (hr1 : 0 ≤ r1 ∧ r1 ≤ 255) (hr2 : 0 ≤ r2 ∧ r2 ≤ 255) (w : World) (hT : Tab w) :
    Calls Tryd.prog 4 #[.agg #[.int .i64 X, .int .i64 Y, .int .i64 n0, .int .i64 n1, .int .i64 n2, .int .i64 W, .int .i64 l0, .int .i64 l1, .int .i64 l2, .int .i64 h0, .int .i64 h1, .int .i64 h2], .agg #[.int .u8 r0, .int .u8 r1, .int .u8 r2]] w fun e w' => e = .returned (.bool true) ∧ Below w.heap.size w w' := by
  have B := Lib.hid (Below.refl w.heap.size w)
  have TT := Lib.hid hT
  clear hT
  go_enter Tryd.func4, Tryd.ntmps4
  go_wp2_with fail
  refine (head7_is _ (Tab.alloc (Tab.alloc TT.out (.cells #[.int .i64 X, .int .i64 Y, .int .i64 n0, .int .i64 n1, .int .i64 n2, .int .i64 W, .int .i64 l0, .int .i64 l1, .int .i64 l2, .int .i64 h0, .int .i64 h1, .int .i64 h2] 27)) (.cells #[.int .u8 r0, .int .u8 r1, .int .u8 r2] 28))).mono ?_
  rintro e w1 ⟨rfl, hb1⟩
  have HA := Lib.hid (blk_call (blk_alloc (blk_new w (.cells #[.int .i64 X, .int .i64 Y, .int .i64 n0, .int .i64 n1, .int .i64 n2, .int .i64 W, .int .i64 l0, .int .i64 l1, .int .i64 l2, .int .i64 h0, .int .i64 h1, .int .i64 h2] 27) (w.heap.size) rfl) (.cells #[.int .u8 r0, .int .u8 r1, .int .u8 r2] 28)) hb1)
  have HW := Lib.hid (blk_call (blk_new (w.alloc (.cells #[.int .i64 X, .int .i64 Y, .int .i64 n0, .int .i64 n1, .int .i64 n2, .int .i64 W, .int .i64 l0, .int .i64 l1, .int .i64 l2, .int .i64 h0, .int .i64 h1, .int .i64 h2] 27)) (.cells #[.int .u8 r0, .int .u8 r1, .int .u8 r2] 28) (w.heap.size + 1) (by simp)) hb1)
  replace B := Lib.hid (belT (belA (belA B.out (.cells #[.int .i64 X, .int .i64 Y, .int .i64 n0, .int .i64 n1, .int .i64 n2, .int .i64 W, .int .i64 l0, .int .i64 l1, .int .i64 l2, .int .i64 h0, .int .i64 h1, .int .i64 h2] 27)) (.cells #[.int .u8 r0, .int .u8 r1, .int .u8 r2] 28)) hb1)
  replace TT := Lib.hid (Tab.below (Tab.alloc (Tab.alloc TT.out (.cells #[.int .i64 X, .int .i64 Y, .int .i64 n0, .int .i64 n1, .int .i64 n2, .int .i64 W, .int .i64 l0, .int .i64 l1, .int .i64 l2, .int .i64 h0, .int .i64 h1, .int .i64 h2] 27)) (.cells #[.int .u8 r0, .int .u8 r1, .int .u8 r2] 28)) hb1)
  clear hb1
  obtain ⟨t, ht⟩ : ∃ t, armB X Y n0 n1 n2 W l0 l1 l2 h0 h1 h2 = t := ⟨_, rfl⟩
  have HT := Lib.hid ht
  clear ht
  have c0 := blk_cell HA.out 0 _ rfl
  have c1 := blk_cell HA.out 1 _ rfl
  have c2 := blk_cell HA.out 2 _ rfl
  have c3 := blk_cell HA.out 3 _ rfl
  have c4 := blk_cell HA.out 4 _ rfl
  have c5 := blk_cell HA.out 5 _ rfl
  have c6 := blk_cell HA.out 6 _ rfl
  have c7 := blk_cell HA.out 7 _ rfl
  have c8 := blk_cell HA.out 8 _ rfl
  have c9 := blk_cell HA.out 9 _ rfl
  have c10 := blk_cell HA.out 10 _ rfl
  have c11 := blk_cell HA.out 11 _ rfl
  go_wp2_with fail
  refine (armv_is X Y n0 n1 n2 W l0 l1 l2 h0 h1 h2 t _ HT).mono ?_
  rintro e w2 ⟨rfl, hb2⟩
  clear c0 c1 c2 c3 c4 c5 c6 c7 c8 c9 c10 c11
  replace HA := Lib.hid (blk_call HA.out hb2)
  replace HW := Lib.hid (blk_call HW.out hb2)
  replace B := Lib.hid (belT B.out hb2)
  replace TT := Lib.hid (Tab.below TT.out hb2)
  clear hb2
  cases t
  · go_wp2_with fail
    go_ret
    exact ⟨rfl, B.out⟩
  have JB0 := Lib.hid (jq_bd (l := l0) (h := h0) (by have := (armB_iff X Y n0 n1 n2 W l0 l1 l2 h0 h1 h2).1 HT.out; omega) hr0.1)
  have JB1 := Lib.hid (jq_bd (l := l1) (h := h1) (by have := (armB_iff X Y n0 n1 n2 W l0 l1 l2 h0 h1 h2).1 HT.out; omega) hr1.1)
  have JB2 := Lib.hid (jq_bd (l := l2) (h := h2) (by have := (armB_iff X Y n0 n1 n2 W l0 l1 l2 h0 h1 h2).1 HT.out; omega) hr2.1)
  obtain ⟨q0, hq0⟩ : ∃ q, jq l0 h0 r0 = q := ⟨_, rfl⟩
  rw [hq0] at JB0
  have k0 : -1000 ≤ q0 ∧ q0 ≤ 1000 := by have := (armB_iff X Y n0 n1 n2 W l0 l1 l2 h0 h1 h2).1 HT.out; have := JB0.out; omega
  replace hq0 := Lib.hid hq0
  obtain ⟨q1, hq1⟩ : ∃ q, jq l1 h1 r1 = q := ⟨_, rfl⟩
  rw [hq1] at JB1
  have k1 : -1000 ≤ q1 ∧ q1 ≤ 1000 := by have := (armB_iff X Y n0 n1 n2 W l0 l1 l2 h0 h1 h2).1 HT.out; have := JB1.out; omega
  replace hq1 := Lib.hid hq1
  obtain ⟨q2, hq2⟩ : ∃ q, jq l2 h2 r2 = q := ⟨_, rfl⟩
  rw [hq2] at JB2
  have k2 : -1000 ≤ q2 ∧ q2 ≤ 1000 := by have := (armB_iff X Y n0 n1 n2 W l0 l1 l2 h0 h1 h2).1 HT.out; have := JB2.out; omega
  replace hq2 := Lib.hid hq2
  have JQ : Hid (∀ w : World, Calls Tryd.prog 15 #[.agg #[.int .i64 X, .int .i64 Y, .int .i64 n0, .int .i64 n1, .int .i64 n2, .int .i64 W, .int .i64 l0, .int .i64 l1, .int .i64 l2, .int .i64 h0, .int .i64 h1, .int .i64 h2], .agg #[.int .u8 r0, .int .u8 r1, .int .u8 r2]] w fun e w' => e = .returned (.agg #[.int .i64 q0, .int .i64 q1, .int .i64 q2]) ∧ Below w.heap.size w w') := Lib.hid (fun w => by have := joint_is X Y n0 n1 n2 W l0 l1 l2 h0 h1 h2 r0 r1 r2 w HT hr0 hr1 hr2; rwa [hq0.out, hq1.out, hq2.out] at this)
  obtain ⟨x1, x2, x3, y1, y2, y3, u1, u2, u3, v1, v2, v3, a1, a2, a3, b1, b2, b3, PP⟩ := pose_ex X Y n0 n1 n2 q0 q1 q2
  replace PP := Lib.hid PP
  have c0 := blk_cell HA.out 0 _ rfl
  have c1 := blk_cell HA.out 1 _ rfl
  have c2 := blk_cell HA.out 2 _ rfl
  have c3 := blk_cell HA.out 3 _ rfl
  have c4 := blk_cell HA.out 4 _ rfl
  have c5 := blk_cell HA.out 5 _ rfl
  have c6 := blk_cell HA.out 6 _ rfl
  have c7 := blk_cell HA.out 7 _ rfl
  have c8 := blk_cell HA.out 8 _ rfl
  have c9 := blk_cell HA.out 9 _ rfl
  have c10 := blk_cell HA.out 10 _ rfl
  have c11 := blk_cell HA.out 11 _ rfl
  have d0 := blk_cell HW.out 0 _ rfl
  have d1 := blk_cell HW.out 1 _ rfl
  have d2 := blk_cell HW.out 2 _ rfl
  go_wp2_with fail
  refine (JQ.out _).mono ?_
  rintro e w3 ⟨rfl, hb3⟩
  clear c0 c1 c2 c3 c4 c5 c6 c7 c8 c9 c10 c11 d0 d1 d2
  replace HA := Lib.hid (blk_call HA.out hb3)
  replace HW := Lib.hid (blk_call HW.out hb3)
  replace B := Lib.hid (belT B.out hb3)
  replace TT := Lib.hid (Tab.below TT.out hb3)
  clear hb3
  go_upto_region 5 with fail
  replace HA := Lib.hid (blk_alloc HA.out (.cells #[.int .i64 q0, .int .i64 q1, .int .i64 q2] 25))
  replace HW := Lib.hid (blk_alloc HW.out (.cells #[.int .i64 q0, .int .i64 q1, .int .i64 q2] 25))
  have HQ := Lib.hid (blk_new w3 (.cells #[.int .i64 q0, .int .i64 q1, .int .i64 q2] 25) (w3.heap.size) rfl)
  replace B := Lib.hid (belA B.out (.cells #[.int .i64 q0, .int .i64 q1, .int .i64 q2] 25))
  replace TT := Lib.hid (Tab.alloc TT.out (.cells #[.int .i64 q0, .int .i64 q1, .int .i64 q2] 25))
  generalize (w3.alloc (.cells #[.int .i64 q0, .int .i64 q1, .int .i64 q2] 25)) = W1 at *
  have v := (armB_iff X Y n0 n1 n2 W l0 l1 l2 h0 h1 h2).1 HT.out
  have PD := Lib.hid (pose_div PP.out)
  have PN := Lib.hid (pose_len PP.out).2
  have PC := Lib.hid (pose_corn PP.out HT.out)
  have FX0 := link_facts (c := X) (d := Y) (n := n0) (u := u1) (v := v1) (W := W) (by omega) (by omega) PN.out.1 PD.out.1 (by omega) (by rw [PP.out.g1.1, PP.out.g1.2]; exact PC.out.1)
  rw [PP.out.g1.1, PP.out.g1.2] at FX0
  have FX1 := link_facts (c := a1) (d := b1) (n := n1) (u := u2) (v := v2) (W := W) (by omega) (by omega) PN.out.2.1 PD.out.2.1 FX0.2.2.2.2.2.2.2 (by rw [PP.out.g2.1, PP.out.g2.2]; exact PC.out.2.1)
  rw [PP.out.g2.1, PP.out.g2.2] at FX1
  have FX2 := link_facts (c := a2) (d := b2) (n := n2) (u := u3) (v := v3) (W := W) (by omega) (by omega) PN.out.2.2 PD.out.2.2 FX1.2.2.2.2.2.2.2 (by rw [PP.out.g3.1, PP.out.g3.2]; exact PC.out.2.2.1)
  rw [PP.out.g3.1, PP.out.g3.2] at FX2
  clear v PD PN
  obtain ⟨r0_0, r0_1, r0_2, r0_3, r0_4, r0_5, r0_6, r0_7, hL0⟩ : ∃ r0_0 r0_1 r0_2 r0_3 r0_4 r0_5 r0_6 r0_7, bodL X Y a1 b1 (W * u1) (W * v1) = [(r0_0, r0_1), (r0_2, r0_3), (r0_4, r0_5), (r0_6, r0_7)] := ⟨_, _, _, _, _, _, _, _, rfl⟩
  have PCi := PC.out.1
  rw [hL0] at FX0 PCi
  have PC0 := Lib.hid PCi
  replace FX0 := Lib.hid FX0
  replace hL0 := Lib.hid hL0
  clear PCi
  obtain ⟨r1_0, r1_1, r1_2, r1_3, r1_4, r1_5, r1_6, r1_7, hL1⟩ : ∃ r1_0 r1_1 r1_2 r1_3 r1_4 r1_5 r1_6 r1_7, bodL a1 b1 a2 b2 (W * u2) (W * v2) = [(r1_0, r1_1), (r1_2, r1_3), (r1_4, r1_5), (r1_6, r1_7)] := ⟨_, _, _, _, _, _, _, _, rfl⟩
  have PCi := PC.out.2.1
  rw [hL1] at FX1 PCi
  have PC1 := Lib.hid PCi
  replace FX1 := Lib.hid FX1
  replace hL1 := Lib.hid hL1
  clear PCi
  obtain ⟨r2_0, r2_1, r2_2, r2_3, r2_4, r2_5, r2_6, r2_7, hL2⟩ : ∃ r2_0 r2_1 r2_2 r2_3 r2_4 r2_5 r2_6 r2_7, bodL a2 b2 a3 b3 (W * u3) (W * v3) = [(r2_0, r2_1), (r2_2, r2_3), (r2_4, r2_5), (r2_6, r2_7)] := ⟨_, _, _, _, _, _, _, _, rfl⟩
  have PCi := PC.out.2.2.1
  rw [hL2] at FX2 PCi
  have PC2 := Lib.hid PCi
  replace FX2 := Lib.hid FX2
  replace hL2 := Lib.hid hL2
  clear PCi
  obtain ⟨sp, hsp⟩ : ∃ sp : ToldS, sp = [none, none, none, none, none, none, none, some (newS W1.heap.size #[.int .i64 0, .int .i64 0, .int .i64 0, .int .i64 0, .int .i64 0, .int .i64 0, .int .i64 0, .int .i64 0] 44), some (newS W1.heap.size #[.slice none 0 0, .slice none 0 0, .slice none 0 0] 35), none, none, none, none, none, none, none, none, none, none, none, none, some (eqS (.agg #[.int .i64 X, .int .i64 Y, .int .i64 n0, .int .i64 n1, .int .i64 n2, .int .i64 W, .int .i64 l0, .int .i64 l1, .int .i64 l2, .int .i64 h0, .int .i64 h1, .int .i64 h2])), some (eqS (.agg #[.int .i64 q0, .int .i64 q1, .int .i64 q2])), some (eqS (.agg #[.int .i64 X, .int .i64 Y, .int .i64 a1, .int .i64 b1, .int .i64 a2, .int .i64 b2, .int .i64 a3, .int .i64 b3])), some (eqS (.agg #[.int .i64 X, .int .i64 Y, .int .i64 n0, .int .i64 n1, .int .i64 n2, .int .i64 W, .int .i64 l0, .int .i64 l1, .int .i64 l2, .int .i64 h0, .int .i64 h1, .int .i64 h2])), some (eqS (.agg #[.int .i64 q0, .int .i64 q1, .int .i64 q2])), some (linkS [(r0_0, r0_1), (r0_2, r0_3), (r0_4, r0_5), (r0_6, r0_7)] [(r1_0, r1_1), (r1_2, r1_3), (r1_4, r1_5), (r1_6, r1_7)] [(r2_0, r2_1), (r2_2, r2_3), (r2_4, r2_5), (r2_6, r2_7)])] := ⟨_, rfl⟩
  have s7 : sp.getD 7 none = some (newS W1.heap.size #[.int .i64 0, .int .i64 0, .int .i64 0, .int .i64 0, .int .i64 0, .int .i64 0, .int .i64 0, .int .i64 0] 44) := by rw [hsp]; rfl
  have s8 : sp.getD 8 none = some (newS W1.heap.size #[.slice none 0 0, .slice none 0 0, .slice none 0 0] 35) := by rw [hsp]; rfl
  have s21 : sp.getD 21 none = some (eqS (.agg #[.int .i64 X, .int .i64 Y, .int .i64 n0, .int .i64 n1, .int .i64 n2, .int .i64 W, .int .i64 l0, .int .i64 l1, .int .i64 l2, .int .i64 h0, .int .i64 h1, .int .i64 h2])) := by rw [hsp]; rfl
  have s22 : sp.getD 22 none = some (eqS (.agg #[.int .i64 q0, .int .i64 q1, .int .i64 q2])) := by rw [hsp]; rfl
  have s23 : sp.getD 23 none = some (eqS (.agg #[.int .i64 X, .int .i64 Y, .int .i64 a1, .int .i64 b1, .int .i64 a2, .int .i64 b2, .int .i64 a3, .int .i64 b3])) := by rw [hsp]; rfl
  have s24 : sp.getD 24 none = some (eqS (.agg #[.int .i64 X, .int .i64 Y, .int .i64 n0, .int .i64 n1, .int .i64 n2, .int .i64 W, .int .i64 l0, .int .i64 l1, .int .i64 l2, .int .i64 h0, .int .i64 h1, .int .i64 h2])) := by rw [hsp]; rfl
  have s25 : sp.getD 25 none = some (eqS (.agg #[.int .i64 q0, .int .i64 q1, .int .i64 q2])) := by rw [hsp]; rfl
  have s26 : sp.getD 26 none = some (linkS [(r0_0, r0_1), (r0_2, r0_3), (r0_4, r0_5), (r0_6, r0_7)] [(r1_0, r1_1), (r1_2, r1_3), (r1_4, r1_5), (r1_6, r1_7)] [(r2_0, r2_1), (r2_2, r2_3), (r2_4, r2_5), (r2_6, r2_7)]) := by rw [hsp]; rfl
  clear hsp
  refine (wpIn_wide (n := 0)).1 (region_headF (FS := [7, 8]) (RtS sp) (rtS_keep sp) (fun t v w ht h => by rcases (by simpa using ht : t = 7 ∨ t = 8) with rfl | rfl <;> first | exact newS_fresh s7 h | exact newS_fresh s8 h) 8 rfl rfl rfl (by kernel_rfl) (by decide) (by kernel_rfl) (by kernel_rfl) (by kernel_rfl) ?_ ?_)
  · intro Q'; show ObsF _ _ _ _ _ _ _ _ _ (List.take _ _); simp only [List.take_succ_cons, List.take_zero]
    refine obsF_cons (obF_of ?_ (by intro d e; cases e; decide)) ?_
    · intro T wx K hB hF hD hK
      have g2 : T[2]? = some (.pointer (some ⟨w.heap.size, 0, none⟩)) := hF 2 (freeM_of (by kernel_rfl))
      refine ob_yes (wanted_none rfl) ?_
      clear hF hD
      exact wp_load_row 27 (.tmp 2) rfl w.heap.size (eval_tmp g2) _ _ _ _ (blk_call HA.out hB) Tryd.underlying27 rfl (by kernel_rfl) (hK _ _ (Below.refl _ _) (rt_eqS s21))
    refine obsF_cons (obF_of ?_ (by intro d e; cases e; decide)) ?_
    · intro T wx K hB hF hD hK
      have g6 : T[6]? = some (.pointer (some ⟨w3.heap.size, 0, none⟩)) := hF 6 (freeM_of (by kernel_rfl))
      refine ob_yes (wanted_none rfl) ?_
      clear hF hD
      exact wp_load_row 25 (.tmp 6) rfl w3.heap.size (eval_tmp g6) _ _ _ _ (blk_call HQ.out hB) Tryd.underlying25 rfl (by kernel_rfl) (hK _ _ (Below.refl _ _) (rt_eqS s22))
    refine obsF_cons (obF_of ?_ (by intro d e; cases e; decide)) ?_
    · intro T wx K hB hF hD hK
      have g21 := get_eqS (hD 0 21 (by simp [Region.binds]) (by kernel_rfl)) s21
      have g22 := get_eqS (hD 1 22 (by simp [Region.binds]) (by kernel_rfl)) s22
      refine ob_yes (wanted_none rfl) ?_
      clear hF hD
      go_simp
      refine (jpts_is X Y n0 n1 n2 W l0 l1 l2 h0 h1 h2 q0 q1 q2 x1 x2 x3 y1 y2 y3 u1 u2 u3 v1 v2 v3 a1 a2 a3 b1 b2 b3 _ (TT.out.below hB) k0 k1 k2 HT PP).mono ?_; rintro e w9 ⟨rfl, hb⟩
      exact hK _ _ hb (rt_eqS s23)
    refine obsF_cons (obF_of ?_ (by intro d e; cases e; decide)) ?_
    · intro T wx K hB hF hD hK
      have g2 : T[2]? = some (.pointer (some ⟨w.heap.size, 0, none⟩)) := hF 2 (freeM_of (by kernel_rfl))
      refine ob_yes (wanted_none rfl) ?_
      clear hF hD
      exact wp_load_row 27 (.tmp 2) rfl w.heap.size (eval_tmp g2) _ _ _ _ (blk_call HA.out hB) Tryd.underlying27 rfl (by kernel_rfl) (hK _ _ (Below.refl _ _) (rt_eqS s24))
    refine obsF_cons (obF_of ?_ (by intro d e; cases e; decide)) ?_
    · intro T wx K hB hF hD hK
      have g6 : T[6]? = some (.pointer (some ⟨w3.heap.size, 0, none⟩)) := hF 6 (freeM_of (by kernel_rfl))
      refine ob_yes (wanted_none rfl) ?_
      clear hF hD
      exact wp_load_row 25 (.tmp 6) rfl w3.heap.size (eval_tmp g6) _ _ _ _ (blk_call HQ.out hB) Tryd.underlying25 rfl (by kernel_rfl) (hK _ _ (Below.refl _ _) (rt_eqS s25))
    refine obsF_cons (obF_of ?_ (by intro d e; cases e; decide)) ?_
    · intro T wx K hB hF hD hK
      have g24 := get_eqS (hD 3 24 (by simp [Region.binds]) (by kernel_rfl)) s24
      have g25 := get_eqS (hD 4 25 (by simp [Region.binds]) (by kernel_rfl)) s25
      refine ob_yes (wanted_none rfl) ?_
      clear hF hD
      go_simp
      refine (links_is X Y n0 n1 n2 W l0 l1 l2 h0 h1 h2 q0 q1 q2 x1 x2 x3 y1 y2 y3 u1 u2 u3 v1 v2 v3 a1 a2 a3 b1 b2 b3 _ _ _ _ (TT.out.below hB) k0 k1 k2 HT PP hL0 hL1 hL2).mono ?_; rintro e w9 ⟨⟨g0, g1, g2, rfl, p0, p1, p2⟩, hb⟩
      exact hK _ _ hb (rt_S s26 ⟨g0, g1, g2, rfl, p0, p1, p2⟩)
    refine obsF_cons ?_ ?_
    · intro T wx K hB hF hD hK
      refine ob_yes (wanted_none rfl) ?_
      clear hF hD
      go_simp
      exact hK _ _ (belA (Below.refl _ _) _) (fun d e => by cases e; exact ⟨rt_S s7 ⟨_, rfl, hB.size, blk_new _ _ _ rfl⟩ _ rfl, fun _ => rfl⟩)
    refine obsF_cons ?_ ?_
    · intro T wx K hB hF hD hK
      refine ob_yes (wanted_none rfl) ?_
      clear hF hD
      go_simp
      exact hK _ _ (belA (Below.refl _ _) _) (fun d e => by cases e; exact ⟨rt_S s8 ⟨_, rfl, hB.size, blk_new _ _ _ rfl⟩ _ rfl, fun _ => rfl⟩)
    exact obsF_nil
  · intro T9 w8 hb8 hF hs hD hN
    have g21 := get_eqS (hD 0 21 (by decide) (by kernel_rfl)) s21
    have g22 := get_eqS (hD 1 22 (by decide) (by kernel_rfl)) s22
    have g23 := get_eqS (hD 2 23 (by decide) (by kernel_rfl)) s23
    have g24 := get_eqS (hD 3 24 (by decide) (by kernel_rfl)) s24
    have g25 := get_eqS (hD 4 25 (by decide) (by kernel_rfl)) s25
    obtain ⟨v26, g26, p26⟩ := getS (hD 5 26 (by decide) (by kernel_rfl)) s26
    obtain ⟨v7, g7, p7⟩ := getS (hD 6 7 (by decide) (by kernel_rfl)) s7
    obtain ⟨v8, g8, p8⟩ := getS (hD 7 8 (by decide) (by kernel_rfl)) s8
    have N7_8 := hN 7 8 (by decide) (by decide) (by decide) ⟨6, by decide, by kernel_rfl⟩ ⟨7, by decide, by kernel_rfl⟩
    rw [g7, g8] at N7_8
    have hT := conc [(21, .agg #[.int .i64 X, .int .i64 Y, .int .i64 n0, .int .i64 n1, .int .i64 n2, .int .i64 W, .int .i64 l0, .int .i64 l1, .int .i64 l2, .int .i64 h0, .int .i64 h1, .int .i64 h2]), (22, .agg #[.int .i64 q0, .int .i64 q1, .int .i64 q2]), (23, .agg #[.int .i64 X, .int .i64 Y, .int .i64 a1, .int .i64 b1, .int .i64 a2, .int .i64 b2, .int .i64 a3, .int .i64 b3]), (24, .agg #[.int .i64 X, .int .i64 Y, .int .i64 n0, .int .i64 n1, .int .i64 n2, .int .i64 W, .int .i64 l0, .int .i64 l1, .int .i64 l2, .int .i64 h0, .int .i64 h1, .int .i64 h2]), (25, .agg #[.int .i64 q0, .int .i64 q1, .int .i64 q2]), (26, v26), (7, v7), (8, v8)] hs hF (by simp only [List.forall_mem_cons]; exact ⟨g21, g22, g23, g24, g25, g26, g7, g8, fun p hp => absurd hp List.not_mem_nil⟩) (by kernel_rfl)
    simp only [List.foldl, List.setIfInBounds_toArray, List.set_cons_succ, List.set_cons_zero] at hT
    subst hT
    clear hF hD hs hN g21 g22 g23 g24 g25 g26 g7 g8 s7 s8 s21 s22 s23 s24 s25 s26
    show wpOpsIn _ _ _ _ _ [8, 9] _ _
    obtain ⟨b7, rfl, hs7, h7⟩ := p7
    obtain ⟨b8, rfl, hs8, h8⟩ := p8
    have ne : b7 ≠ b8 := fun e => N7_8 (by rw [e])
    obtain ⟨g0, g1, g2, rfl, p0, p1, p2⟩ := p26
    refine tail_store rfl rfl rfl rfl rfl 44 (.tmp 7) (.tmp 23) rfl rfl b7 #[.int .i64 X, .int .i64 Y, .int .i64 a1, .int .i64 b1, .int .i64 a2, .int .i64 b2, .int .i64 a3, .int .i64 b3] rfl rfl _ _ h7 (by kernel_rfl) rfl (by kernel_rfl) ?_
    have h8' := (setRow_other w8 b7 b8 #[.int .i64 X, .int .i64 Y, .int .i64 a1, .int .i64 b1, .int .i64 a2, .int .i64 b2, .int .i64 a3, .int .i64 b3] (fun h => ne h.symm)).trans h8
    refine tail_store rfl rfl rfl rfl rfl 35 (.tmp 8) (.tmp 26) rfl rfl b8 #[.slice (some ⟨g0, 0, none⟩) 4 4, .slice (some ⟨g1, 0, none⟩) 4 4, .slice (some ⟨g2, 0, none⟩) 4 4] rfl rfl _ _ h8' (by kernel_rfl) rfl (by kernel_rfl) ?_
    have la := blk_lt HA.out
    have R0 := Lib.hid (prow_setRow (prow_setRow p0 (prow_notzero p0 h7 rfl FX0.out.2.2.2.2.2.1) #[.int .i64 X, .int .i64 Y, .int .i64 a1, .int .i64 b1, .int .i64 a2, .int .i64 b2, .int .i64 a3, .int .i64 b3]) (fun h => prow_notslice p0 h8 h.symm) #[.slice (some ⟨g0, 0, none⟩) 4 4, .slice (some ⟨g1, 0, none⟩) 4 4, .slice (some ⟨g2, 0, none⟩) 4 4])
    have R1 := Lib.hid (prow_setRow (prow_setRow p1 (prow_notzero p1 h7 rfl FX1.out.2.2.2.2.2.1) #[.int .i64 X, .int .i64 Y, .int .i64 a1, .int .i64 b1, .int .i64 a2, .int .i64 b2, .int .i64 a3, .int .i64 b3]) (fun h => prow_notslice p1 h8 h.symm) #[.slice (some ⟨g0, 0, none⟩) 4 4, .slice (some ⟨g1, 0, none⟩) 4 4, .slice (some ⟨g2, 0, none⟩) 4 4])
    have R2 := Lib.hid (prow_setRow (prow_setRow p2 (prow_notzero p2 h7 rfl FX2.out.2.2.2.2.2.1) #[.int .i64 X, .int .i64 Y, .int .i64 a1, .int .i64 b1, .int .i64 a2, .int .i64 b2, .int .i64 a3, .int .i64 b3]) (fun h => prow_notslice p2 h8 h.symm) #[.slice (some ⟨g0, 0, none⟩) 4 4, .slice (some ⟨g1, 0, none⟩) 4 4, .slice (some ⟨g2, 0, none⟩) 4 4])
    have H7 := Lib.hid ((setRow_other _ b8 b7 #[.slice (some ⟨g0, 0, none⟩) 4 4, .slice (some ⟨g1, 0, none⟩) 4 4, .slice (some ⟨g2, 0, none⟩) 4 4] ne).trans (setRow_heap w8 b7 _ #[.int .i64 X, .int .i64 Y, .int .i64 a1, .int .i64 b1, .int .i64 a2, .int .i64 b2, .int .i64 a3, .int .i64 b3] _ _ h7))
    have H8 := Lib.hid (setRow_heap _ b8 _ #[.slice (some ⟨g0, 0, none⟩) 4 4, .slice (some ⟨g1, 0, none⟩) 4 4, .slice (some ⟨g2, 0, none⟩) 4 4] _ _ h8')
    replace HA := Lib.hid ((setRow_other _ b8 _ #[.slice (some ⟨g0, 0, none⟩) 4 4, .slice (some ⟨g1, 0, none⟩) 4 4, .slice (some ⟨g2, 0, none⟩) 4 4] (by omega)).trans ((setRow_other w8 b7 _ #[.int .i64 X, .int .i64 Y, .int .i64 a1, .int .i64 b1, .int .i64 a2, .int .i64 b2, .int .i64 a3, .int .i64 b3] (by omega)).trans (blk_call HA.out hb8)))
    have bw := below_setRow7 (below_setRow7 hb8 hs7 #[.int .i64 X, .int .i64 Y, .int .i64 a1, .int .i64 b1, .int .i64 a2, .int .i64 b2, .int .i64 a3, .int .i64 b3]) hs8 #[.slice (some ⟨g0, 0, none⟩) 4 4, .slice (some ⟨g1, 0, none⟩) 4 4, .slice (some ⟨g2, 0, none⟩) 4 4]
    replace B := Lib.hid (belT B.out bw)
    replace TT := Lib.hid (Tab.below TT.out bw)
    clear bw hb8 h7 h8 h8' hs7 hs8 N7_8 ne la p0 p1 p2 HQ HW
    simp only [wpOpsIn]
    generalize ((w8.setRow b7 #[.int .i64 X, .int .i64 Y, .int .i64 a1, .int .i64 b1, .int .i64 a2, .int .i64 b2, .int .i64 a3, .int .i64 b3]).setRow b8 #[.slice (some ⟨g0, 0, none⟩) 4 4, .slice (some ⟨g1, 0, none⟩) 4 4, .slice (some ⟨g2, 0, none⟩) 4 4]) = W2 at *
    have v := (armB_iff X Y n0 n1 n2 W l0 l1 l2 h0 h1 h2).1 HT.out
    have WB := Lib.hid v.1.2.2.2
    have NB0 := Lib.hid v.1.1
    have NB1 := Lib.hid v.1.2.1
    have NB2 := Lib.hid v.1.2.2.1
    clear v
    have PB := Lib.hid (pose_bd PP.out HT.out)
    have PX : Hid (X % 16 = 0 ∧ Y % 16 = 0) := Lib.hid (by have := (armB_iff X Y n0 n1 n2 W l0 l1 l2 h0 h1 h2).1 HT.out; omega)
    go_wp2_with fail
    refine wp_loop_rounds 4 ?_
    rw [rounds_succ]
    have eT := t16 n0
    have c2 := blk_cell HA.out 2 _ rfl
    have nb := NB0.out
    have bN : 0 ≤ (n0 * 274625) ∧ (n0 * 274625) ≤ 10985000 := by have := NB0.out; omega
    have bNN := mul_bd2 (B := 10985000) (C := 10985000) (x := (n0 * 274625)) (c := (n0 * 274625)) (by omega) (by omega)
    go_wp2_with fail
    clear eT nb c2
    obtain ⟨sp, hsp⟩ : ∃ sp : ToldS, sp = [none, none, none, none, none, none, none, none, none, none, none, none, none, none, none, none, none, none, none, none, none, none, none, none, none, none, none, none, none, none, none, none, none, none, none, none, none, some (eqS (.int .i64 0)), some (eqS (.pointer (some ⟨b7, 0, none⟩))), some (eqS (.agg #[.int .i64 X, .int .i64 Y])), some (eqS (.int .i64 0)), some (eqS (.int .i64 1)), some (eqS (.pointer (some ⟨b7, 2, none⟩))), some (eqS (.agg #[.int .i64 a1, .int .i64 b1])), some (eqS (.int .i64 ((n0 * 274625) * (n0 * 274625)))), some (eqS (.int .i64 (n0 * 274625))), some (eqS (.int .i64 (n0 * 274625))), some (eqS (.int .i64 ((n0 * 274625) * (n0 * 274625)))), some (eqS (.bool false)), some (eqS (.bool false)), some (eqS (.int .i64 0)), some (eqS (.pointer (some ⟨b8, 0, none⟩))), some (eqS (.slice (some ⟨g0, 0, none⟩) 4 4)), some (eqS (.int .i64 4)), some (eqS (.bool false)), some (eqS (.bool false))] := ⟨_, rfl⟩
    have s37 : sp.getD 37 none = some (eqS (.int .i64 0)) := by rw [hsp]; rfl
    have s38 : sp.getD 38 none = some (eqS (.pointer (some ⟨b7, 0, none⟩))) := by rw [hsp]; rfl
    have s39 : sp.getD 39 none = some (eqS (.agg #[.int .i64 X, .int .i64 Y])) := by rw [hsp]; rfl
    have s40 : sp.getD 40 none = some (eqS (.int .i64 0)) := by rw [hsp]; rfl
    have s41 : sp.getD 41 none = some (eqS (.int .i64 1)) := by rw [hsp]; rfl
    have s42 : sp.getD 42 none = some (eqS (.pointer (some ⟨b7, 2, none⟩))) := by rw [hsp]; rfl
    have s43 : sp.getD 43 none = some (eqS (.agg #[.int .i64 a1, .int .i64 b1])) := by rw [hsp]; rfl
    have s44 : sp.getD 44 none = some (eqS (.int .i64 ((n0 * 274625) * (n0 * 274625)))) := by rw [hsp]; rfl
    have s45 : sp.getD 45 none = some (eqS (.int .i64 (n0 * 274625))) := by rw [hsp]; rfl
    have s46 : sp.getD 46 none = some (eqS (.int .i64 (n0 * 274625))) := by rw [hsp]; rfl
    have s47 : sp.getD 47 none = some (eqS (.int .i64 ((n0 * 274625) * (n0 * 274625)))) := by rw [hsp]; rfl
    have s48 : sp.getD 48 none = some (eqS (.bool false)) := by rw [hsp]; rfl
    have s49 : sp.getD 49 none = some (eqS (.bool false)) := by rw [hsp]; rfl
    have s50 : sp.getD 50 none = some (eqS (.int .i64 0)) := by rw [hsp]; rfl
    have s51 : sp.getD 51 none = some (eqS (.pointer (some ⟨b8, 0, none⟩))) := by rw [hsp]; rfl
    have s52 : sp.getD 52 none = some (eqS (.slice (some ⟨g0, 0, none⟩) 4 4)) := by rw [hsp]; rfl
    have s53 : sp.getD 53 none = some (eqS (.int .i64 4)) := by rw [hsp]; rfl
    have s54 : sp.getD 54 none = some (eqS (.bool false)) := by rw [hsp]; rfl
    have s55 : sp.getD 55 none = some (eqS (.bool false)) := by rw [hsp]; rfl
    clear hsp
    refine (wpIn_wide (n := 0)).1 (region_allR (RtS sp) (rtS_keep sp) rfl rfl rfl (by kernel_rfl) (by kernel_rfl) (by kernel_rfl) ?_ ?_)
    · intro Q'
      refine obsR_cons ?_ ?_
      · intro T wx K hB hF hD hK
        have g9 : T[9]? = some (.int .i64 0) := hF 9 (freeM_of (by kernel_rfl))
        refine ob_yes (wanted_none rfl) ?_
        clear hF hD
        go_simp
        exact hK _ _ (Below.refl _ _) (rt_eqS s37)
      refine obsR_cons ?_ ?_
      · intro T wx K hB hF hD hK
        have g7 : T[7]? = some (.pointer (some ⟨b7, 0, none⟩)) := hF 7 (freeM_of (by kernel_rfl))
        have g37 := get_eqS (hD 0 37 (by simp [Region.binds]) (by kernel_rfl)) s37
        refine ob_yes (wanted_none rfl) ?_
        clear hF hD
        go_simp
        exact hK _ _ (Below.refl _ _) (rt_eqS s38)
      refine obsR_cons ?_ ?_
      · intro T wx K hB hF hD hK
        have g38 := get_eqS (hD 1 38 (by simp [Region.binds]) (by kernel_rfl)) s38
        refine ob_yes (wanted_none rfl) ?_
        clear hF hD
        have c0 := blk_cell (blk_call H7.out hB) 0 _ rfl
        have c1 := blk_cell (blk_call H7.out hB) 1 _ rfl
        go_simp
        exact hK _ _ (Below.refl _ _) (rt_eqS s39)
      refine obsR_cons ?_ ?_
      · intro T wx K hB hF hD hK
        have g9 : T[9]? = some (.int .i64 0) := hF 9 (freeM_of (by kernel_rfl))
        refine ob_yes (wanted_none rfl) ?_
        clear hF hD
        go_simp
        exact hK _ _ (Below.refl _ _) (rt_eqS s40)
      refine obsR_cons ?_ ?_
      · intro T wx K hB hF hD hK
        have g40 := get_eqS (hD 3 40 (by simp [Region.binds]) (by kernel_rfl)) s40
        refine ob_yes (wanted_none rfl) ?_
        clear hF hD
        go_simp
        exact hK _ _ (Below.refl _ _) (rt_eqS s41)
      refine obsR_cons ?_ ?_
      · intro T wx K hB hF hD hK
        have g7 : T[7]? = some (.pointer (some ⟨b7, 0, none⟩)) := hF 7 (freeM_of (by kernel_rfl))
        have g41 := get_eqS (hD 4 41 (by simp [Region.binds]) (by kernel_rfl)) s41
        refine ob_yes (wanted_none rfl) ?_
        clear hF hD
        go_simp
        exact hK _ _ (Below.refl _ _) (rt_eqS s42)
      refine obsR_cons ?_ ?_
      · intro T wx K hB hF hD hK
        have g42 := get_eqS (hD 5 42 (by simp [Region.binds]) (by kernel_rfl)) s42
        refine ob_yes (wanted_none rfl) ?_
        clear hF hD
        have c0 := blk_cell (blk_call H7.out hB) 2 _ rfl
        have c1 := blk_cell (blk_call H7.out hB) 3 _ rfl
        go_simp
        exact hK _ _ (Below.refl _ _) (rt_eqS s43)
      refine obsR_cons ?_ ?_
      · intro T wx K hB hF hD hK
        have g39 := get_eqS (hD 2 39 (by simp [Region.binds]) (by kernel_rfl)) s39
        have g43 := get_eqS (hD 6 43 (by simp [Region.binds]) (by kernel_rfl)) s43
        refine ob_yes (wanted_none rfl) ?_
        clear hF hD
        go_simp
        refine (lfar_is X Y a1 b1 ((n0 * 274625) * (n0 * 274625)) _ (Lib.hid FX0.out.2.2.2.2.2.2.1) (by have := PB.out.1; have := WB.out; omega) (by have := PB.out.1; have := WB.out; omega) (by have := PB.out.2.1; have := WB.out; omega) (by have := PB.out.2.1; have := WB.out; omega)).mono ?_; rintro e w9 ⟨rfl, hb⟩
        exact hK _ _ hb (rt_eqS s44)
      refine obsR_cons ?_ ?_
      · intro T wx K hB hF hD hK
        have g10 : T[10]? = some (.int .i64 (n0 * 274625)) := hF 10 (freeM_of (by kernel_rfl))
        refine ob_yes (wanted_none rfl) ?_
        clear hF hD
        go_simp
        exact hK _ _ (Below.refl _ _) (rt_eqS s45)
      refine obsR_cons ?_ ?_
      · intro T wx K hB hF hD hK
        have g10 : T[10]? = some (.int .i64 (n0 * 274625)) := hF 10 (freeM_of (by kernel_rfl))
        refine ob_yes (wanted_none rfl) ?_
        clear hF hD
        go_simp
        exact hK _ _ (Below.refl _ _) (rt_eqS s46)
      refine obsR_cons ?_ ?_
      · intro T wx K hB hF hD hK
        have g45 := get_eqS (hD 8 45 (by simp [Region.binds]) (by kernel_rfl)) s45
        have g46 := get_eqS (hD 9 46 (by simp [Region.binds]) (by kernel_rfl)) s46
        refine ob_yes (wanted_none rfl) ?_
        clear hF hD
        go_simp
        rw [wrapb _ (by omega)]
        exact hK _ _ (Below.refl _ _) (rt_eqS s47)
      refine obsR_cons ?_ ?_
      · intro T wx K hB hF hD hK
        have g44 := get_eqS (hD 7 44 (by simp [Region.binds]) (by kernel_rfl)) s44
        have g47 := get_eqS (hD 10 47 (by simp [Region.binds]) (by kernel_rfl)) s47
        refine ob_yes (wanted_none rfl) ?_
        clear hF hD
        go_simp
        exact hK _ _ (Below.refl _ _) (rt_eqS s48)
      refine obsR_cons ?_ ?_
      · intro T wx K hB hF hD hK
        have g48 := get_eqS (hD 11 48 (by simp [Region.binds]) (by kernel_rfl)) s48
        refine ob_yes (wanted_none rfl) ?_
        clear hF hD
        go_simp
        exact hK _ _ (Below.refl _ _) (rt_eqS s49)
      refine obsR_cons ?_ ?_
      · intro T wx K hB hF hD hK
        have g49 := get_eqS (hD 12 49 (by simp [Region.binds]) (by kernel_rfl)) s49
        have g9 : T[9]? = some (.int .i64 0) := hF 9 (freeM_of (by kernel_rfl))
        refine ob_yes (wanted_yes rfl (by kernel_rfl) g49) ?_
        clear hF hD
        go_simp
        exact hK _ _ (Below.refl _ _) (rt_eqS s50)
      refine obsR_cons ?_ ?_
      · intro T wx K hB hF hD hK
        have g49 := get_eqS (hD 12 49 (by simp [Region.binds]) (by kernel_rfl)) s49
        have g8 : T[8]? = some (.pointer (some ⟨b8, 0, none⟩)) := hF 8 (freeM_of (by kernel_rfl))
        have g50 := get_eqS (hD 13 50 (by simp [Region.binds]) (by kernel_rfl)) s50
        refine ob_yes (wanted_yes rfl (by kernel_rfl) g49) ?_
        clear hF hD
        go_simp
        exact hK _ _ (Below.refl _ _) (rt_eqS s51)
      refine obsR_cons ?_ ?_
      · intro T wx K hB hF hD hK
        have g49 := get_eqS (hD 12 49 (by simp [Region.binds]) (by kernel_rfl)) s49
        have g51 := get_eqS (hD 14 51 (by simp [Region.binds]) (by kernel_rfl)) s51
        refine ob_yes (wanted_yes rfl (by kernel_rfl) g49) ?_
        clear hF hD
        have c0 := blk_cell (blk_call H8.out hB) 0 _ rfl
        go_simp
        exact hK _ _ (Below.refl _ _) (rt_eqS s52)
      refine obsR_cons ?_ ?_
      · intro T wx K hB hF hD hK
        have g49 := get_eqS (hD 12 49 (by simp [Region.binds]) (by kernel_rfl)) s49
        have g52 := get_eqS (hD 15 52 (by simp [Region.binds]) (by kernel_rfl)) s52
        refine ob_yes (wanted_yes rfl (by kernel_rfl) g49) ?_
        clear hF hD
        go_simp
        exact hK _ _ (Below.refl _ _) (rt_eqS s53)
      refine obsR_cons ?_ ?_
      · intro T wx K hB hF hD hK
        have g49 := get_eqS (hD 12 49 (by simp [Region.binds]) (by kernel_rfl)) s49
        have g53 := get_eqS (hD 16 53 (by simp [Region.binds]) (by kernel_rfl)) s53
        refine ob_yes (wanted_yes rfl (by kernel_rfl) g49) ?_
        clear hF hD
        go_simp
        exact hK _ _ (Below.refl _ _) (rt_eqS s54)
      refine obsR_cons ?_ ?_
      · intro T wx K hB hF hD hK
        have g49 := get_eqS (hD 12 49 (by simp [Region.binds]) (by kernel_rfl)) s49
        have g54 := get_eqS (hD 17 54 (by simp [Region.binds]) (by kernel_rfl)) s54
        refine ob_yes (wanted_none rfl) ?_
        clear hF hD
        go_simp
        exact hK _ _ (Below.refl _ _) (rt_eqS s55)
      exact obsR_nil
    · intro T0 U0 hb8 hF hs hD
      have g37 := get_eqS (hD 0 37 (by decide) (by kernel_rfl)) s37
      have g38 := get_eqS (hD 1 38 (by decide) (by kernel_rfl)) s38
      have g39 := get_eqS (hD 2 39 (by decide) (by kernel_rfl)) s39
      have g40 := get_eqS (hD 3 40 (by decide) (by kernel_rfl)) s40
      have g41 := get_eqS (hD 4 41 (by decide) (by kernel_rfl)) s41
      have g42 := get_eqS (hD 5 42 (by decide) (by kernel_rfl)) s42
      have g43 := get_eqS (hD 6 43 (by decide) (by kernel_rfl)) s43
      have g44 := get_eqS (hD 7 44 (by decide) (by kernel_rfl)) s44
      have g45 := get_eqS (hD 8 45 (by decide) (by kernel_rfl)) s45
      have g46 := get_eqS (hD 9 46 (by decide) (by kernel_rfl)) s46
      have g47 := get_eqS (hD 10 47 (by decide) (by kernel_rfl)) s47
      have g48 := get_eqS (hD 11 48 (by decide) (by kernel_rfl)) s48
      have g49 := get_eqS (hD 12 49 (by decide) (by kernel_rfl)) s49
      have g50 := get_eqS (hD 13 50 (by decide) (by kernel_rfl)) s50
      have g51 := get_eqS (hD 14 51 (by decide) (by kernel_rfl)) s51
      have g52 := get_eqS (hD 15 52 (by decide) (by kernel_rfl)) s52
      have g53 := get_eqS (hD 16 53 (by decide) (by kernel_rfl)) s53
      have g54 := get_eqS (hD 17 54 (by decide) (by kernel_rfl)) s54
      have g55 := get_eqS (hD 18 55 (by decide) (by kernel_rfl)) s55
      have hT := conc [(37, .int .i64 0), (38, .pointer (some ⟨b7, 0, none⟩)), (39, .agg #[.int .i64 X, .int .i64 Y]), (40, .int .i64 0), (41, .int .i64 1), (42, .pointer (some ⟨b7, 2, none⟩)), (43, .agg #[.int .i64 a1, .int .i64 b1]), (44, .int .i64 ((n0 * 274625) * (n0 * 274625))), (45, .int .i64 (n0 * 274625)), (46, .int .i64 (n0 * 274625)), (47, .int .i64 ((n0 * 274625) * (n0 * 274625))), (48, .bool false), (49, .bool false), (50, .int .i64 0), (51, .pointer (some ⟨b8, 0, none⟩)), (52, .slice (some ⟨g0, 0, none⟩) 4 4), (53, .int .i64 4), (54, .bool false), (55, .bool false)] hs hF (by simp only [List.forall_mem_cons]; exact ⟨g37, g38, g39, g40, g41, g42, g43, g44, g45, g46, g47, g48, g49, g50, g51, g52, g53, g54, g55, fun p hp => absurd hp List.not_mem_nil⟩) (by kernel_rfl)
      simp only [List.foldl, List.setIfInBounds_toArray, List.set_cons_succ, List.set_cons_zero] at hT
      subst hT
      clear hF hD hs g37 g38 g39 g40 g41 g42 g43 g44 g45 g46 g47 g48 g49 g50 g51 g52 g53 g54 g55 s37 s38 s39 s40 s41 s42 s43 s44 s45 s46 s47 s48 s49 s50 s51 s52 s53 s54 s55
      replace HA := Lib.hid (blk_call HA.out hb8)
      replace H7 := Lib.hid (blk_call H7.out hb8)
      replace H8 := Lib.hid (blk_call H8.out hb8)
      replace R0 := Lib.hid (prow_below R0.out hb8)
      replace R1 := Lib.hid (prow_below R1.out hb8)
      replace R2 := Lib.hid (prow_below R2.out hb8)
      replace B := Lib.hid (belT B.out hb8)
      replace TT := Lib.hid (Tab.below TT.out hb8)
      clear hb8
      clear bN bNN
      go_wp2_with fail
      refine wp_loop_rounds 5 ?_
      rw [rounds_succ]
      have c0 := blk_cell H8.out 0 _ rfl
      obtain ⟨e0, e1⟩ := prow_c R0.out 0 (by simp) 0 1 rfl rfl
      simp only [List.getD_cons_zero, List.getD_cons_succ] at e0 e1
      go_wp2_with fail
      refine (may_any r0_0 r0_1 true _ (Lib.hid (may_of (PC0.out (r0_0, r0_1) (by simp))))).mono ?_
      rintro e w4 ⟨rfl, hb4⟩
      clear c0 e0 e1
      replace HA := Lib.hid (blk_call (blk_alloc HA.out (.cells #[.int .i64 r0_0, .int .i64 r0_1] 23)) hb4)
      replace H7 := Lib.hid (blk_call (blk_alloc H7.out (.cells #[.int .i64 r0_0, .int .i64 r0_1] 23)) hb4)
      replace H8 := Lib.hid (blk_call (blk_alloc H8.out (.cells #[.int .i64 r0_0, .int .i64 r0_1] 23)) hb4)
      replace R0 := Lib.hid (prow_below (prow_alloc R0.out (.cells #[.int .i64 r0_0, .int .i64 r0_1] 23)) hb4)
      replace R1 := Lib.hid (prow_below (prow_alloc R1.out (.cells #[.int .i64 r0_0, .int .i64 r0_1] 23)) hb4)
      replace R2 := Lib.hid (prow_below (prow_alloc R2.out (.cells #[.int .i64 r0_0, .int .i64 r0_1] 23)) hb4)
      have HC := Lib.hid (blk_call (blk_new U0 (.cells #[.int .i64 r0_0, .int .i64 r0_1] 23) (U0.heap.size) rfl) hb4)
      replace B := Lib.hid (belT (belA B.out (.cells #[.int .i64 r0_0, .int .i64 r0_1] 23)) hb4)
      replace TT := Lib.hid (Tab.below (Tab.alloc TT.out (.cells #[.int .i64 r0_0, .int .i64 r0_1] 23)) hb4)
      clear hb4
      have c0 := blk_cell HC.out 0 _ rfl
      have c1 := blk_cell HC.out 1 _ rfl
      have z0 := tm16 (FX0.out.2.2.2.2.1 (r0_0, r0_1) (by simp)).1
      have z1 := tm16 (FX0.out.2.2.2.2.1 (r0_0, r0_1) (by simp)).2
      skip
      go_wp2_with fail
      clear HC z0 z1 c0 c1
      rw [rounds_succ]
      have c0 := blk_cell H8.out 0 _ rfl
      obtain ⟨e0, e1⟩ := prow_c R0.out 1 (by simp) 2 3 rfl rfl
      simp only [List.getD_cons_zero, List.getD_cons_succ] at e0 e1
      go_wp2_with fail
      refine (may_any r0_2 r0_3 true _ (Lib.hid (may_of (PC0.out (r0_2, r0_3) (by simp))))).mono ?_
      rintro e w5 ⟨rfl, hb5⟩
      clear c0 e0 e1
      replace HA := Lib.hid (blk_call (blk_alloc HA.out (.cells #[.int .i64 r0_2, .int .i64 r0_3] 23)) hb5)
      replace H7 := Lib.hid (blk_call (blk_alloc H7.out (.cells #[.int .i64 r0_2, .int .i64 r0_3] 23)) hb5)
      replace H8 := Lib.hid (blk_call (blk_alloc H8.out (.cells #[.int .i64 r0_2, .int .i64 r0_3] 23)) hb5)
      replace R0 := Lib.hid (prow_below (prow_alloc R0.out (.cells #[.int .i64 r0_2, .int .i64 r0_3] 23)) hb5)
      replace R1 := Lib.hid (prow_below (prow_alloc R1.out (.cells #[.int .i64 r0_2, .int .i64 r0_3] 23)) hb5)
      replace R2 := Lib.hid (prow_below (prow_alloc R2.out (.cells #[.int .i64 r0_2, .int .i64 r0_3] 23)) hb5)
      have HC := Lib.hid (blk_call (blk_new w4 (.cells #[.int .i64 r0_2, .int .i64 r0_3] 23) (w4.heap.size) rfl) hb5)
      replace B := Lib.hid (belT (belA B.out (.cells #[.int .i64 r0_2, .int .i64 r0_3] 23)) hb5)
      replace TT := Lib.hid (Tab.below (Tab.alloc TT.out (.cells #[.int .i64 r0_2, .int .i64 r0_3] 23)) hb5)
      clear hb5
      have c0 := blk_cell HC.out 0 _ rfl
      have c1 := blk_cell HC.out 1 _ rfl
      have z0 := tm16 (FX0.out.2.2.2.2.1 (r0_2, r0_3) (by simp)).1
      have z1 := tm16 (FX0.out.2.2.2.2.1 (r0_2, r0_3) (by simp)).2
      skip
      go_wp2_with fail
      clear HC z0 z1 c0 c1
      rw [rounds_succ]
      have c0 := blk_cell H8.out 0 _ rfl
      obtain ⟨e0, e1⟩ := prow_c R0.out 2 (by simp) 4 5 rfl rfl
      simp only [List.getD_cons_zero, List.getD_cons_succ] at e0 e1
      go_wp2_with fail
      refine (may_any r0_4 r0_5 true _ (Lib.hid (may_of (PC0.out (r0_4, r0_5) (by simp))))).mono ?_
      rintro e w6 ⟨rfl, hb6⟩
      clear c0 e0 e1
      replace HA := Lib.hid (blk_call (blk_alloc HA.out (.cells #[.int .i64 r0_4, .int .i64 r0_5] 23)) hb6)
      replace H7 := Lib.hid (blk_call (blk_alloc H7.out (.cells #[.int .i64 r0_4, .int .i64 r0_5] 23)) hb6)
      replace H8 := Lib.hid (blk_call (blk_alloc H8.out (.cells #[.int .i64 r0_4, .int .i64 r0_5] 23)) hb6)
      replace R0 := Lib.hid (prow_below (prow_alloc R0.out (.cells #[.int .i64 r0_4, .int .i64 r0_5] 23)) hb6)
      replace R1 := Lib.hid (prow_below (prow_alloc R1.out (.cells #[.int .i64 r0_4, .int .i64 r0_5] 23)) hb6)
      replace R2 := Lib.hid (prow_below (prow_alloc R2.out (.cells #[.int .i64 r0_4, .int .i64 r0_5] 23)) hb6)
      have HC := Lib.hid (blk_call (blk_new w5 (.cells #[.int .i64 r0_4, .int .i64 r0_5] 23) (w5.heap.size) rfl) hb6)
      replace B := Lib.hid (belT (belA B.out (.cells #[.int .i64 r0_4, .int .i64 r0_5] 23)) hb6)
      replace TT := Lib.hid (Tab.below (Tab.alloc TT.out (.cells #[.int .i64 r0_4, .int .i64 r0_5] 23)) hb6)
      clear hb6
      have c0 := blk_cell HC.out 0 _ rfl
      have c1 := blk_cell HC.out 1 _ rfl
      have z0 := tm16 (FX0.out.2.2.2.2.1 (r0_4, r0_5) (by simp)).1
      have z1 := tm16 (FX0.out.2.2.2.2.1 (r0_4, r0_5) (by simp)).2
      skip
      go_wp2_with fail
      clear HC z0 z1 c0 c1
      rw [rounds_succ]
      have c0 := blk_cell H8.out 0 _ rfl
      obtain ⟨e0, e1⟩ := prow_c R0.out 3 (by simp) 6 7 rfl rfl
      simp only [List.getD_cons_zero, List.getD_cons_succ] at e0 e1
      go_wp2_with fail
      refine (may_any r0_6 r0_7 true _ (Lib.hid (may_of (PC0.out (r0_6, r0_7) (by simp))))).mono ?_
      rintro e w7 ⟨rfl, hb7⟩
      clear c0 e0 e1
      replace HA := Lib.hid (blk_call (blk_alloc HA.out (.cells #[.int .i64 r0_6, .int .i64 r0_7] 23)) hb7)
      replace H7 := Lib.hid (blk_call (blk_alloc H7.out (.cells #[.int .i64 r0_6, .int .i64 r0_7] 23)) hb7)
      replace H8 := Lib.hid (blk_call (blk_alloc H8.out (.cells #[.int .i64 r0_6, .int .i64 r0_7] 23)) hb7)
      replace R0 := Lib.hid (prow_below (prow_alloc R0.out (.cells #[.int .i64 r0_6, .int .i64 r0_7] 23)) hb7)
      replace R1 := Lib.hid (prow_below (prow_alloc R1.out (.cells #[.int .i64 r0_6, .int .i64 r0_7] 23)) hb7)
      replace R2 := Lib.hid (prow_below (prow_alloc R2.out (.cells #[.int .i64 r0_6, .int .i64 r0_7] 23)) hb7)
      have HC := Lib.hid (blk_call (blk_new w6 (.cells #[.int .i64 r0_6, .int .i64 r0_7] 23) (w6.heap.size) rfl) hb7)
      replace B := Lib.hid (belT (belA B.out (.cells #[.int .i64 r0_6, .int .i64 r0_7] 23)) hb7)
      replace TT := Lib.hid (Tab.below (Tab.alloc TT.out (.cells #[.int .i64 r0_6, .int .i64 r0_7] 23)) hb7)
      clear hb7
      have c0 := blk_cell HC.out 0 _ rfl
      have c1 := blk_cell HC.out 1 _ rfl
      have z0 := tm16 (FX0.out.2.2.2.2.1 (r0_6, r0_7) (by simp)).1
      have z1 := tm16 (FX0.out.2.2.2.2.1 (r0_6, r0_7) (by simp)).2
      skip
      go_wp2_with fail
      clear HC z0 z1 c0 c1
      rw [rounds_succ]
      have c2 := blk_cell H7.out 2 _ rfl
      have c3 := blk_cell H7.out 3 _ rfl
      go_wp2_with fail
      refine (may_any a1 b1 true _ (Lib.hid (may_of (by unfold InV; have := PB.out.2.1; have := WB.out; omega)))).mono ?_
      rintro e w8 ⟨rfl, hb8⟩
      clear c2 c3
      replace HA := Lib.hid (blk_call HA.out hb8)
      replace H7 := Lib.hid (blk_call H7.out hb8)
      replace H8 := Lib.hid (blk_call H8.out hb8)
      replace R0 := Lib.hid (prow_below R0.out hb8)
      replace R1 := Lib.hid (prow_below R1.out hb8)
      replace R2 := Lib.hid (prow_below R2.out hb8)
      replace B := Lib.hid (belT B.out hb8)
      replace TT := Lib.hid (Tab.below TT.out hb8)
      clear hb8
      have c2 := blk_cell H7.out 2 _ rfl
      have c3 := blk_cell H7.out 3 _ rfl
      have z0 := tm16 FX0.out.2.2.2.2.2.2.2.1
      have z1 := tm16 FX0.out.2.2.2.2.2.2.2.2
      go_wp2_with fail
      clear z0 z1 c2 c3
      have AV0 := Lib.hid (allv_mem PC0.out)
      have bA : 1 ≤ 4 * n0 * W ∧ 4 * n0 * W ≤ 640 := by have i1 := NB0.out; have i2 := WB.out; have := far_bdI (n := 4 * n0) (u := W) (M := 4) (by omega) (by omega); have := Int.mul_pos (show 0 < 4 * n0 by omega) (show 0 < W by omega); omega
      have i1 := NB0.out
      obtain ⟨sp, hsp⟩ : ∃ sp : ToldS, sp = [none, none, none, none, none, none, none, none, none, none, none, none, none, none, none, none, none, none, none, none, none, none, none, none, none, none, none, none, none, none, none, none, none, none, none, none, none, none, none, none, none, none, none, none, none, none, none, none, none, none, none, none, none, none, none, none, none, none, none, none, none, none, none, none, none, none, none, none, none, none, none, none, none, none, none, none, none, none, none, none, none, none, none, none, none, none, none, none, none, none, none, none, none, none, none, none, none, none, none, none, none, none, none, none, none, some (eqS (.int .i64 0)), some (eqS (.pointer (some ⟨b8, 0, none⟩))), some (eqS (.slice (some ⟨g0, 0, none⟩) 4 4)), some (eqS (.bool true)), some (eqS (.bool false)), some (eqS (.bool false)), some (eqS (.int .i64 0)), some (eqS (.pointer (some ⟨b8, 0, none⟩))), some (eqS (.slice (some ⟨g0, 0, none⟩) 4 4)), some (eqS (.int .i64 (4 * n0 * W * 4394000 * 4394000))), some (eqS (.int .i64 0)), some (eqS (.pointer (some ⟨w.heap.size, 2, none⟩))), some (eqS (.pointer (some ⟨w.heap.size, 2, none⟩))), some (eqS (.int .i64 n0)), some (eqS (.int .i64 (4 * n0))), some (eqS (.pointer (some ⟨w.heap.size, 5, none⟩))), some (eqS (.int .i64 W)), some (eqS (.int .i64 (4 * n0 * W))), some (eqS (.int .i64 (4 * n0 * W * 4394000))), some (eqS (.int .i64 (4 * n0 * W * 4394000 * 4394000))), some (eqS (.bool false)), some (eqS (.bool false)), some (eqS (.bool false)), some (eqS (.int .i64 0)), some (eqS (.pointer (some ⟨b8, 0, none⟩))), some (eqS (.slice (some ⟨g0, 0, none⟩) 4 4)), some (eqS (.int .i64 0)), some (eqS (.pointer (some ⟨b7, 0, none⟩))), some (eqS (.agg #[.int .i64 X, .int .i64 Y])), some (eqS (.int .i64 0)), some (eqS (.bool false)), some (eqS (.bool false)), some (eqS (.bool false)), some (eqS (.int .i64 0)), some (eqS (.pointer (some ⟨b8, 0, none⟩))), some (eqS (.slice (some ⟨g0, 0, none⟩) 4 4)), some (eqS (.int .i64 0)), some (eqS (.int .i64 1)), some (eqS (.pointer (some ⟨b7, 2, none⟩))), some (eqS (.agg #[.int .i64 a1, .int .i64 b1])), some (eqS (.int .i64 0)), some (eqS (.bool false)), some (eqS (.bool false))] := ⟨_, rfl⟩
      have s105 : sp.getD 105 none = some (eqS (.int .i64 0)) := by rw [hsp]; rfl
      have s106 : sp.getD 106 none = some (eqS (.pointer (some ⟨b8, 0, none⟩))) := by rw [hsp]; rfl
      have s107 : sp.getD 107 none = some (eqS (.slice (some ⟨g0, 0, none⟩) 4 4)) := by rw [hsp]; rfl
      have s108 : sp.getD 108 none = some (eqS (.bool true)) := by rw [hsp]; rfl
      have s109 : sp.getD 109 none = some (eqS (.bool false)) := by rw [hsp]; rfl
      have s110 : sp.getD 110 none = some (eqS (.bool false)) := by rw [hsp]; rfl
      have s111 : sp.getD 111 none = some (eqS (.int .i64 0)) := by rw [hsp]; rfl
      have s112 : sp.getD 112 none = some (eqS (.pointer (some ⟨b8, 0, none⟩))) := by rw [hsp]; rfl
      have s113 : sp.getD 113 none = some (eqS (.slice (some ⟨g0, 0, none⟩) 4 4)) := by rw [hsp]; rfl
      have s114 : sp.getD 114 none = some (eqS (.int .i64 (4 * n0 * W * 4394000 * 4394000))) := by rw [hsp]; rfl
      have s115 : sp.getD 115 none = some (eqS (.int .i64 0)) := by rw [hsp]; rfl
      have s116 : sp.getD 116 none = some (eqS (.pointer (some ⟨w.heap.size, 2, none⟩))) := by rw [hsp]; rfl
      have s117 : sp.getD 117 none = some (eqS (.pointer (some ⟨w.heap.size, 2, none⟩))) := by rw [hsp]; rfl
      have s118 : sp.getD 118 none = some (eqS (.int .i64 n0)) := by rw [hsp]; rfl
      have s119 : sp.getD 119 none = some (eqS (.int .i64 (4 * n0))) := by rw [hsp]; rfl
      have s120 : sp.getD 120 none = some (eqS (.pointer (some ⟨w.heap.size, 5, none⟩))) := by rw [hsp]; rfl
      have s121 : sp.getD 121 none = some (eqS (.int .i64 W)) := by rw [hsp]; rfl
      have s122 : sp.getD 122 none = some (eqS (.int .i64 (4 * n0 * W))) := by rw [hsp]; rfl
      have s123 : sp.getD 123 none = some (eqS (.int .i64 (4 * n0 * W * 4394000))) := by rw [hsp]; rfl
      have s124 : sp.getD 124 none = some (eqS (.int .i64 (4 * n0 * W * 4394000 * 4394000))) := by rw [hsp]; rfl
      have s125 : sp.getD 125 none = some (eqS (.bool false)) := by rw [hsp]; rfl
      have s126 : sp.getD 126 none = some (eqS (.bool false)) := by rw [hsp]; rfl
      have s127 : sp.getD 127 none = some (eqS (.bool false)) := by rw [hsp]; rfl
      have s128 : sp.getD 128 none = some (eqS (.int .i64 0)) := by rw [hsp]; rfl
      have s129 : sp.getD 129 none = some (eqS (.pointer (some ⟨b8, 0, none⟩))) := by rw [hsp]; rfl
      have s130 : sp.getD 130 none = some (eqS (.slice (some ⟨g0, 0, none⟩) 4 4)) := by rw [hsp]; rfl
      have s131 : sp.getD 131 none = some (eqS (.int .i64 0)) := by rw [hsp]; rfl
      have s132 : sp.getD 132 none = some (eqS (.pointer (some ⟨b7, 0, none⟩))) := by rw [hsp]; rfl
      have s133 : sp.getD 133 none = some (eqS (.agg #[.int .i64 X, .int .i64 Y])) := by rw [hsp]; rfl
      have s134 : sp.getD 134 none = some (eqS (.int .i64 0)) := by rw [hsp]; rfl
      have s135 : sp.getD 135 none = some (eqS (.bool false)) := by rw [hsp]; rfl
      have s136 : sp.getD 136 none = some (eqS (.bool false)) := by rw [hsp]; rfl
      have s137 : sp.getD 137 none = some (eqS (.bool false)) := by rw [hsp]; rfl
      have s138 : sp.getD 138 none = some (eqS (.int .i64 0)) := by rw [hsp]; rfl
      have s139 : sp.getD 139 none = some (eqS (.pointer (some ⟨b8, 0, none⟩))) := by rw [hsp]; rfl
      have s140 : sp.getD 140 none = some (eqS (.slice (some ⟨g0, 0, none⟩) 4 4)) := by rw [hsp]; rfl
      have s141 : sp.getD 141 none = some (eqS (.int .i64 0)) := by rw [hsp]; rfl
      have s142 : sp.getD 142 none = some (eqS (.int .i64 1)) := by rw [hsp]; rfl
      have s143 : sp.getD 143 none = some (eqS (.pointer (some ⟨b7, 2, none⟩))) := by rw [hsp]; rfl
      have s144 : sp.getD 144 none = some (eqS (.agg #[.int .i64 a1, .int .i64 b1])) := by rw [hsp]; rfl
      have s145 : sp.getD 145 none = some (eqS (.int .i64 0)) := by rw [hsp]; rfl
      have s146 : sp.getD 146 none = some (eqS (.bool false)) := by rw [hsp]; rfl
      have s147 : sp.getD 147 none = some (eqS (.bool false)) := by rw [hsp]; rfl
      clear hsp
      refine (wpIn_wide (n := 0)).1 (region_allR (RtS sp) (rtS_keep sp) rfl rfl rfl (by kernel_rfl) (by kernel_rfl) (by kernel_rfl) ?_ ?_)
      · intro Q'
        refine obsR_cons ?_ ?_
        · intro T wx K hB hF hD hK
          have g9 : T[9]? = some (.int .i64 0) := hF 9 (freeM_of (by kernel_rfl))
          refine ob_yes (wanted_none rfl) ?_
          clear hF hD
          go_simp
          exact hK _ _ (Below.refl _ _) (rt_eqS s105)
        refine obsR_cons ?_ ?_
        · intro T wx K hB hF hD hK
          have g8 : T[8]? = some (.pointer (some ⟨b8, 0, none⟩)) := hF 8 (freeM_of (by kernel_rfl))
          have g105 := get_eqS (hD 0 105 (by simp [Region.binds]) (by kernel_rfl)) s105
          refine ob_yes (wanted_none rfl) ?_
          clear hF hD
          go_simp
          exact hK _ _ (Below.refl _ _) (rt_eqS s106)
        refine obsR_cons ?_ ?_
        · intro T wx K hB hF hD hK
          have g106 := get_eqS (hD 1 106 (by simp [Region.binds]) (by kernel_rfl)) s106
          refine ob_yes (wanted_none rfl) ?_
          clear hF hD
          have c0 := blk_cell (blk_call H8.out hB) 0 _ rfl
          go_simp
          exact hK _ _ (Below.refl _ _) (rt_eqS s107)
        refine obsR_cons ?_ ?_
        · intro T wx K hB hF hD hK
          have g107 := get_eqS (hD 2 107 (by simp [Region.binds]) (by kernel_rfl)) s107
          refine ob_yes (wanted_none rfl) ?_
          clear hF hD
          go_simp
          refine (valid_is _ 4 4 [(r0_0, r0_1), (r0_2, r0_3), (r0_4, r0_5), (r0_6, r0_7)] true _ rfl (Lib.hid FX0.out.1) (by simp) (prow_below R0.out hB)).mono ?_; rintro e w9 ⟨rfl, hb⟩
          exact hK _ _ hb (rt_eqS s108)
        refine obsR_cons ?_ ?_
        · intro T wx K hB hF hD hK
          have g108 := get_eqS (hD 3 108 (by simp [Region.binds]) (by kernel_rfl)) s108
          refine ob_yes (wanted_none rfl) ?_
          clear hF hD
          go_simp
          exact hK _ _ (Below.refl _ _) (rt_eqS s109)
        refine obsR_cons ?_ ?_
        · intro T wx K hB hF hD hK
          have g109 := get_eqS (hD 4 109 (by simp [Region.binds]) (by kernel_rfl)) s109
          refine ob_yes (wanted_none rfl) ?_
          clear hF hD
          go_simp
          exact hK _ _ (Below.refl _ _) (rt_eqS s110)
        refine obsR_cons ?_ ?_
        · intro T wx K hB hF hD hK
          have g110 := get_eqS (hD 5 110 (by simp [Region.binds]) (by kernel_rfl)) s110
          have g9 : T[9]? = some (.int .i64 0) := hF 9 (freeM_of (by kernel_rfl))
          refine ob_yes (wanted_yes rfl (by kernel_rfl) g110) ?_
          clear hF hD
          go_simp
          exact hK _ _ (Below.refl _ _) (rt_eqS s111)
        refine obsR_cons ?_ ?_
        · intro T wx K hB hF hD hK
          have g110 := get_eqS (hD 5 110 (by simp [Region.binds]) (by kernel_rfl)) s110
          have g8 : T[8]? = some (.pointer (some ⟨b8, 0, none⟩)) := hF 8 (freeM_of (by kernel_rfl))
          have g111 := get_eqS (hD 6 111 (by simp [Region.binds]) (by kernel_rfl)) s111
          refine ob_yes (wanted_yes rfl (by kernel_rfl) g110) ?_
          clear hF hD
          go_simp
          exact hK _ _ (Below.refl _ _) (rt_eqS s112)
        refine obsR_cons ?_ ?_
        · intro T wx K hB hF hD hK
          have g110 := get_eqS (hD 5 110 (by simp [Region.binds]) (by kernel_rfl)) s110
          have g112 := get_eqS (hD 7 112 (by simp [Region.binds]) (by kernel_rfl)) s112
          refine ob_yes (wanted_yes rfl (by kernel_rfl) g110) ?_
          clear hF hD
          have c0 := blk_cell (blk_call H8.out hB) 0 _ rfl
          go_simp
          exact hK _ _ (Below.refl _ _) (rt_eqS s113)
        refine obsR_cons ?_ ?_
        · intro T wx K hB hF hD hK
          have g110 := get_eqS (hD 5 110 (by simp [Region.binds]) (by kernel_rfl)) s110
          have g113 := get_eqS (hD 8 113 (by simp [Region.binds]) (by kernel_rfl)) s113
          refine ob_yes (wanted_yes rfl (by kernel_rfl) g110) ?_
          clear hF hD
          go_simp
          refine (area_at _ 4 4 [(r0_0, r0_1), (r0_2, r0_3), (r0_4, r0_5), (r0_6, r0_7)] (4 * n0 * W * 4394000 * 4394000) _ rfl (Lib.hid FX0.out.2.1) (by simp) (by simp) (prow_below R0.out hB) AV0.out).mono ?_; rintro e w9 ⟨rfl, hb⟩
          exact hK _ _ hb (rt_eqS s114)
        refine obsR_cons ?_ ?_
        · intro T wx K hB hF hD hK
          have g110 := get_eqS (hD 5 110 (by simp [Region.binds]) (by kernel_rfl)) s110
          have g9 : T[9]? = some (.int .i64 0) := hF 9 (freeM_of (by kernel_rfl))
          refine ob_yes (wanted_yes rfl (by kernel_rfl) g110) ?_
          clear hF hD
          go_simp
          exact hK _ _ (Below.refl _ _) (rt_eqS s115)
        refine obsR_cons ?_ ?_
        · intro T wx K hB hF hD hK
          have g110 := get_eqS (hD 5 110 (by simp [Region.binds]) (by kernel_rfl)) s110
          have g2 : T[2]? = some (.pointer (some ⟨w.heap.size, 0, none⟩)) := hF 2 (freeM_of (by kernel_rfl))
          refine ob_yes (wanted_yes rfl (by kernel_rfl) g110) ?_
          clear hF hD
          go_simp
          exact hK _ _ (Below.refl _ _) (rt_eqS s116)
        refine obsR_cons ?_ ?_
        · intro T wx K hB hF hD hK
          have g110 := get_eqS (hD 5 110 (by simp [Region.binds]) (by kernel_rfl)) s110
          have g116 := get_eqS (hD 11 116 (by simp [Region.binds]) (by kernel_rfl)) s116
          have g115 := get_eqS (hD 10 115 (by simp [Region.binds]) (by kernel_rfl)) s115
          refine ob_yes (wanted_yes rfl (by kernel_rfl) g110) ?_
          clear hF hD
          go_simp
          exact hK _ _ (Below.refl _ _) (rt_eqS s117)
        refine obsR_cons ?_ ?_
        · intro T wx K hB hF hD hK
          have g110 := get_eqS (hD 5 110 (by simp [Region.binds]) (by kernel_rfl)) s110
          have g117 := get_eqS (hD 12 117 (by simp [Region.binds]) (by kernel_rfl)) s117
          refine ob_yes (wanted_yes rfl (by kernel_rfl) g110) ?_
          clear hF hD
          have c0 := blk_cell (blk_call HA.out hB) 2 _ rfl
          go_simp
          exact hK _ _ (Below.refl _ _) (rt_eqS s118)
        refine obsR_cons ?_ ?_
        · intro T wx K hB hF hD hK
          have g110 := get_eqS (hD 5 110 (by simp [Region.binds]) (by kernel_rfl)) s110
          have g118 := get_eqS (hD 13 118 (by simp [Region.binds]) (by kernel_rfl)) s118
          refine ob_yes (wanted_yes rfl (by kernel_rfl) g110) ?_
          clear hF hD
          go_simp
          rw [wrapb _ (by omega)]
          exact hK _ _ (Below.refl _ _) (rt_eqS s119)
        refine obsR_cons ?_ ?_
        · intro T wx K hB hF hD hK
          have g110 := get_eqS (hD 5 110 (by simp [Region.binds]) (by kernel_rfl)) s110
          have g2 : T[2]? = some (.pointer (some ⟨w.heap.size, 0, none⟩)) := hF 2 (freeM_of (by kernel_rfl))
          refine ob_yes (wanted_yes rfl (by kernel_rfl) g110) ?_
          clear hF hD
          go_simp
          exact hK _ _ (Below.refl _ _) (rt_eqS s120)
        refine obsR_cons ?_ ?_
        · intro T wx K hB hF hD hK
          have g110 := get_eqS (hD 5 110 (by simp [Region.binds]) (by kernel_rfl)) s110
          have g120 := get_eqS (hD 15 120 (by simp [Region.binds]) (by kernel_rfl)) s120
          refine ob_yes (wanted_yes rfl (by kernel_rfl) g110) ?_
          clear hF hD
          have c0 := blk_cell (blk_call HA.out hB) 5 _ rfl
          go_simp
          exact hK _ _ (Below.refl _ _) (rt_eqS s121)
        refine obsR_cons ?_ ?_
        · intro T wx K hB hF hD hK
          have g110 := get_eqS (hD 5 110 (by simp [Region.binds]) (by kernel_rfl)) s110
          have g119 := get_eqS (hD 14 119 (by simp [Region.binds]) (by kernel_rfl)) s119
          have g121 := get_eqS (hD 16 121 (by simp [Region.binds]) (by kernel_rfl)) s121
          refine ob_yes (wanted_yes rfl (by kernel_rfl) g110) ?_
          clear hF hD
          go_simp
          rw [wrapb _ (by omega)]
          exact hK _ _ (Below.refl _ _) (rt_eqS s122)
        refine obsR_cons ?_ ?_
        · intro T wx K hB hF hD hK
          have g110 := get_eqS (hD 5 110 (by simp [Region.binds]) (by kernel_rfl)) s110
          have g122 := get_eqS (hD 17 122 (by simp [Region.binds]) (by kernel_rfl)) s122
          refine ob_yes (wanted_yes rfl (by kernel_rfl) g110) ?_
          clear hF hD
          go_simp
          rw [wrapb _ (by omega)]
          exact hK _ _ (Below.refl _ _) (rt_eqS s123)
        refine obsR_cons ?_ ?_
        · intro T wx K hB hF hD hK
          have g110 := get_eqS (hD 5 110 (by simp [Region.binds]) (by kernel_rfl)) s110
          have g123 := get_eqS (hD 18 123 (by simp [Region.binds]) (by kernel_rfl)) s123
          refine ob_yes (wanted_yes rfl (by kernel_rfl) g110) ?_
          clear hF hD
          go_simp
          rw [wrapb _ (by omega)]
          exact hK _ _ (Below.refl _ _) (rt_eqS s124)
        refine obsR_cons ?_ ?_
        · intro T wx K hB hF hD hK
          have g110 := get_eqS (hD 5 110 (by simp [Region.binds]) (by kernel_rfl)) s110
          have g114 := get_eqS (hD 9 114 (by simp [Region.binds]) (by kernel_rfl)) s114
          have g124 := get_eqS (hD 19 124 (by simp [Region.binds]) (by kernel_rfl)) s124
          refine ob_yes (wanted_yes rfl (by kernel_rfl) g110) ?_
          clear hF hD
          go_simp
          exact hK _ _ (Below.refl _ _) (rt_eqS s125)
        refine obsR_cons ?_ ?_
        · intro T wx K hB hF hD hK
          have g110 := get_eqS (hD 5 110 (by simp [Region.binds]) (by kernel_rfl)) s110
          have g125 := get_eqS (hD 20 125 (by simp [Region.binds]) (by kernel_rfl)) s125
          refine ob_yes (wanted_none rfl) ?_
          clear hF hD
          go_simp
          exact hK _ _ (Below.refl _ _) (rt_eqS s126)
        refine obsR_cons ?_ ?_
        · intro T wx K hB hF hD hK
          have g126 := get_eqS (hD 21 126 (by simp [Region.binds]) (by kernel_rfl)) s126
          refine ob_yes (wanted_none rfl) ?_
          clear hF hD
          go_simp
          exact hK _ _ (Below.refl _ _) (rt_eqS s127)
        refine obsR_cons ?_ ?_
        · intro T wx K hB hF hD hK
          have g127 := get_eqS (hD 22 127 (by simp [Region.binds]) (by kernel_rfl)) s127
          have g9 : T[9]? = some (.int .i64 0) := hF 9 (freeM_of (by kernel_rfl))
          refine ob_yes (wanted_yes rfl (by kernel_rfl) g127) ?_
          clear hF hD
          go_simp
          exact hK _ _ (Below.refl _ _) (rt_eqS s128)
        refine obsR_cons ?_ ?_
        · intro T wx K hB hF hD hK
          have g127 := get_eqS (hD 22 127 (by simp [Region.binds]) (by kernel_rfl)) s127
          have g8 : T[8]? = some (.pointer (some ⟨b8, 0, none⟩)) := hF 8 (freeM_of (by kernel_rfl))
          have g128 := get_eqS (hD 23 128 (by simp [Region.binds]) (by kernel_rfl)) s128
          refine ob_yes (wanted_yes rfl (by kernel_rfl) g127) ?_
          clear hF hD
          go_simp
          exact hK _ _ (Below.refl _ _) (rt_eqS s129)
        refine obsR_cons ?_ ?_
        · intro T wx K hB hF hD hK
          have g127 := get_eqS (hD 22 127 (by simp [Region.binds]) (by kernel_rfl)) s127
          have g129 := get_eqS (hD 24 129 (by simp [Region.binds]) (by kernel_rfl)) s129
          refine ob_yes (wanted_yes rfl (by kernel_rfl) g127) ?_
          clear hF hD
          have c0 := blk_cell (blk_call H8.out hB) 0 _ rfl
          go_simp
          exact hK _ _ (Below.refl _ _) (rt_eqS s130)
        refine obsR_cons ?_ ?_
        · intro T wx K hB hF hD hK
          have g127 := get_eqS (hD 22 127 (by simp [Region.binds]) (by kernel_rfl)) s127
          have g9 : T[9]? = some (.int .i64 0) := hF 9 (freeM_of (by kernel_rfl))
          refine ob_yes (wanted_yes rfl (by kernel_rfl) g127) ?_
          clear hF hD
          go_simp
          exact hK _ _ (Below.refl _ _) (rt_eqS s131)
        refine obsR_cons ?_ ?_
        · intro T wx K hB hF hD hK
          have g127 := get_eqS (hD 22 127 (by simp [Region.binds]) (by kernel_rfl)) s127
          have g7 : T[7]? = some (.pointer (some ⟨b7, 0, none⟩)) := hF 7 (freeM_of (by kernel_rfl))
          have g131 := get_eqS (hD 26 131 (by simp [Region.binds]) (by kernel_rfl)) s131
          refine ob_yes (wanted_yes rfl (by kernel_rfl) g127) ?_
          clear hF hD
          go_simp
          exact hK _ _ (Below.refl _ _) (rt_eqS s132)
        refine obsR_cons ?_ ?_
        · intro T wx K hB hF hD hK
          have g127 := get_eqS (hD 22 127 (by simp [Region.binds]) (by kernel_rfl)) s127
          have g132 := get_eqS (hD 27 132 (by simp [Region.binds]) (by kernel_rfl)) s132
          refine ob_yes (wanted_yes rfl (by kernel_rfl) g127) ?_
          clear hF hD
          have c0 := blk_cell (blk_call H7.out hB) 0 _ rfl
          have c1 := blk_cell (blk_call H7.out hB) 1 _ rfl
          go_simp
          exact hK _ _ (Below.refl _ _) (rt_eqS s133)
        refine obsR_cons ?_ ?_
        · intro T wx K hB hF hD hK
          have g127 := get_eqS (hD 22 127 (by simp [Region.binds]) (by kernel_rfl)) s127
          have g130 := get_eqS (hD 25 130 (by simp [Region.binds]) (by kernel_rfl)) s130
          have g133 := get_eqS (hD 28 133 (by simp [Region.binds]) (by kernel_rfl)) s133
          refine ob_yes (wanted_yes rfl (by kernel_rfl) g127) ?_
          clear hF hD
          go_simp
          refine (locate_at _ 4 4 [(r0_0, r0_1), (r0_2, r0_3), (r0_4, r0_5), (r0_6, r0_7)] X Y 0 _ rfl (Lib.hid FX0.out.2.2.1) (by simp) (by simp) (prow_below R0.out hB) AV0.out.allr2 (by unfold InR; have := PB.out.1; have := WB.out; omega) (by unfold InR; have := PB.out.1; have := WB.out; omega)).mono ?_; rintro e w9 ⟨rfl, hb⟩
          exact hK _ _ hb (rt_eqS s134)
        refine obsR_cons ?_ ?_
        · intro T wx K hB hF hD hK
          have g127 := get_eqS (hD 22 127 (by simp [Region.binds]) (by kernel_rfl)) s127
          have g134 := get_eqS (hD 29 134 (by simp [Region.binds]) (by kernel_rfl)) s134
          refine ob_yes (wanted_yes rfl (by kernel_rfl) g127) ?_
          clear hF hD
          go_simp
          exact hK _ _ (Below.refl _ _) (rt_eqS s135)
        refine obsR_cons ?_ ?_
        · intro T wx K hB hF hD hK
          have g127 := get_eqS (hD 22 127 (by simp [Region.binds]) (by kernel_rfl)) s127
          have g135 := get_eqS (hD 30 135 (by simp [Region.binds]) (by kernel_rfl)) s135
          refine ob_yes (wanted_none rfl) ?_
          clear hF hD
          go_simp
          exact hK _ _ (Below.refl _ _) (rt_eqS s136)
        refine obsR_cons ?_ ?_
        · intro T wx K hB hF hD hK
          have g136 := get_eqS (hD 31 136 (by simp [Region.binds]) (by kernel_rfl)) s136
          refine ob_yes (wanted_none rfl) ?_
          clear hF hD
          go_simp
          exact hK _ _ (Below.refl _ _) (rt_eqS s137)
        refine obsR_cons ?_ ?_
        · intro T wx K hB hF hD hK
          have g137 := get_eqS (hD 32 137 (by simp [Region.binds]) (by kernel_rfl)) s137
          have g9 : T[9]? = some (.int .i64 0) := hF 9 (freeM_of (by kernel_rfl))
          refine ob_yes (wanted_yes rfl (by kernel_rfl) g137) ?_
          clear hF hD
          go_simp
          exact hK _ _ (Below.refl _ _) (rt_eqS s138)
        refine obsR_cons ?_ ?_
        · intro T wx K hB hF hD hK
          have g137 := get_eqS (hD 32 137 (by simp [Region.binds]) (by kernel_rfl)) s137
          have g8 : T[8]? = some (.pointer (some ⟨b8, 0, none⟩)) := hF 8 (freeM_of (by kernel_rfl))
          have g138 := get_eqS (hD 33 138 (by simp [Region.binds]) (by kernel_rfl)) s138
          refine ob_yes (wanted_yes rfl (by kernel_rfl) g137) ?_
          clear hF hD
          go_simp
          exact hK _ _ (Below.refl _ _) (rt_eqS s139)
        refine obsR_cons ?_ ?_
        · intro T wx K hB hF hD hK
          have g137 := get_eqS (hD 32 137 (by simp [Region.binds]) (by kernel_rfl)) s137
          have g139 := get_eqS (hD 34 139 (by simp [Region.binds]) (by kernel_rfl)) s139
          refine ob_yes (wanted_yes rfl (by kernel_rfl) g137) ?_
          clear hF hD
          have c0 := blk_cell (blk_call H8.out hB) 0 _ rfl
          go_simp
          exact hK _ _ (Below.refl _ _) (rt_eqS s140)
        refine obsR_cons ?_ ?_
        · intro T wx K hB hF hD hK
          have g137 := get_eqS (hD 32 137 (by simp [Region.binds]) (by kernel_rfl)) s137
          have g9 : T[9]? = some (.int .i64 0) := hF 9 (freeM_of (by kernel_rfl))
          refine ob_yes (wanted_yes rfl (by kernel_rfl) g137) ?_
          clear hF hD
          go_simp
          exact hK _ _ (Below.refl _ _) (rt_eqS s141)
        refine obsR_cons ?_ ?_
        · intro T wx K hB hF hD hK
          have g137 := get_eqS (hD 32 137 (by simp [Region.binds]) (by kernel_rfl)) s137
          have g141 := get_eqS (hD 36 141 (by simp [Region.binds]) (by kernel_rfl)) s141
          refine ob_yes (wanted_yes rfl (by kernel_rfl) g137) ?_
          clear hF hD
          go_simp
          exact hK _ _ (Below.refl _ _) (rt_eqS s142)
        refine obsR_cons ?_ ?_
        · intro T wx K hB hF hD hK
          have g137 := get_eqS (hD 32 137 (by simp [Region.binds]) (by kernel_rfl)) s137
          have g7 : T[7]? = some (.pointer (some ⟨b7, 0, none⟩)) := hF 7 (freeM_of (by kernel_rfl))
          have g142 := get_eqS (hD 37 142 (by simp [Region.binds]) (by kernel_rfl)) s142
          refine ob_yes (wanted_yes rfl (by kernel_rfl) g137) ?_
          clear hF hD
          go_simp
          exact hK _ _ (Below.refl _ _) (rt_eqS s143)
        refine obsR_cons ?_ ?_
        · intro T wx K hB hF hD hK
          have g137 := get_eqS (hD 32 137 (by simp [Region.binds]) (by kernel_rfl)) s137
          have g143 := get_eqS (hD 38 143 (by simp [Region.binds]) (by kernel_rfl)) s143
          refine ob_yes (wanted_yes rfl (by kernel_rfl) g137) ?_
          clear hF hD
          have c0 := blk_cell (blk_call H7.out hB) 2 _ rfl
          have c1 := blk_cell (blk_call H7.out hB) 3 _ rfl
          go_simp
          exact hK _ _ (Below.refl _ _) (rt_eqS s144)
        refine obsR_cons ?_ ?_
        · intro T wx K hB hF hD hK
          have g137 := get_eqS (hD 32 137 (by simp [Region.binds]) (by kernel_rfl)) s137
          have g140 := get_eqS (hD 35 140 (by simp [Region.binds]) (by kernel_rfl)) s140
          have g144 := get_eqS (hD 39 144 (by simp [Region.binds]) (by kernel_rfl)) s144
          refine ob_yes (wanted_yes rfl (by kernel_rfl) g137) ?_
          clear hF hD
          go_simp
          refine (locate_at _ 4 4 [(r0_0, r0_1), (r0_2, r0_3), (r0_4, r0_5), (r0_6, r0_7)] a1 b1 0 _ rfl (Lib.hid FX0.out.2.2.2.1) (by simp) (by simp) (prow_below R0.out hB) AV0.out.allr2 (by unfold InR; have := PB.out.2.1; have := WB.out; omega) (by unfold InR; have := PB.out.2.1; have := WB.out; omega)).mono ?_; rintro e w9 ⟨rfl, hb⟩
          exact hK _ _ hb (rt_eqS s145)
        refine obsR_cons ?_ ?_
        · intro T wx K hB hF hD hK
          have g137 := get_eqS (hD 32 137 (by simp [Region.binds]) (by kernel_rfl)) s137
          have g145 := get_eqS (hD 40 145 (by simp [Region.binds]) (by kernel_rfl)) s145
          refine ob_yes (wanted_yes rfl (by kernel_rfl) g137) ?_
          clear hF hD
          go_simp
          exact hK _ _ (Below.refl _ _) (rt_eqS s146)
        refine obsR_cons ?_ ?_
        · intro T wx K hB hF hD hK
          have g137 := get_eqS (hD 32 137 (by simp [Region.binds]) (by kernel_rfl)) s137
          have g146 := get_eqS (hD 41 146 (by simp [Region.binds]) (by kernel_rfl)) s146
          refine ob_yes (wanted_none rfl) ?_
          clear hF hD
          go_simp
          exact hK _ _ (Below.refl _ _) (rt_eqS s147)
        exact obsR_nil
      · intro S0 Y0 hb8 hF hs hD
        have g105 := get_eqS (hD 0 105 (by decide) (by kernel_rfl)) s105
        have g106 := get_eqS (hD 1 106 (by decide) (by kernel_rfl)) s106
        have g107 := get_eqS (hD 2 107 (by decide) (by kernel_rfl)) s107
        have g108 := get_eqS (hD 3 108 (by decide) (by kernel_rfl)) s108
        have g109 := get_eqS (hD 4 109 (by decide) (by kernel_rfl)) s109
        have g110 := get_eqS (hD 5 110 (by decide) (by kernel_rfl)) s110
        have g111 := get_eqS (hD 6 111 (by decide) (by kernel_rfl)) s111
        have g112 := get_eqS (hD 7 112 (by decide) (by kernel_rfl)) s112
        have g113 := get_eqS (hD 8 113 (by decide) (by kernel_rfl)) s113
        have g114 := get_eqS (hD 9 114 (by decide) (by kernel_rfl)) s114
        have g115 := get_eqS (hD 10 115 (by decide) (by kernel_rfl)) s115
        have g116 := get_eqS (hD 11 116 (by decide) (by kernel_rfl)) s116
        have g117 := get_eqS (hD 12 117 (by decide) (by kernel_rfl)) s117
        have g118 := get_eqS (hD 13 118 (by decide) (by kernel_rfl)) s118
        have g119 := get_eqS (hD 14 119 (by decide) (by kernel_rfl)) s119
        have g120 := get_eqS (hD 15 120 (by decide) (by kernel_rfl)) s120
        have g121 := get_eqS (hD 16 121 (by decide) (by kernel_rfl)) s121
        have g122 := get_eqS (hD 17 122 (by decide) (by kernel_rfl)) s122
        have g123 := get_eqS (hD 18 123 (by decide) (by kernel_rfl)) s123
        have g124 := get_eqS (hD 19 124 (by decide) (by kernel_rfl)) s124
        have g125 := get_eqS (hD 20 125 (by decide) (by kernel_rfl)) s125
        have g126 := get_eqS (hD 21 126 (by decide) (by kernel_rfl)) s126
        have g127 := get_eqS (hD 22 127 (by decide) (by kernel_rfl)) s127
        have g128 := get_eqS (hD 23 128 (by decide) (by kernel_rfl)) s128
        have g129 := get_eqS (hD 24 129 (by decide) (by kernel_rfl)) s129
        have g130 := get_eqS (hD 25 130 (by decide) (by kernel_rfl)) s130
        have g131 := get_eqS (hD 26 131 (by decide) (by kernel_rfl)) s131
        have g132 := get_eqS (hD 27 132 (by decide) (by kernel_rfl)) s132
        have g133 := get_eqS (hD 28 133 (by decide) (by kernel_rfl)) s133
        have g134 := get_eqS (hD 29 134 (by decide) (by kernel_rfl)) s134
        have g135 := get_eqS (hD 30 135 (by decide) (by kernel_rfl)) s135
        have g136 := get_eqS (hD 31 136 (by decide) (by kernel_rfl)) s136
        have g137 := get_eqS (hD 32 137 (by decide) (by kernel_rfl)) s137
        have g138 := get_eqS (hD 33 138 (by decide) (by kernel_rfl)) s138
        have g139 := get_eqS (hD 34 139 (by decide) (by kernel_rfl)) s139
        have g140 := get_eqS (hD 35 140 (by decide) (by kernel_rfl)) s140
        have g141 := get_eqS (hD 36 141 (by decide) (by kernel_rfl)) s141
        have g142 := get_eqS (hD 37 142 (by decide) (by kernel_rfl)) s142
        have g143 := get_eqS (hD 38 143 (by decide) (by kernel_rfl)) s143
        have g144 := get_eqS (hD 39 144 (by decide) (by kernel_rfl)) s144
        have g145 := get_eqS (hD 40 145 (by decide) (by kernel_rfl)) s145
        have g146 := get_eqS (hD 41 146 (by decide) (by kernel_rfl)) s146
        have g147 := get_eqS (hD 42 147 (by decide) (by kernel_rfl)) s147
        have hT := conc [(105, .int .i64 0), (106, .pointer (some ⟨b8, 0, none⟩)), (107, .slice (some ⟨g0, 0, none⟩) 4 4), (108, .bool true), (109, .bool false), (110, .bool false), (111, .int .i64 0), (112, .pointer (some ⟨b8, 0, none⟩)), (113, .slice (some ⟨g0, 0, none⟩) 4 4), (114, .int .i64 (4 * n0 * W * 4394000 * 4394000)), (115, .int .i64 0), (116, .pointer (some ⟨w.heap.size, 2, none⟩)), (117, .pointer (some ⟨w.heap.size, 2, none⟩)), (118, .int .i64 n0), (119, .int .i64 (4 * n0)), (120, .pointer (some ⟨w.heap.size, 5, none⟩)), (121, .int .i64 W), (122, .int .i64 (4 * n0 * W)), (123, .int .i64 (4 * n0 * W * 4394000)), (124, .int .i64 (4 * n0 * W * 4394000 * 4394000)), (125, .bool false), (126, .bool false), (127, .bool false), (128, .int .i64 0), (129, .pointer (some ⟨b8, 0, none⟩)), (130, .slice (some ⟨g0, 0, none⟩) 4 4), (131, .int .i64 0), (132, .pointer (some ⟨b7, 0, none⟩)), (133, .agg #[.int .i64 X, .int .i64 Y]), (134, .int .i64 0), (135, .bool false), (136, .bool false), (137, .bool false), (138, .int .i64 0), (139, .pointer (some ⟨b8, 0, none⟩)), (140, .slice (some ⟨g0, 0, none⟩) 4 4), (141, .int .i64 0), (142, .int .i64 1), (143, .pointer (some ⟨b7, 2, none⟩)), (144, .agg #[.int .i64 a1, .int .i64 b1]), (145, .int .i64 0), (146, .bool false), (147, .bool false)] hs hF (by simp only [List.forall_mem_cons]; exact ⟨g105, g106, g107, g108, g109, g110, g111, g112, g113, g114, g115, g116, g117, g118, g119, g120, g121, g122, g123, g124, g125, g126, g127, g128, g129, g130, g131, g132, g133, g134, g135, g136, g137, g138, g139, g140, g141, g142, g143, g144, g145, g146, g147, fun p hp => absurd hp List.not_mem_nil⟩) (by kernel_rfl)
        simp only [List.foldl, List.setIfInBounds_toArray, List.set_cons_succ, List.set_cons_zero] at hT
        subst hT
        clear hF hD hs g105 g106 g107 g108 g109 g110 g111 g112 g113 g114 g115 g116 g117 g118 g119 g120 g121 g122 g123 g124 g125 g126 g127 g128 g129 g130 g131 g132 g133 g134 g135 g136 g137 g138 g139 g140 g141 g142 g143 g144 g145 g146 g147 s105 s106 s107 s108 s109 s110 s111 s112 s113 s114 s115 s116 s117 s118 s119 s120 s121 s122 s123 s124 s125 s126 s127 s128 s129 s130 s131 s132 s133 s134 s135 s136 s137 s138 s139 s140 s141 s142 s143 s144 s145 s146 s147
        replace HA := Lib.hid (blk_call HA.out hb8)
        replace H7 := Lib.hid (blk_call H7.out hb8)
        replace H8 := Lib.hid (blk_call H8.out hb8)
        replace R0 := Lib.hid (prow_below R0.out hb8)
        replace R1 := Lib.hid (prow_below R1.out hb8)
        replace R2 := Lib.hid (prow_below R2.out hb8)
        replace B := Lib.hid (belT B.out hb8)
        replace TT := Lib.hid (Tab.below TT.out hb8)
        clear hb8
        clear bA i1
        go_wp2_with fail
        rw [rounds_succ]
        have eT := t16 n1
        have c3 := blk_cell HA.out 3 _ rfl
        have nb := NB1.out
        have bN : 0 ≤ (n1 * 274625) ∧ (n1 * 274625) ≤ 10985000 := by have := NB1.out; omega
        have bNN := mul_bd2 (B := 10985000) (C := 10985000) (x := (n1 * 274625)) (c := (n1 * 274625)) (by omega) (by omega)
        go_wp2_with fail
        clear eT nb c3
        obtain ⟨sp, hsp⟩ : ∃ sp : ToldS, sp = [none, none, none, none, none, none, none, none, none, none, none, none, none, none, none, none, none, none, none, none, none, none, none, none, none, none, none, none, none, none, none, none, none, none, none, none, none, some (eqS (.int .i64 1)), some (eqS (.pointer (some ⟨b7, 2, none⟩))), some (eqS (.agg #[.int .i64 a1, .int .i64 b1])), some (eqS (.int .i64 1)), some (eqS (.int .i64 2)), some (eqS (.pointer (some ⟨b7, 4, none⟩))), some (eqS (.agg #[.int .i64 a2, .int .i64 b2])), some (eqS (.int .i64 ((n1 * 274625) * (n1 * 274625)))), some (eqS (.int .i64 (n1 * 274625))), some (eqS (.int .i64 (n1 * 274625))), some (eqS (.int .i64 ((n1 * 274625) * (n1 * 274625)))), some (eqS (.bool false)), some (eqS (.bool false)), some (eqS (.int .i64 1)), some (eqS (.pointer (some ⟨b8, 1, none⟩))), some (eqS (.slice (some ⟨g1, 0, none⟩) 4 4)), some (eqS (.int .i64 4)), some (eqS (.bool false)), some (eqS (.bool false))] := ⟨_, rfl⟩
        have s37 : sp.getD 37 none = some (eqS (.int .i64 1)) := by rw [hsp]; rfl
        have s38 : sp.getD 38 none = some (eqS (.pointer (some ⟨b7, 2, none⟩))) := by rw [hsp]; rfl
        have s39 : sp.getD 39 none = some (eqS (.agg #[.int .i64 a1, .int .i64 b1])) := by rw [hsp]; rfl
        have s40 : sp.getD 40 none = some (eqS (.int .i64 1)) := by rw [hsp]; rfl
        have s41 : sp.getD 41 none = some (eqS (.int .i64 2)) := by rw [hsp]; rfl
        have s42 : sp.getD 42 none = some (eqS (.pointer (some ⟨b7, 4, none⟩))) := by rw [hsp]; rfl
        have s43 : sp.getD 43 none = some (eqS (.agg #[.int .i64 a2, .int .i64 b2])) := by rw [hsp]; rfl
        have s44 : sp.getD 44 none = some (eqS (.int .i64 ((n1 * 274625) * (n1 * 274625)))) := by rw [hsp]; rfl
        have s45 : sp.getD 45 none = some (eqS (.int .i64 (n1 * 274625))) := by rw [hsp]; rfl
        have s46 : sp.getD 46 none = some (eqS (.int .i64 (n1 * 274625))) := by rw [hsp]; rfl
        have s47 : sp.getD 47 none = some (eqS (.int .i64 ((n1 * 274625) * (n1 * 274625)))) := by rw [hsp]; rfl
        have s48 : sp.getD 48 none = some (eqS (.bool false)) := by rw [hsp]; rfl
        have s49 : sp.getD 49 none = some (eqS (.bool false)) := by rw [hsp]; rfl
        have s50 : sp.getD 50 none = some (eqS (.int .i64 1)) := by rw [hsp]; rfl
        have s51 : sp.getD 51 none = some (eqS (.pointer (some ⟨b8, 1, none⟩))) := by rw [hsp]; rfl
        have s52 : sp.getD 52 none = some (eqS (.slice (some ⟨g1, 0, none⟩) 4 4)) := by rw [hsp]; rfl
        have s53 : sp.getD 53 none = some (eqS (.int .i64 4)) := by rw [hsp]; rfl
        have s54 : sp.getD 54 none = some (eqS (.bool false)) := by rw [hsp]; rfl
        have s55 : sp.getD 55 none = some (eqS (.bool false)) := by rw [hsp]; rfl
        clear hsp
        refine (wpIn_wide (n := 0)).1 (region_allR (RtS sp) (rtS_keep sp) rfl rfl rfl (by kernel_rfl) (by kernel_rfl) (by kernel_rfl) ?_ ?_)
        · intro Q'
          refine obsR_cons ?_ ?_
          · intro T wx K hB hF hD hK
            have g9 : T[9]? = some (.int .i64 1) := hF 9 (freeM_of (by kernel_rfl))
            refine ob_yes (wanted_none rfl) ?_
            clear hF hD
            go_simp
            exact hK _ _ (Below.refl _ _) (rt_eqS s37)
          refine obsR_cons ?_ ?_
          · intro T wx K hB hF hD hK
            have g7 : T[7]? = some (.pointer (some ⟨b7, 0, none⟩)) := hF 7 (freeM_of (by kernel_rfl))
            have g37 := get_eqS (hD 0 37 (by simp [Region.binds]) (by kernel_rfl)) s37
            refine ob_yes (wanted_none rfl) ?_
            clear hF hD
            go_simp
            exact hK _ _ (Below.refl _ _) (rt_eqS s38)
          refine obsR_cons ?_ ?_
          · intro T wx K hB hF hD hK
            have g38 := get_eqS (hD 1 38 (by simp [Region.binds]) (by kernel_rfl)) s38
            refine ob_yes (wanted_none rfl) ?_
            clear hF hD
            have c0 := blk_cell (blk_call H7.out hB) 2 _ rfl
            have c1 := blk_cell (blk_call H7.out hB) 3 _ rfl
            go_simp
            exact hK _ _ (Below.refl _ _) (rt_eqS s39)
          refine obsR_cons ?_ ?_
          · intro T wx K hB hF hD hK
            have g9 : T[9]? = some (.int .i64 1) := hF 9 (freeM_of (by kernel_rfl))
            refine ob_yes (wanted_none rfl) ?_
            clear hF hD
            go_simp
            exact hK _ _ (Below.refl _ _) (rt_eqS s40)
          refine obsR_cons ?_ ?_
          · intro T wx K hB hF hD hK
            have g40 := get_eqS (hD 3 40 (by simp [Region.binds]) (by kernel_rfl)) s40
            refine ob_yes (wanted_none rfl) ?_
            clear hF hD
            go_simp
            exact hK _ _ (Below.refl _ _) (rt_eqS s41)
          refine obsR_cons ?_ ?_
          · intro T wx K hB hF hD hK
            have g7 : T[7]? = some (.pointer (some ⟨b7, 0, none⟩)) := hF 7 (freeM_of (by kernel_rfl))
            have g41 := get_eqS (hD 4 41 (by simp [Region.binds]) (by kernel_rfl)) s41
            refine ob_yes (wanted_none rfl) ?_
            clear hF hD
            go_simp
            exact hK _ _ (Below.refl _ _) (rt_eqS s42)
          refine obsR_cons ?_ ?_
          · intro T wx K hB hF hD hK
            have g42 := get_eqS (hD 5 42 (by simp [Region.binds]) (by kernel_rfl)) s42
            refine ob_yes (wanted_none rfl) ?_
            clear hF hD
            have c0 := blk_cell (blk_call H7.out hB) 4 _ rfl
            have c1 := blk_cell (blk_call H7.out hB) 5 _ rfl
            go_simp
            exact hK _ _ (Below.refl _ _) (rt_eqS s43)
          refine obsR_cons ?_ ?_
          · intro T wx K hB hF hD hK
            have g39 := get_eqS (hD 2 39 (by simp [Region.binds]) (by kernel_rfl)) s39
            have g43 := get_eqS (hD 6 43 (by simp [Region.binds]) (by kernel_rfl)) s43
            refine ob_yes (wanted_none rfl) ?_
            clear hF hD
            go_simp
            refine (lfar_is a1 b1 a2 b2 ((n1 * 274625) * (n1 * 274625)) _ (Lib.hid FX1.out.2.2.2.2.2.2.1) (by have := PB.out.2.1; have := WB.out; omega) (by have := PB.out.2.1; have := WB.out; omega) (by have := PB.out.2.2.1; have := WB.out; omega) (by have := PB.out.2.2.1; have := WB.out; omega)).mono ?_; rintro e w9 ⟨rfl, hb⟩
            exact hK _ _ hb (rt_eqS s44)
          refine obsR_cons ?_ ?_
          · intro T wx K hB hF hD hK
            have g10 : T[10]? = some (.int .i64 (n1 * 274625)) := hF 10 (freeM_of (by kernel_rfl))
            refine ob_yes (wanted_none rfl) ?_
            clear hF hD
            go_simp
            exact hK _ _ (Below.refl _ _) (rt_eqS s45)
          refine obsR_cons ?_ ?_
          · intro T wx K hB hF hD hK
            have g10 : T[10]? = some (.int .i64 (n1 * 274625)) := hF 10 (freeM_of (by kernel_rfl))
            refine ob_yes (wanted_none rfl) ?_
            clear hF hD
            go_simp
            exact hK _ _ (Below.refl _ _) (rt_eqS s46)
          refine obsR_cons ?_ ?_
          · intro T wx K hB hF hD hK
            have g45 := get_eqS (hD 8 45 (by simp [Region.binds]) (by kernel_rfl)) s45
            have g46 := get_eqS (hD 9 46 (by simp [Region.binds]) (by kernel_rfl)) s46
            refine ob_yes (wanted_none rfl) ?_
            clear hF hD
            go_simp
            rw [wrapb _ (by omega)]
            exact hK _ _ (Below.refl _ _) (rt_eqS s47)
          refine obsR_cons ?_ ?_
          · intro T wx K hB hF hD hK
            have g44 := get_eqS (hD 7 44 (by simp [Region.binds]) (by kernel_rfl)) s44
            have g47 := get_eqS (hD 10 47 (by simp [Region.binds]) (by kernel_rfl)) s47
            refine ob_yes (wanted_none rfl) ?_
            clear hF hD
            go_simp
            exact hK _ _ (Below.refl _ _) (rt_eqS s48)
          refine obsR_cons ?_ ?_
          · intro T wx K hB hF hD hK
            have g48 := get_eqS (hD 11 48 (by simp [Region.binds]) (by kernel_rfl)) s48
            refine ob_yes (wanted_none rfl) ?_
            clear hF hD
            go_simp
            exact hK _ _ (Below.refl _ _) (rt_eqS s49)
          refine obsR_cons ?_ ?_
          · intro T wx K hB hF hD hK
            have g49 := get_eqS (hD 12 49 (by simp [Region.binds]) (by kernel_rfl)) s49
            have g9 : T[9]? = some (.int .i64 1) := hF 9 (freeM_of (by kernel_rfl))
            refine ob_yes (wanted_yes rfl (by kernel_rfl) g49) ?_
            clear hF hD
            go_simp
            exact hK _ _ (Below.refl _ _) (rt_eqS s50)
          refine obsR_cons ?_ ?_
          · intro T wx K hB hF hD hK
            have g49 := get_eqS (hD 12 49 (by simp [Region.binds]) (by kernel_rfl)) s49
            have g8 : T[8]? = some (.pointer (some ⟨b8, 0, none⟩)) := hF 8 (freeM_of (by kernel_rfl))
            have g50 := get_eqS (hD 13 50 (by simp [Region.binds]) (by kernel_rfl)) s50
            refine ob_yes (wanted_yes rfl (by kernel_rfl) g49) ?_
            clear hF hD
            go_simp
            exact hK _ _ (Below.refl _ _) (rt_eqS s51)
          refine obsR_cons ?_ ?_
          · intro T wx K hB hF hD hK
            have g49 := get_eqS (hD 12 49 (by simp [Region.binds]) (by kernel_rfl)) s49
            have g51 := get_eqS (hD 14 51 (by simp [Region.binds]) (by kernel_rfl)) s51
            refine ob_yes (wanted_yes rfl (by kernel_rfl) g49) ?_
            clear hF hD
            have c0 := blk_cell (blk_call H8.out hB) 1 _ rfl
            go_simp
            exact hK _ _ (Below.refl _ _) (rt_eqS s52)
          refine obsR_cons ?_ ?_
          · intro T wx K hB hF hD hK
            have g49 := get_eqS (hD 12 49 (by simp [Region.binds]) (by kernel_rfl)) s49
            have g52 := get_eqS (hD 15 52 (by simp [Region.binds]) (by kernel_rfl)) s52
            refine ob_yes (wanted_yes rfl (by kernel_rfl) g49) ?_
            clear hF hD
            go_simp
            exact hK _ _ (Below.refl _ _) (rt_eqS s53)
          refine obsR_cons ?_ ?_
          · intro T wx K hB hF hD hK
            have g49 := get_eqS (hD 12 49 (by simp [Region.binds]) (by kernel_rfl)) s49
            have g53 := get_eqS (hD 16 53 (by simp [Region.binds]) (by kernel_rfl)) s53
            refine ob_yes (wanted_yes rfl (by kernel_rfl) g49) ?_
            clear hF hD
            go_simp
            exact hK _ _ (Below.refl _ _) (rt_eqS s54)
          refine obsR_cons ?_ ?_
          · intro T wx K hB hF hD hK
            have g49 := get_eqS (hD 12 49 (by simp [Region.binds]) (by kernel_rfl)) s49
            have g54 := get_eqS (hD 17 54 (by simp [Region.binds]) (by kernel_rfl)) s54
            refine ob_yes (wanted_none rfl) ?_
            clear hF hD
            go_simp
            exact hK _ _ (Below.refl _ _) (rt_eqS s55)
          exact obsR_nil
        · intro T1 U1 hb8 hF hs hD
          have g37 := get_eqS (hD 0 37 (by decide) (by kernel_rfl)) s37
          have g38 := get_eqS (hD 1 38 (by decide) (by kernel_rfl)) s38
          have g39 := get_eqS (hD 2 39 (by decide) (by kernel_rfl)) s39
          have g40 := get_eqS (hD 3 40 (by decide) (by kernel_rfl)) s40
          have g41 := get_eqS (hD 4 41 (by decide) (by kernel_rfl)) s41
          have g42 := get_eqS (hD 5 42 (by decide) (by kernel_rfl)) s42
          have g43 := get_eqS (hD 6 43 (by decide) (by kernel_rfl)) s43
          have g44 := get_eqS (hD 7 44 (by decide) (by kernel_rfl)) s44
          have g45 := get_eqS (hD 8 45 (by decide) (by kernel_rfl)) s45
          have g46 := get_eqS (hD 9 46 (by decide) (by kernel_rfl)) s46
          have g47 := get_eqS (hD 10 47 (by decide) (by kernel_rfl)) s47
          have g48 := get_eqS (hD 11 48 (by decide) (by kernel_rfl)) s48
          have g49 := get_eqS (hD 12 49 (by decide) (by kernel_rfl)) s49
          have g50 := get_eqS (hD 13 50 (by decide) (by kernel_rfl)) s50
          have g51 := get_eqS (hD 14 51 (by decide) (by kernel_rfl)) s51
          have g52 := get_eqS (hD 15 52 (by decide) (by kernel_rfl)) s52
          have g53 := get_eqS (hD 16 53 (by decide) (by kernel_rfl)) s53
          have g54 := get_eqS (hD 17 54 (by decide) (by kernel_rfl)) s54
          have g55 := get_eqS (hD 18 55 (by decide) (by kernel_rfl)) s55
          have hT := conc [(37, .int .i64 1), (38, .pointer (some ⟨b7, 2, none⟩)), (39, .agg #[.int .i64 a1, .int .i64 b1]), (40, .int .i64 1), (41, .int .i64 2), (42, .pointer (some ⟨b7, 4, none⟩)), (43, .agg #[.int .i64 a2, .int .i64 b2]), (44, .int .i64 ((n1 * 274625) * (n1 * 274625))), (45, .int .i64 (n1 * 274625)), (46, .int .i64 (n1 * 274625)), (47, .int .i64 ((n1 * 274625) * (n1 * 274625))), (48, .bool false), (49, .bool false), (50, .int .i64 1), (51, .pointer (some ⟨b8, 1, none⟩)), (52, .slice (some ⟨g1, 0, none⟩) 4 4), (53, .int .i64 4), (54, .bool false), (55, .bool false)] hs hF (by simp only [List.forall_mem_cons]; exact ⟨g37, g38, g39, g40, g41, g42, g43, g44, g45, g46, g47, g48, g49, g50, g51, g52, g53, g54, g55, fun p hp => absurd hp List.not_mem_nil⟩) (by kernel_rfl)
          simp only [List.foldl, List.setIfInBounds_toArray, List.set_cons_succ, List.set_cons_zero] at hT
          subst hT
          clear hF hD hs g37 g38 g39 g40 g41 g42 g43 g44 g45 g46 g47 g48 g49 g50 g51 g52 g53 g54 g55 s37 s38 s39 s40 s41 s42 s43 s44 s45 s46 s47 s48 s49 s50 s51 s52 s53 s54 s55
          replace HA := Lib.hid (blk_call HA.out hb8)
          replace H7 := Lib.hid (blk_call H7.out hb8)
          replace H8 := Lib.hid (blk_call H8.out hb8)
          replace R0 := Lib.hid (prow_below R0.out hb8)
          replace R1 := Lib.hid (prow_below R1.out hb8)
          replace R2 := Lib.hid (prow_below R2.out hb8)
          replace B := Lib.hid (belT B.out hb8)
          replace TT := Lib.hid (Tab.below TT.out hb8)
          clear hb8
          clear bN bNN
          go_wp2_with fail
          refine wp_loop_rounds 5 ?_
          rw [rounds_succ]
          have c1 := blk_cell H8.out 1 _ rfl
          obtain ⟨e0, e1⟩ := prow_c R1.out 0 (by simp) 0 1 rfl rfl
          simp only [List.getD_cons_zero, List.getD_cons_succ] at e0 e1
          go_wp2_with fail
          refine (may_any r1_0 r1_1 true _ (Lib.hid (may_of (PC1.out (r1_0, r1_1) (by simp))))).mono ?_
          rintro e w9 ⟨rfl, hb9⟩
          clear c1 e0 e1
          replace HA := Lib.hid (blk_call (blk_alloc HA.out (.cells #[.int .i64 r1_0, .int .i64 r1_1] 23)) hb9)
          replace H7 := Lib.hid (blk_call (blk_alloc H7.out (.cells #[.int .i64 r1_0, .int .i64 r1_1] 23)) hb9)
          replace H8 := Lib.hid (blk_call (blk_alloc H8.out (.cells #[.int .i64 r1_0, .int .i64 r1_1] 23)) hb9)
          replace R0 := Lib.hid (prow_below (prow_alloc R0.out (.cells #[.int .i64 r1_0, .int .i64 r1_1] 23)) hb9)
          replace R1 := Lib.hid (prow_below (prow_alloc R1.out (.cells #[.int .i64 r1_0, .int .i64 r1_1] 23)) hb9)
          replace R2 := Lib.hid (prow_below (prow_alloc R2.out (.cells #[.int .i64 r1_0, .int .i64 r1_1] 23)) hb9)
          have HC := Lib.hid (blk_call (blk_new U1 (.cells #[.int .i64 r1_0, .int .i64 r1_1] 23) (U1.heap.size) rfl) hb9)
          replace B := Lib.hid (belT (belA B.out (.cells #[.int .i64 r1_0, .int .i64 r1_1] 23)) hb9)
          replace TT := Lib.hid (Tab.below (Tab.alloc TT.out (.cells #[.int .i64 r1_0, .int .i64 r1_1] 23)) hb9)
          clear hb9
          have c0 := blk_cell HC.out 0 _ rfl
          have c1 := blk_cell HC.out 1 _ rfl
          have z0 := tm16 (FX1.out.2.2.2.2.1 (r1_0, r1_1) (by simp)).1
          have z1 := tm16 (FX1.out.2.2.2.2.1 (r1_0, r1_1) (by simp)).2
          skip
          go_wp2_with fail
          clear HC z0 z1 c0 c1
          rw [rounds_succ]
          have c1 := blk_cell H8.out 1 _ rfl
          obtain ⟨e0, e1⟩ := prow_c R1.out 1 (by simp) 2 3 rfl rfl
          simp only [List.getD_cons_zero, List.getD_cons_succ] at e0 e1
          go_wp2_with fail
          refine (may_any r1_2 r1_3 true _ (Lib.hid (may_of (PC1.out (r1_2, r1_3) (by simp))))).mono ?_
          rintro e w10 ⟨rfl, hb10⟩
          clear c1 e0 e1
          replace HA := Lib.hid (blk_call (blk_alloc HA.out (.cells #[.int .i64 r1_2, .int .i64 r1_3] 23)) hb10)
          replace H7 := Lib.hid (blk_call (blk_alloc H7.out (.cells #[.int .i64 r1_2, .int .i64 r1_3] 23)) hb10)
          replace H8 := Lib.hid (blk_call (blk_alloc H8.out (.cells #[.int .i64 r1_2, .int .i64 r1_3] 23)) hb10)
          replace R0 := Lib.hid (prow_below (prow_alloc R0.out (.cells #[.int .i64 r1_2, .int .i64 r1_3] 23)) hb10)
          replace R1 := Lib.hid (prow_below (prow_alloc R1.out (.cells #[.int .i64 r1_2, .int .i64 r1_3] 23)) hb10)
          replace R2 := Lib.hid (prow_below (prow_alloc R2.out (.cells #[.int .i64 r1_2, .int .i64 r1_3] 23)) hb10)
          have HC := Lib.hid (blk_call (blk_new w9 (.cells #[.int .i64 r1_2, .int .i64 r1_3] 23) (w9.heap.size) rfl) hb10)
          replace B := Lib.hid (belT (belA B.out (.cells #[.int .i64 r1_2, .int .i64 r1_3] 23)) hb10)
          replace TT := Lib.hid (Tab.below (Tab.alloc TT.out (.cells #[.int .i64 r1_2, .int .i64 r1_3] 23)) hb10)
          clear hb10
          have c0 := blk_cell HC.out 0 _ rfl
          have c1 := blk_cell HC.out 1 _ rfl
          have z0 := tm16 (FX1.out.2.2.2.2.1 (r1_2, r1_3) (by simp)).1
          have z1 := tm16 (FX1.out.2.2.2.2.1 (r1_2, r1_3) (by simp)).2
          skip
          go_wp2_with fail
          clear HC z0 z1 c0 c1
          rw [rounds_succ]
          have c1 := blk_cell H8.out 1 _ rfl
          obtain ⟨e0, e1⟩ := prow_c R1.out 2 (by simp) 4 5 rfl rfl
          simp only [List.getD_cons_zero, List.getD_cons_succ] at e0 e1
          go_wp2_with fail
          refine (may_any r1_4 r1_5 true _ (Lib.hid (may_of (PC1.out (r1_4, r1_5) (by simp))))).mono ?_
          rintro e w11 ⟨rfl, hb11⟩
          clear c1 e0 e1
          replace HA := Lib.hid (blk_call (blk_alloc HA.out (.cells #[.int .i64 r1_4, .int .i64 r1_5] 23)) hb11)
          replace H7 := Lib.hid (blk_call (blk_alloc H7.out (.cells #[.int .i64 r1_4, .int .i64 r1_5] 23)) hb11)
          replace H8 := Lib.hid (blk_call (blk_alloc H8.out (.cells #[.int .i64 r1_4, .int .i64 r1_5] 23)) hb11)
          replace R0 := Lib.hid (prow_below (prow_alloc R0.out (.cells #[.int .i64 r1_4, .int .i64 r1_5] 23)) hb11)
          replace R1 := Lib.hid (prow_below (prow_alloc R1.out (.cells #[.int .i64 r1_4, .int .i64 r1_5] 23)) hb11)
          replace R2 := Lib.hid (prow_below (prow_alloc R2.out (.cells #[.int .i64 r1_4, .int .i64 r1_5] 23)) hb11)
          have HC := Lib.hid (blk_call (blk_new w10 (.cells #[.int .i64 r1_4, .int .i64 r1_5] 23) (w10.heap.size) rfl) hb11)
          replace B := Lib.hid (belT (belA B.out (.cells #[.int .i64 r1_4, .int .i64 r1_5] 23)) hb11)
          replace TT := Lib.hid (Tab.below (Tab.alloc TT.out (.cells #[.int .i64 r1_4, .int .i64 r1_5] 23)) hb11)
          clear hb11
          have c0 := blk_cell HC.out 0 _ rfl
          have c1 := blk_cell HC.out 1 _ rfl
          have z0 := tm16 (FX1.out.2.2.2.2.1 (r1_4, r1_5) (by simp)).1
          have z1 := tm16 (FX1.out.2.2.2.2.1 (r1_4, r1_5) (by simp)).2
          skip
          go_wp2_with fail
          clear HC z0 z1 c0 c1
          rw [rounds_succ]
          have c1 := blk_cell H8.out 1 _ rfl
          obtain ⟨e0, e1⟩ := prow_c R1.out 3 (by simp) 6 7 rfl rfl
          simp only [List.getD_cons_zero, List.getD_cons_succ] at e0 e1
          go_wp2_with fail
          refine (may_any r1_6 r1_7 true _ (Lib.hid (may_of (PC1.out (r1_6, r1_7) (by simp))))).mono ?_
          rintro e w12 ⟨rfl, hb12⟩
          clear c1 e0 e1
          replace HA := Lib.hid (blk_call (blk_alloc HA.out (.cells #[.int .i64 r1_6, .int .i64 r1_7] 23)) hb12)
          replace H7 := Lib.hid (blk_call (blk_alloc H7.out (.cells #[.int .i64 r1_6, .int .i64 r1_7] 23)) hb12)
          replace H8 := Lib.hid (blk_call (blk_alloc H8.out (.cells #[.int .i64 r1_6, .int .i64 r1_7] 23)) hb12)
          replace R0 := Lib.hid (prow_below (prow_alloc R0.out (.cells #[.int .i64 r1_6, .int .i64 r1_7] 23)) hb12)
          replace R1 := Lib.hid (prow_below (prow_alloc R1.out (.cells #[.int .i64 r1_6, .int .i64 r1_7] 23)) hb12)
          replace R2 := Lib.hid (prow_below (prow_alloc R2.out (.cells #[.int .i64 r1_6, .int .i64 r1_7] 23)) hb12)
          have HC := Lib.hid (blk_call (blk_new w11 (.cells #[.int .i64 r1_6, .int .i64 r1_7] 23) (w11.heap.size) rfl) hb12)
          replace B := Lib.hid (belT (belA B.out (.cells #[.int .i64 r1_6, .int .i64 r1_7] 23)) hb12)
          replace TT := Lib.hid (Tab.below (Tab.alloc TT.out (.cells #[.int .i64 r1_6, .int .i64 r1_7] 23)) hb12)
          clear hb12
          have c0 := blk_cell HC.out 0 _ rfl
          have c1 := blk_cell HC.out 1 _ rfl
          have z0 := tm16 (FX1.out.2.2.2.2.1 (r1_6, r1_7) (by simp)).1
          have z1 := tm16 (FX1.out.2.2.2.2.1 (r1_6, r1_7) (by simp)).2
          skip
          go_wp2_with fail
          clear HC z0 z1 c0 c1
          rw [rounds_succ]
          have c4 := blk_cell H7.out 4 _ rfl
          have c5 := blk_cell H7.out 5 _ rfl
          go_wp2_with fail
          refine (may_any a2 b2 true _ (Lib.hid (may_of (by unfold InV; have := PB.out.2.2.1; have := WB.out; omega)))).mono ?_
          rintro e w13 ⟨rfl, hb13⟩
          clear c4 c5
          replace HA := Lib.hid (blk_call HA.out hb13)
          replace H7 := Lib.hid (blk_call H7.out hb13)
          replace H8 := Lib.hid (blk_call H8.out hb13)
          replace R0 := Lib.hid (prow_below R0.out hb13)
          replace R1 := Lib.hid (prow_below R1.out hb13)
          replace R2 := Lib.hid (prow_below R2.out hb13)
          replace B := Lib.hid (belT B.out hb13)
          replace TT := Lib.hid (Tab.below TT.out hb13)
          clear hb13
          have c4 := blk_cell H7.out 4 _ rfl
          have c5 := blk_cell H7.out 5 _ rfl
          have z0 := tm16 FX1.out.2.2.2.2.2.2.2.1
          have z1 := tm16 FX1.out.2.2.2.2.2.2.2.2
          go_wp2_with fail
          clear z0 z1 c4 c5
          have AV1 := Lib.hid (allv_mem PC1.out)
          have bA : 1 ≤ 4 * n1 * W ∧ 4 * n1 * W ≤ 640 := by have i1 := NB1.out; have i2 := WB.out; have := far_bdI (n := 4 * n1) (u := W) (M := 4) (by omega) (by omega); have := Int.mul_pos (show 0 < 4 * n1 by omega) (show 0 < W by omega); omega
          have i1 := NB1.out
          obtain ⟨sp, hsp⟩ : ∃ sp : ToldS, sp = [none, none, none, none, none, none, none, none, none, none, none, none, none, none, none, none, none, none, none, none, none, none, none, none, none, none, none, none, none, none, none, none, none, none, none, none, none, none, none, none, none, none, none, none, none, none, none, none, none, none, none, none, none, none, none, none, none, none, none, none, none, none, none, none, none, none, none, none, none, none, none, none, none, none, none, none, none, none, none, none, none, none, none, none, none, none, none, none, none, none, none, none, none, none, none, none, none, none, none, none, none, none, none, none, none, some (eqS (.int .i64 1)), some (eqS (.pointer (some ⟨b8, 1, none⟩))), some (eqS (.slice (some ⟨g1, 0, none⟩) 4 4)), some (eqS (.bool true)), some (eqS (.bool false)), some (eqS (.bool false)), some (eqS (.int .i64 1)), some (eqS (.pointer (some ⟨b8, 1, none⟩))), some (eqS (.slice (some ⟨g1, 0, none⟩) 4 4)), some (eqS (.int .i64 (4 * n1 * W * 4394000 * 4394000))), some (eqS (.int .i64 1)), some (eqS (.pointer (some ⟨w.heap.size, 2, none⟩))), some (eqS (.pointer (some ⟨w.heap.size, 3, none⟩))), some (eqS (.int .i64 n1)), some (eqS (.int .i64 (4 * n1))), some (eqS (.pointer (some ⟨w.heap.size, 5, none⟩))), some (eqS (.int .i64 W)), some (eqS (.int .i64 (4 * n1 * W))), some (eqS (.int .i64 (4 * n1 * W * 4394000))), some (eqS (.int .i64 (4 * n1 * W * 4394000 * 4394000))), some (eqS (.bool false)), some (eqS (.bool false)), some (eqS (.bool false)), some (eqS (.int .i64 1)), some (eqS (.pointer (some ⟨b8, 1, none⟩))), some (eqS (.slice (some ⟨g1, 0, none⟩) 4 4)), some (eqS (.int .i64 1)), some (eqS (.pointer (some ⟨b7, 2, none⟩))), some (eqS (.agg #[.int .i64 a1, .int .i64 b1])), some (eqS (.int .i64 0)), some (eqS (.bool false)), some (eqS (.bool false)), some (eqS (.bool false)), some (eqS (.int .i64 1)), some (eqS (.pointer (some ⟨b8, 1, none⟩))), some (eqS (.slice (some ⟨g1, 0, none⟩) 4 4)), some (eqS (.int .i64 1)), some (eqS (.int .i64 2)), some (eqS (.pointer (some ⟨b7, 4, none⟩))), some (eqS (.agg #[.int .i64 a2, .int .i64 b2])), some (eqS (.int .i64 0)), some (eqS (.bool false)), some (eqS (.bool false))] := ⟨_, rfl⟩
          have s105 : sp.getD 105 none = some (eqS (.int .i64 1)) := by rw [hsp]; rfl
          have s106 : sp.getD 106 none = some (eqS (.pointer (some ⟨b8, 1, none⟩))) := by rw [hsp]; rfl
          have s107 : sp.getD 107 none = some (eqS (.slice (some ⟨g1, 0, none⟩) 4 4)) := by rw [hsp]; rfl
          have s108 : sp.getD 108 none = some (eqS (.bool true)) := by rw [hsp]; rfl
          have s109 : sp.getD 109 none = some (eqS (.bool false)) := by rw [hsp]; rfl
          have s110 : sp.getD 110 none = some (eqS (.bool false)) := by rw [hsp]; rfl
          have s111 : sp.getD 111 none = some (eqS (.int .i64 1)) := by rw [hsp]; rfl
          have s112 : sp.getD 112 none = some (eqS (.pointer (some ⟨b8, 1, none⟩))) := by rw [hsp]; rfl
          have s113 : sp.getD 113 none = some (eqS (.slice (some ⟨g1, 0, none⟩) 4 4)) := by rw [hsp]; rfl
          have s114 : sp.getD 114 none = some (eqS (.int .i64 (4 * n1 * W * 4394000 * 4394000))) := by rw [hsp]; rfl
          have s115 : sp.getD 115 none = some (eqS (.int .i64 1)) := by rw [hsp]; rfl
          have s116 : sp.getD 116 none = some (eqS (.pointer (some ⟨w.heap.size, 2, none⟩))) := by rw [hsp]; rfl
          have s117 : sp.getD 117 none = some (eqS (.pointer (some ⟨w.heap.size, 3, none⟩))) := by rw [hsp]; rfl
          have s118 : sp.getD 118 none = some (eqS (.int .i64 n1)) := by rw [hsp]; rfl
          have s119 : sp.getD 119 none = some (eqS (.int .i64 (4 * n1))) := by rw [hsp]; rfl
          have s120 : sp.getD 120 none = some (eqS (.pointer (some ⟨w.heap.size, 5, none⟩))) := by rw [hsp]; rfl
          have s121 : sp.getD 121 none = some (eqS (.int .i64 W)) := by rw [hsp]; rfl
          have s122 : sp.getD 122 none = some (eqS (.int .i64 (4 * n1 * W))) := by rw [hsp]; rfl
          have s123 : sp.getD 123 none = some (eqS (.int .i64 (4 * n1 * W * 4394000))) := by rw [hsp]; rfl
          have s124 : sp.getD 124 none = some (eqS (.int .i64 (4 * n1 * W * 4394000 * 4394000))) := by rw [hsp]; rfl
          have s125 : sp.getD 125 none = some (eqS (.bool false)) := by rw [hsp]; rfl
          have s126 : sp.getD 126 none = some (eqS (.bool false)) := by rw [hsp]; rfl
          have s127 : sp.getD 127 none = some (eqS (.bool false)) := by rw [hsp]; rfl
          have s128 : sp.getD 128 none = some (eqS (.int .i64 1)) := by rw [hsp]; rfl
          have s129 : sp.getD 129 none = some (eqS (.pointer (some ⟨b8, 1, none⟩))) := by rw [hsp]; rfl
          have s130 : sp.getD 130 none = some (eqS (.slice (some ⟨g1, 0, none⟩) 4 4)) := by rw [hsp]; rfl
          have s131 : sp.getD 131 none = some (eqS (.int .i64 1)) := by rw [hsp]; rfl
          have s132 : sp.getD 132 none = some (eqS (.pointer (some ⟨b7, 2, none⟩))) := by rw [hsp]; rfl
          have s133 : sp.getD 133 none = some (eqS (.agg #[.int .i64 a1, .int .i64 b1])) := by rw [hsp]; rfl
          have s134 : sp.getD 134 none = some (eqS (.int .i64 0)) := by rw [hsp]; rfl
          have s135 : sp.getD 135 none = some (eqS (.bool false)) := by rw [hsp]; rfl
          have s136 : sp.getD 136 none = some (eqS (.bool false)) := by rw [hsp]; rfl
          have s137 : sp.getD 137 none = some (eqS (.bool false)) := by rw [hsp]; rfl
          have s138 : sp.getD 138 none = some (eqS (.int .i64 1)) := by rw [hsp]; rfl
          have s139 : sp.getD 139 none = some (eqS (.pointer (some ⟨b8, 1, none⟩))) := by rw [hsp]; rfl
          have s140 : sp.getD 140 none = some (eqS (.slice (some ⟨g1, 0, none⟩) 4 4)) := by rw [hsp]; rfl
          have s141 : sp.getD 141 none = some (eqS (.int .i64 1)) := by rw [hsp]; rfl
          have s142 : sp.getD 142 none = some (eqS (.int .i64 2)) := by rw [hsp]; rfl
          have s143 : sp.getD 143 none = some (eqS (.pointer (some ⟨b7, 4, none⟩))) := by rw [hsp]; rfl
          have s144 : sp.getD 144 none = some (eqS (.agg #[.int .i64 a2, .int .i64 b2])) := by rw [hsp]; rfl
          have s145 : sp.getD 145 none = some (eqS (.int .i64 0)) := by rw [hsp]; rfl
          have s146 : sp.getD 146 none = some (eqS (.bool false)) := by rw [hsp]; rfl
          have s147 : sp.getD 147 none = some (eqS (.bool false)) := by rw [hsp]; rfl
          clear hsp
          refine (wpIn_wide (n := 0)).1 (region_allR (RtS sp) (rtS_keep sp) rfl rfl rfl (by kernel_rfl) (by kernel_rfl) (by kernel_rfl) ?_ ?_)
          · intro Q'
            refine obsR_cons ?_ ?_
            · intro T wx K hB hF hD hK
              have g9 : T[9]? = some (.int .i64 1) := hF 9 (freeM_of (by kernel_rfl))
              refine ob_yes (wanted_none rfl) ?_
              clear hF hD
              go_simp
              exact hK _ _ (Below.refl _ _) (rt_eqS s105)
            refine obsR_cons ?_ ?_
            · intro T wx K hB hF hD hK
              have g8 : T[8]? = some (.pointer (some ⟨b8, 0, none⟩)) := hF 8 (freeM_of (by kernel_rfl))
              have g105 := get_eqS (hD 0 105 (by simp [Region.binds]) (by kernel_rfl)) s105
              refine ob_yes (wanted_none rfl) ?_
              clear hF hD
              go_simp
              exact hK _ _ (Below.refl _ _) (rt_eqS s106)
            refine obsR_cons ?_ ?_
            · intro T wx K hB hF hD hK
              have g106 := get_eqS (hD 1 106 (by simp [Region.binds]) (by kernel_rfl)) s106
              refine ob_yes (wanted_none rfl) ?_
              clear hF hD
              have c0 := blk_cell (blk_call H8.out hB) 1 _ rfl
              go_simp
              exact hK _ _ (Below.refl _ _) (rt_eqS s107)
            refine obsR_cons ?_ ?_
            · intro T wx K hB hF hD hK
              have g107 := get_eqS (hD 2 107 (by simp [Region.binds]) (by kernel_rfl)) s107
              refine ob_yes (wanted_none rfl) ?_
              clear hF hD
              go_simp
              refine (valid_is _ 4 4 [(r1_0, r1_1), (r1_2, r1_3), (r1_4, r1_5), (r1_6, r1_7)] true _ rfl (Lib.hid FX1.out.1) (by simp) (prow_below R1.out hB)).mono ?_; rintro e w9 ⟨rfl, hb⟩
              exact hK _ _ hb (rt_eqS s108)
            refine obsR_cons ?_ ?_
            · intro T wx K hB hF hD hK
              have g108 := get_eqS (hD 3 108 (by simp [Region.binds]) (by kernel_rfl)) s108
              refine ob_yes (wanted_none rfl) ?_
              clear hF hD
              go_simp
              exact hK _ _ (Below.refl _ _) (rt_eqS s109)
            refine obsR_cons ?_ ?_
            · intro T wx K hB hF hD hK
              have g109 := get_eqS (hD 4 109 (by simp [Region.binds]) (by kernel_rfl)) s109
              refine ob_yes (wanted_none rfl) ?_
              clear hF hD
              go_simp
              exact hK _ _ (Below.refl _ _) (rt_eqS s110)
            refine obsR_cons ?_ ?_
            · intro T wx K hB hF hD hK
              have g110 := get_eqS (hD 5 110 (by simp [Region.binds]) (by kernel_rfl)) s110
              have g9 : T[9]? = some (.int .i64 1) := hF 9 (freeM_of (by kernel_rfl))
              refine ob_yes (wanted_yes rfl (by kernel_rfl) g110) ?_
              clear hF hD
              go_simp
              exact hK _ _ (Below.refl _ _) (rt_eqS s111)
            refine obsR_cons ?_ ?_
            · intro T wx K hB hF hD hK
              have g110 := get_eqS (hD 5 110 (by simp [Region.binds]) (by kernel_rfl)) s110
              have g8 : T[8]? = some (.pointer (some ⟨b8, 0, none⟩)) := hF 8 (freeM_of (by kernel_rfl))
              have g111 := get_eqS (hD 6 111 (by simp [Region.binds]) (by kernel_rfl)) s111
              refine ob_yes (wanted_yes rfl (by kernel_rfl) g110) ?_
              clear hF hD
              go_simp
              exact hK _ _ (Below.refl _ _) (rt_eqS s112)
            refine obsR_cons ?_ ?_
            · intro T wx K hB hF hD hK
              have g110 := get_eqS (hD 5 110 (by simp [Region.binds]) (by kernel_rfl)) s110
              have g112 := get_eqS (hD 7 112 (by simp [Region.binds]) (by kernel_rfl)) s112
              refine ob_yes (wanted_yes rfl (by kernel_rfl) g110) ?_
              clear hF hD
              have c0 := blk_cell (blk_call H8.out hB) 1 _ rfl
              go_simp
              exact hK _ _ (Below.refl _ _) (rt_eqS s113)
            refine obsR_cons ?_ ?_
            · intro T wx K hB hF hD hK
              have g110 := get_eqS (hD 5 110 (by simp [Region.binds]) (by kernel_rfl)) s110
              have g113 := get_eqS (hD 8 113 (by simp [Region.binds]) (by kernel_rfl)) s113
              refine ob_yes (wanted_yes rfl (by kernel_rfl) g110) ?_
              clear hF hD
              go_simp
              refine (area_at _ 4 4 [(r1_0, r1_1), (r1_2, r1_3), (r1_4, r1_5), (r1_6, r1_7)] (4 * n1 * W * 4394000 * 4394000) _ rfl (Lib.hid FX1.out.2.1) (by simp) (by simp) (prow_below R1.out hB) AV1.out).mono ?_; rintro e w9 ⟨rfl, hb⟩
              exact hK _ _ hb (rt_eqS s114)
            refine obsR_cons ?_ ?_
            · intro T wx K hB hF hD hK
              have g110 := get_eqS (hD 5 110 (by simp [Region.binds]) (by kernel_rfl)) s110
              have g9 : T[9]? = some (.int .i64 1) := hF 9 (freeM_of (by kernel_rfl))
              refine ob_yes (wanted_yes rfl (by kernel_rfl) g110) ?_
              clear hF hD
              go_simp
              exact hK _ _ (Below.refl _ _) (rt_eqS s115)
            refine obsR_cons ?_ ?_
            · intro T wx K hB hF hD hK
              have g110 := get_eqS (hD 5 110 (by simp [Region.binds]) (by kernel_rfl)) s110
              have g2 : T[2]? = some (.pointer (some ⟨w.heap.size, 0, none⟩)) := hF 2 (freeM_of (by kernel_rfl))
              refine ob_yes (wanted_yes rfl (by kernel_rfl) g110) ?_
              clear hF hD
              go_simp
              exact hK _ _ (Below.refl _ _) (rt_eqS s116)
            refine obsR_cons ?_ ?_
            · intro T wx K hB hF hD hK
              have g110 := get_eqS (hD 5 110 (by simp [Region.binds]) (by kernel_rfl)) s110
              have g116 := get_eqS (hD 11 116 (by simp [Region.binds]) (by kernel_rfl)) s116
              have g115 := get_eqS (hD 10 115 (by simp [Region.binds]) (by kernel_rfl)) s115
              refine ob_yes (wanted_yes rfl (by kernel_rfl) g110) ?_
              clear hF hD
              go_simp
              exact hK _ _ (Below.refl _ _) (rt_eqS s117)
            refine obsR_cons ?_ ?_
            · intro T wx K hB hF hD hK
              have g110 := get_eqS (hD 5 110 (by simp [Region.binds]) (by kernel_rfl)) s110
              have g117 := get_eqS (hD 12 117 (by simp [Region.binds]) (by kernel_rfl)) s117
              refine ob_yes (wanted_yes rfl (by kernel_rfl) g110) ?_
              clear hF hD
              have c0 := blk_cell (blk_call HA.out hB) 3 _ rfl
              go_simp
              exact hK _ _ (Below.refl _ _) (rt_eqS s118)
            refine obsR_cons ?_ ?_
            · intro T wx K hB hF hD hK
              have g110 := get_eqS (hD 5 110 (by simp [Region.binds]) (by kernel_rfl)) s110
              have g118 := get_eqS (hD 13 118 (by simp [Region.binds]) (by kernel_rfl)) s118
              refine ob_yes (wanted_yes rfl (by kernel_rfl) g110) ?_
              clear hF hD
              go_simp
              rw [wrapb _ (by omega)]
              exact hK _ _ (Below.refl _ _) (rt_eqS s119)
            refine obsR_cons ?_ ?_
            · intro T wx K hB hF hD hK
              have g110 := get_eqS (hD 5 110 (by simp [Region.binds]) (by kernel_rfl)) s110
              have g2 : T[2]? = some (.pointer (some ⟨w.heap.size, 0, none⟩)) := hF 2 (freeM_of (by kernel_rfl))
              refine ob_yes (wanted_yes rfl (by kernel_rfl) g110) ?_
              clear hF hD
              go_simp
              exact hK _ _ (Below.refl _ _) (rt_eqS s120)
            refine obsR_cons ?_ ?_
            · intro T wx K hB hF hD hK
              have g110 := get_eqS (hD 5 110 (by simp [Region.binds]) (by kernel_rfl)) s110
              have g120 := get_eqS (hD 15 120 (by simp [Region.binds]) (by kernel_rfl)) s120
              refine ob_yes (wanted_yes rfl (by kernel_rfl) g110) ?_
              clear hF hD
              have c0 := blk_cell (blk_call HA.out hB) 5 _ rfl
              go_simp
              exact hK _ _ (Below.refl _ _) (rt_eqS s121)
            refine obsR_cons ?_ ?_
            · intro T wx K hB hF hD hK
              have g110 := get_eqS (hD 5 110 (by simp [Region.binds]) (by kernel_rfl)) s110
              have g119 := get_eqS (hD 14 119 (by simp [Region.binds]) (by kernel_rfl)) s119
              have g121 := get_eqS (hD 16 121 (by simp [Region.binds]) (by kernel_rfl)) s121
              refine ob_yes (wanted_yes rfl (by kernel_rfl) g110) ?_
              clear hF hD
              go_simp
              rw [wrapb _ (by omega)]
              exact hK _ _ (Below.refl _ _) (rt_eqS s122)
            refine obsR_cons ?_ ?_
            · intro T wx K hB hF hD hK
              have g110 := get_eqS (hD 5 110 (by simp [Region.binds]) (by kernel_rfl)) s110
              have g122 := get_eqS (hD 17 122 (by simp [Region.binds]) (by kernel_rfl)) s122
              refine ob_yes (wanted_yes rfl (by kernel_rfl) g110) ?_
              clear hF hD
              go_simp
              rw [wrapb _ (by omega)]
              exact hK _ _ (Below.refl _ _) (rt_eqS s123)
            refine obsR_cons ?_ ?_
            · intro T wx K hB hF hD hK
              have g110 := get_eqS (hD 5 110 (by simp [Region.binds]) (by kernel_rfl)) s110
              have g123 := get_eqS (hD 18 123 (by simp [Region.binds]) (by kernel_rfl)) s123
              refine ob_yes (wanted_yes rfl (by kernel_rfl) g110) ?_
              clear hF hD
              go_simp
              rw [wrapb _ (by omega)]
              exact hK _ _ (Below.refl _ _) (rt_eqS s124)
            refine obsR_cons ?_ ?_
            · intro T wx K hB hF hD hK
              have g110 := get_eqS (hD 5 110 (by simp [Region.binds]) (by kernel_rfl)) s110
              have g114 := get_eqS (hD 9 114 (by simp [Region.binds]) (by kernel_rfl)) s114
              have g124 := get_eqS (hD 19 124 (by simp [Region.binds]) (by kernel_rfl)) s124
              refine ob_yes (wanted_yes rfl (by kernel_rfl) g110) ?_
              clear hF hD
              go_simp
              exact hK _ _ (Below.refl _ _) (rt_eqS s125)
            refine obsR_cons ?_ ?_
            · intro T wx K hB hF hD hK
              have g110 := get_eqS (hD 5 110 (by simp [Region.binds]) (by kernel_rfl)) s110
              have g125 := get_eqS (hD 20 125 (by simp [Region.binds]) (by kernel_rfl)) s125
              refine ob_yes (wanted_none rfl) ?_
              clear hF hD
              go_simp
              exact hK _ _ (Below.refl _ _) (rt_eqS s126)
            refine obsR_cons ?_ ?_
            · intro T wx K hB hF hD hK
              have g126 := get_eqS (hD 21 126 (by simp [Region.binds]) (by kernel_rfl)) s126
              refine ob_yes (wanted_none rfl) ?_
              clear hF hD
              go_simp
              exact hK _ _ (Below.refl _ _) (rt_eqS s127)
            refine obsR_cons ?_ ?_
            · intro T wx K hB hF hD hK
              have g127 := get_eqS (hD 22 127 (by simp [Region.binds]) (by kernel_rfl)) s127
              have g9 : T[9]? = some (.int .i64 1) := hF 9 (freeM_of (by kernel_rfl))
              refine ob_yes (wanted_yes rfl (by kernel_rfl) g127) ?_
              clear hF hD
              go_simp
              exact hK _ _ (Below.refl _ _) (rt_eqS s128)
            refine obsR_cons ?_ ?_
            · intro T wx K hB hF hD hK
              have g127 := get_eqS (hD 22 127 (by simp [Region.binds]) (by kernel_rfl)) s127
              have g8 : T[8]? = some (.pointer (some ⟨b8, 0, none⟩)) := hF 8 (freeM_of (by kernel_rfl))
              have g128 := get_eqS (hD 23 128 (by simp [Region.binds]) (by kernel_rfl)) s128
              refine ob_yes (wanted_yes rfl (by kernel_rfl) g127) ?_
              clear hF hD
              go_simp
              exact hK _ _ (Below.refl _ _) (rt_eqS s129)
            refine obsR_cons ?_ ?_
            · intro T wx K hB hF hD hK
              have g127 := get_eqS (hD 22 127 (by simp [Region.binds]) (by kernel_rfl)) s127
              have g129 := get_eqS (hD 24 129 (by simp [Region.binds]) (by kernel_rfl)) s129
              refine ob_yes (wanted_yes rfl (by kernel_rfl) g127) ?_
              clear hF hD
              have c0 := blk_cell (blk_call H8.out hB) 1 _ rfl
              go_simp
              exact hK _ _ (Below.refl _ _) (rt_eqS s130)
            refine obsR_cons ?_ ?_
            · intro T wx K hB hF hD hK
              have g127 := get_eqS (hD 22 127 (by simp [Region.binds]) (by kernel_rfl)) s127
              have g9 : T[9]? = some (.int .i64 1) := hF 9 (freeM_of (by kernel_rfl))
              refine ob_yes (wanted_yes rfl (by kernel_rfl) g127) ?_
              clear hF hD
              go_simp
              exact hK _ _ (Below.refl _ _) (rt_eqS s131)
            refine obsR_cons ?_ ?_
            · intro T wx K hB hF hD hK
              have g127 := get_eqS (hD 22 127 (by simp [Region.binds]) (by kernel_rfl)) s127
              have g7 : T[7]? = some (.pointer (some ⟨b7, 0, none⟩)) := hF 7 (freeM_of (by kernel_rfl))
              have g131 := get_eqS (hD 26 131 (by simp [Region.binds]) (by kernel_rfl)) s131
              refine ob_yes (wanted_yes rfl (by kernel_rfl) g127) ?_
              clear hF hD
              go_simp
              exact hK _ _ (Below.refl _ _) (rt_eqS s132)
            refine obsR_cons ?_ ?_
            · intro T wx K hB hF hD hK
              have g127 := get_eqS (hD 22 127 (by simp [Region.binds]) (by kernel_rfl)) s127
              have g132 := get_eqS (hD 27 132 (by simp [Region.binds]) (by kernel_rfl)) s132
              refine ob_yes (wanted_yes rfl (by kernel_rfl) g127) ?_
              clear hF hD
              have c0 := blk_cell (blk_call H7.out hB) 2 _ rfl
              have c1 := blk_cell (blk_call H7.out hB) 3 _ rfl
              go_simp
              exact hK _ _ (Below.refl _ _) (rt_eqS s133)
            refine obsR_cons ?_ ?_
            · intro T wx K hB hF hD hK
              have g127 := get_eqS (hD 22 127 (by simp [Region.binds]) (by kernel_rfl)) s127
              have g130 := get_eqS (hD 25 130 (by simp [Region.binds]) (by kernel_rfl)) s130
              have g133 := get_eqS (hD 28 133 (by simp [Region.binds]) (by kernel_rfl)) s133
              refine ob_yes (wanted_yes rfl (by kernel_rfl) g127) ?_
              clear hF hD
              go_simp
              refine (locate_at _ 4 4 [(r1_0, r1_1), (r1_2, r1_3), (r1_4, r1_5), (r1_6, r1_7)] a1 b1 0 _ rfl (Lib.hid FX1.out.2.2.1) (by simp) (by simp) (prow_below R1.out hB) AV1.out.allr2 (by unfold InR; have := PB.out.2.1; have := WB.out; omega) (by unfold InR; have := PB.out.2.1; have := WB.out; omega)).mono ?_; rintro e w9 ⟨rfl, hb⟩
              exact hK _ _ hb (rt_eqS s134)
            refine obsR_cons ?_ ?_
            · intro T wx K hB hF hD hK
              have g127 := get_eqS (hD 22 127 (by simp [Region.binds]) (by kernel_rfl)) s127
              have g134 := get_eqS (hD 29 134 (by simp [Region.binds]) (by kernel_rfl)) s134
              refine ob_yes (wanted_yes rfl (by kernel_rfl) g127) ?_
              clear hF hD
              go_simp
              exact hK _ _ (Below.refl _ _) (rt_eqS s135)
            refine obsR_cons ?_ ?_
            · intro T wx K hB hF hD hK
              have g127 := get_eqS (hD 22 127 (by simp [Region.binds]) (by kernel_rfl)) s127
              have g135 := get_eqS (hD 30 135 (by simp [Region.binds]) (by kernel_rfl)) s135
              refine ob_yes (wanted_none rfl) ?_
              clear hF hD
              go_simp
              exact hK _ _ (Below.refl _ _) (rt_eqS s136)
            refine obsR_cons ?_ ?_
            · intro T wx K hB hF hD hK
              have g136 := get_eqS (hD 31 136 (by simp [Region.binds]) (by kernel_rfl)) s136
              refine ob_yes (wanted_none rfl) ?_
              clear hF hD
              go_simp
              exact hK _ _ (Below.refl _ _) (rt_eqS s137)
            refine obsR_cons ?_ ?_
            · intro T wx K hB hF hD hK
              have g137 := get_eqS (hD 32 137 (by simp [Region.binds]) (by kernel_rfl)) s137
              have g9 : T[9]? = some (.int .i64 1) := hF 9 (freeM_of (by kernel_rfl))
              refine ob_yes (wanted_yes rfl (by kernel_rfl) g137) ?_
              clear hF hD
              go_simp
              exact hK _ _ (Below.refl _ _) (rt_eqS s138)
            refine obsR_cons ?_ ?_
            · intro T wx K hB hF hD hK
              have g137 := get_eqS (hD 32 137 (by simp [Region.binds]) (by kernel_rfl)) s137
              have g8 : T[8]? = some (.pointer (some ⟨b8, 0, none⟩)) := hF 8 (freeM_of (by kernel_rfl))
              have g138 := get_eqS (hD 33 138 (by simp [Region.binds]) (by kernel_rfl)) s138
              refine ob_yes (wanted_yes rfl (by kernel_rfl) g137) ?_
              clear hF hD
              go_simp
              exact hK _ _ (Below.refl _ _) (rt_eqS s139)
            refine obsR_cons ?_ ?_
            · intro T wx K hB hF hD hK
              have g137 := get_eqS (hD 32 137 (by simp [Region.binds]) (by kernel_rfl)) s137
              have g139 := get_eqS (hD 34 139 (by simp [Region.binds]) (by kernel_rfl)) s139
              refine ob_yes (wanted_yes rfl (by kernel_rfl) g137) ?_
              clear hF hD
              have c0 := blk_cell (blk_call H8.out hB) 1 _ rfl
              go_simp
              exact hK _ _ (Below.refl _ _) (rt_eqS s140)
            refine obsR_cons ?_ ?_
            · intro T wx K hB hF hD hK
              have g137 := get_eqS (hD 32 137 (by simp [Region.binds]) (by kernel_rfl)) s137
              have g9 : T[9]? = some (.int .i64 1) := hF 9 (freeM_of (by kernel_rfl))
              refine ob_yes (wanted_yes rfl (by kernel_rfl) g137) ?_
              clear hF hD
              go_simp
              exact hK _ _ (Below.refl _ _) (rt_eqS s141)
            refine obsR_cons ?_ ?_
            · intro T wx K hB hF hD hK
              have g137 := get_eqS (hD 32 137 (by simp [Region.binds]) (by kernel_rfl)) s137
              have g141 := get_eqS (hD 36 141 (by simp [Region.binds]) (by kernel_rfl)) s141
              refine ob_yes (wanted_yes rfl (by kernel_rfl) g137) ?_
              clear hF hD
              go_simp
              exact hK _ _ (Below.refl _ _) (rt_eqS s142)
            refine obsR_cons ?_ ?_
            · intro T wx K hB hF hD hK
              have g137 := get_eqS (hD 32 137 (by simp [Region.binds]) (by kernel_rfl)) s137
              have g7 : T[7]? = some (.pointer (some ⟨b7, 0, none⟩)) := hF 7 (freeM_of (by kernel_rfl))
              have g142 := get_eqS (hD 37 142 (by simp [Region.binds]) (by kernel_rfl)) s142
              refine ob_yes (wanted_yes rfl (by kernel_rfl) g137) ?_
              clear hF hD
              go_simp
              exact hK _ _ (Below.refl _ _) (rt_eqS s143)
            refine obsR_cons ?_ ?_
            · intro T wx K hB hF hD hK
              have g137 := get_eqS (hD 32 137 (by simp [Region.binds]) (by kernel_rfl)) s137
              have g143 := get_eqS (hD 38 143 (by simp [Region.binds]) (by kernel_rfl)) s143
              refine ob_yes (wanted_yes rfl (by kernel_rfl) g137) ?_
              clear hF hD
              have c0 := blk_cell (blk_call H7.out hB) 4 _ rfl
              have c1 := blk_cell (blk_call H7.out hB) 5 _ rfl
              go_simp
              exact hK _ _ (Below.refl _ _) (rt_eqS s144)
            refine obsR_cons ?_ ?_
            · intro T wx K hB hF hD hK
              have g137 := get_eqS (hD 32 137 (by simp [Region.binds]) (by kernel_rfl)) s137
              have g140 := get_eqS (hD 35 140 (by simp [Region.binds]) (by kernel_rfl)) s140
              have g144 := get_eqS (hD 39 144 (by simp [Region.binds]) (by kernel_rfl)) s144
              refine ob_yes (wanted_yes rfl (by kernel_rfl) g137) ?_
              clear hF hD
              go_simp
              refine (locate_at _ 4 4 [(r1_0, r1_1), (r1_2, r1_3), (r1_4, r1_5), (r1_6, r1_7)] a2 b2 0 _ rfl (Lib.hid FX1.out.2.2.2.1) (by simp) (by simp) (prow_below R1.out hB) AV1.out.allr2 (by unfold InR; have := PB.out.2.2.1; have := WB.out; omega) (by unfold InR; have := PB.out.2.2.1; have := WB.out; omega)).mono ?_; rintro e w9 ⟨rfl, hb⟩
              exact hK _ _ hb (rt_eqS s145)
            refine obsR_cons ?_ ?_
            · intro T wx K hB hF hD hK
              have g137 := get_eqS (hD 32 137 (by simp [Region.binds]) (by kernel_rfl)) s137
              have g145 := get_eqS (hD 40 145 (by simp [Region.binds]) (by kernel_rfl)) s145
              refine ob_yes (wanted_yes rfl (by kernel_rfl) g137) ?_
              clear hF hD
              go_simp
              exact hK _ _ (Below.refl _ _) (rt_eqS s146)
            refine obsR_cons ?_ ?_
            · intro T wx K hB hF hD hK
              have g137 := get_eqS (hD 32 137 (by simp [Region.binds]) (by kernel_rfl)) s137
              have g146 := get_eqS (hD 41 146 (by simp [Region.binds]) (by kernel_rfl)) s146
              refine ob_yes (wanted_none rfl) ?_
              clear hF hD
              go_simp
              exact hK _ _ (Below.refl _ _) (rt_eqS s147)
            exact obsR_nil
          · intro S1 Y1 hb8 hF hs hD
            have g105 := get_eqS (hD 0 105 (by decide) (by kernel_rfl)) s105
            have g106 := get_eqS (hD 1 106 (by decide) (by kernel_rfl)) s106
            have g107 := get_eqS (hD 2 107 (by decide) (by kernel_rfl)) s107
            have g108 := get_eqS (hD 3 108 (by decide) (by kernel_rfl)) s108
            have g109 := get_eqS (hD 4 109 (by decide) (by kernel_rfl)) s109
            have g110 := get_eqS (hD 5 110 (by decide) (by kernel_rfl)) s110
            have g111 := get_eqS (hD 6 111 (by decide) (by kernel_rfl)) s111
            have g112 := get_eqS (hD 7 112 (by decide) (by kernel_rfl)) s112
            have g113 := get_eqS (hD 8 113 (by decide) (by kernel_rfl)) s113
            have g114 := get_eqS (hD 9 114 (by decide) (by kernel_rfl)) s114
            have g115 := get_eqS (hD 10 115 (by decide) (by kernel_rfl)) s115
            have g116 := get_eqS (hD 11 116 (by decide) (by kernel_rfl)) s116
            have g117 := get_eqS (hD 12 117 (by decide) (by kernel_rfl)) s117
            have g118 := get_eqS (hD 13 118 (by decide) (by kernel_rfl)) s118
            have g119 := get_eqS (hD 14 119 (by decide) (by kernel_rfl)) s119
            have g120 := get_eqS (hD 15 120 (by decide) (by kernel_rfl)) s120
            have g121 := get_eqS (hD 16 121 (by decide) (by kernel_rfl)) s121
            have g122 := get_eqS (hD 17 122 (by decide) (by kernel_rfl)) s122
            have g123 := get_eqS (hD 18 123 (by decide) (by kernel_rfl)) s123
            have g124 := get_eqS (hD 19 124 (by decide) (by kernel_rfl)) s124
            have g125 := get_eqS (hD 20 125 (by decide) (by kernel_rfl)) s125
            have g126 := get_eqS (hD 21 126 (by decide) (by kernel_rfl)) s126
            have g127 := get_eqS (hD 22 127 (by decide) (by kernel_rfl)) s127
            have g128 := get_eqS (hD 23 128 (by decide) (by kernel_rfl)) s128
            have g129 := get_eqS (hD 24 129 (by decide) (by kernel_rfl)) s129
            have g130 := get_eqS (hD 25 130 (by decide) (by kernel_rfl)) s130
            have g131 := get_eqS (hD 26 131 (by decide) (by kernel_rfl)) s131
            have g132 := get_eqS (hD 27 132 (by decide) (by kernel_rfl)) s132
            have g133 := get_eqS (hD 28 133 (by decide) (by kernel_rfl)) s133
            have g134 := get_eqS (hD 29 134 (by decide) (by kernel_rfl)) s134
            have g135 := get_eqS (hD 30 135 (by decide) (by kernel_rfl)) s135
            have g136 := get_eqS (hD 31 136 (by decide) (by kernel_rfl)) s136
            have g137 := get_eqS (hD 32 137 (by decide) (by kernel_rfl)) s137
            have g138 := get_eqS (hD 33 138 (by decide) (by kernel_rfl)) s138
            have g139 := get_eqS (hD 34 139 (by decide) (by kernel_rfl)) s139
            have g140 := get_eqS (hD 35 140 (by decide) (by kernel_rfl)) s140
            have g141 := get_eqS (hD 36 141 (by decide) (by kernel_rfl)) s141
            have g142 := get_eqS (hD 37 142 (by decide) (by kernel_rfl)) s142
            have g143 := get_eqS (hD 38 143 (by decide) (by kernel_rfl)) s143
            have g144 := get_eqS (hD 39 144 (by decide) (by kernel_rfl)) s144
            have g145 := get_eqS (hD 40 145 (by decide) (by kernel_rfl)) s145
            have g146 := get_eqS (hD 41 146 (by decide) (by kernel_rfl)) s146
            have g147 := get_eqS (hD 42 147 (by decide) (by kernel_rfl)) s147
            have hT := conc [(105, .int .i64 1), (106, .pointer (some ⟨b8, 1, none⟩)), (107, .slice (some ⟨g1, 0, none⟩) 4 4), (108, .bool true), (109, .bool false), (110, .bool false), (111, .int .i64 1), (112, .pointer (some ⟨b8, 1, none⟩)), (113, .slice (some ⟨g1, 0, none⟩) 4 4), (114, .int .i64 (4 * n1 * W * 4394000 * 4394000)), (115, .int .i64 1), (116, .pointer (some ⟨w.heap.size, 2, none⟩)), (117, .pointer (some ⟨w.heap.size, 3, none⟩)), (118, .int .i64 n1), (119, .int .i64 (4 * n1)), (120, .pointer (some ⟨w.heap.size, 5, none⟩)), (121, .int .i64 W), (122, .int .i64 (4 * n1 * W)), (123, .int .i64 (4 * n1 * W * 4394000)), (124, .int .i64 (4 * n1 * W * 4394000 * 4394000)), (125, .bool false), (126, .bool false), (127, .bool false), (128, .int .i64 1), (129, .pointer (some ⟨b8, 1, none⟩)), (130, .slice (some ⟨g1, 0, none⟩) 4 4), (131, .int .i64 1), (132, .pointer (some ⟨b7, 2, none⟩)), (133, .agg #[.int .i64 a1, .int .i64 b1]), (134, .int .i64 0), (135, .bool false), (136, .bool false), (137, .bool false), (138, .int .i64 1), (139, .pointer (some ⟨b8, 1, none⟩)), (140, .slice (some ⟨g1, 0, none⟩) 4 4), (141, .int .i64 1), (142, .int .i64 2), (143, .pointer (some ⟨b7, 4, none⟩)), (144, .agg #[.int .i64 a2, .int .i64 b2]), (145, .int .i64 0), (146, .bool false), (147, .bool false)] hs hF (by simp only [List.forall_mem_cons]; exact ⟨g105, g106, g107, g108, g109, g110, g111, g112, g113, g114, g115, g116, g117, g118, g119, g120, g121, g122, g123, g124, g125, g126, g127, g128, g129, g130, g131, g132, g133, g134, g135, g136, g137, g138, g139, g140, g141, g142, g143, g144, g145, g146, g147, fun p hp => absurd hp List.not_mem_nil⟩) (by kernel_rfl)
            simp only [List.foldl, List.setIfInBounds_toArray, List.set_cons_succ, List.set_cons_zero] at hT
            subst hT
            clear hF hD hs g105 g106 g107 g108 g109 g110 g111 g112 g113 g114 g115 g116 g117 g118 g119 g120 g121 g122 g123 g124 g125 g126 g127 g128 g129 g130 g131 g132 g133 g134 g135 g136 g137 g138 g139 g140 g141 g142 g143 g144 g145 g146 g147 s105 s106 s107 s108 s109 s110 s111 s112 s113 s114 s115 s116 s117 s118 s119 s120 s121 s122 s123 s124 s125 s126 s127 s128 s129 s130 s131 s132 s133 s134 s135 s136 s137 s138 s139 s140 s141 s142 s143 s144 s145 s146 s147
            replace HA := Lib.hid (blk_call HA.out hb8)
            replace H7 := Lib.hid (blk_call H7.out hb8)
            replace H8 := Lib.hid (blk_call H8.out hb8)
            replace R0 := Lib.hid (prow_below R0.out hb8)
            replace R1 := Lib.hid (prow_below R1.out hb8)
            replace R2 := Lib.hid (prow_below R2.out hb8)
            replace B := Lib.hid (belT B.out hb8)
            replace TT := Lib.hid (Tab.below TT.out hb8)
            clear hb8
            clear bA i1
            go_wp2_with fail
            rw [rounds_succ]
            have eT := t16 n2
            have c4 := blk_cell HA.out 4 _ rfl
            have nb := NB2.out
            have bN : 0 ≤ (n2 * 274625) ∧ (n2 * 274625) ≤ 10985000 := by have := NB2.out; omega
            have bNN := mul_bd2 (B := 10985000) (C := 10985000) (x := (n2 * 274625)) (c := (n2 * 274625)) (by omega) (by omega)
            go_wp2_with fail
            clear eT nb c4
            obtain ⟨sp, hsp⟩ : ∃ sp : ToldS, sp = [none, none, none, none, none, none, none, none, none, none, none, none, none, none, none, none, none, none, none, none, none, none, none, none, none, none, none, none, none, none, none, none, none, none, none, none, none, some (eqS (.int .i64 2)), some (eqS (.pointer (some ⟨b7, 4, none⟩))), some (eqS (.agg #[.int .i64 a2, .int .i64 b2])), some (eqS (.int .i64 2)), some (eqS (.int .i64 3)), some (eqS (.pointer (some ⟨b7, 6, none⟩))), some (eqS (.agg #[.int .i64 a3, .int .i64 b3])), some (eqS (.int .i64 ((n2 * 274625) * (n2 * 274625)))), some (eqS (.int .i64 (n2 * 274625))), some (eqS (.int .i64 (n2 * 274625))), some (eqS (.int .i64 ((n2 * 274625) * (n2 * 274625)))), some (eqS (.bool false)), some (eqS (.bool false)), some (eqS (.int .i64 2)), some (eqS (.pointer (some ⟨b8, 2, none⟩))), some (eqS (.slice (some ⟨g2, 0, none⟩) 4 4)), some (eqS (.int .i64 4)), some (eqS (.bool false)), some (eqS (.bool false))] := ⟨_, rfl⟩
            have s37 : sp.getD 37 none = some (eqS (.int .i64 2)) := by rw [hsp]; rfl
            have s38 : sp.getD 38 none = some (eqS (.pointer (some ⟨b7, 4, none⟩))) := by rw [hsp]; rfl
            have s39 : sp.getD 39 none = some (eqS (.agg #[.int .i64 a2, .int .i64 b2])) := by rw [hsp]; rfl
            have s40 : sp.getD 40 none = some (eqS (.int .i64 2)) := by rw [hsp]; rfl
            have s41 : sp.getD 41 none = some (eqS (.int .i64 3)) := by rw [hsp]; rfl
            have s42 : sp.getD 42 none = some (eqS (.pointer (some ⟨b7, 6, none⟩))) := by rw [hsp]; rfl
            have s43 : sp.getD 43 none = some (eqS (.agg #[.int .i64 a3, .int .i64 b3])) := by rw [hsp]; rfl
            have s44 : sp.getD 44 none = some (eqS (.int .i64 ((n2 * 274625) * (n2 * 274625)))) := by rw [hsp]; rfl
            have s45 : sp.getD 45 none = some (eqS (.int .i64 (n2 * 274625))) := by rw [hsp]; rfl
            have s46 : sp.getD 46 none = some (eqS (.int .i64 (n2 * 274625))) := by rw [hsp]; rfl
            have s47 : sp.getD 47 none = some (eqS (.int .i64 ((n2 * 274625) * (n2 * 274625)))) := by rw [hsp]; rfl
            have s48 : sp.getD 48 none = some (eqS (.bool false)) := by rw [hsp]; rfl
            have s49 : sp.getD 49 none = some (eqS (.bool false)) := by rw [hsp]; rfl
            have s50 : sp.getD 50 none = some (eqS (.int .i64 2)) := by rw [hsp]; rfl
            have s51 : sp.getD 51 none = some (eqS (.pointer (some ⟨b8, 2, none⟩))) := by rw [hsp]; rfl
            have s52 : sp.getD 52 none = some (eqS (.slice (some ⟨g2, 0, none⟩) 4 4)) := by rw [hsp]; rfl
            have s53 : sp.getD 53 none = some (eqS (.int .i64 4)) := by rw [hsp]; rfl
            have s54 : sp.getD 54 none = some (eqS (.bool false)) := by rw [hsp]; rfl
            have s55 : sp.getD 55 none = some (eqS (.bool false)) := by rw [hsp]; rfl
            clear hsp
            refine (wpIn_wide (n := 0)).1 (region_allR (RtS sp) (rtS_keep sp) rfl rfl rfl (by kernel_rfl) (by kernel_rfl) (by kernel_rfl) ?_ ?_)
            · intro Q'
              refine obsR_cons ?_ ?_
              · intro T wx K hB hF hD hK
                have g9 : T[9]? = some (.int .i64 2) := hF 9 (freeM_of (by kernel_rfl))
                refine ob_yes (wanted_none rfl) ?_
                clear hF hD
                go_simp
                exact hK _ _ (Below.refl _ _) (rt_eqS s37)
              refine obsR_cons ?_ ?_
              · intro T wx K hB hF hD hK
                have g7 : T[7]? = some (.pointer (some ⟨b7, 0, none⟩)) := hF 7 (freeM_of (by kernel_rfl))
                have g37 := get_eqS (hD 0 37 (by simp [Region.binds]) (by kernel_rfl)) s37
                refine ob_yes (wanted_none rfl) ?_
                clear hF hD
                go_simp
                exact hK _ _ (Below.refl _ _) (rt_eqS s38)
              refine obsR_cons ?_ ?_
              · intro T wx K hB hF hD hK
                have g38 := get_eqS (hD 1 38 (by simp [Region.binds]) (by kernel_rfl)) s38
                refine ob_yes (wanted_none rfl) ?_
                clear hF hD
                have c0 := blk_cell (blk_call H7.out hB) 4 _ rfl
                have c1 := blk_cell (blk_call H7.out hB) 5 _ rfl
                go_simp
                exact hK _ _ (Below.refl _ _) (rt_eqS s39)
              refine obsR_cons ?_ ?_
              · intro T wx K hB hF hD hK
                have g9 : T[9]? = some (.int .i64 2) := hF 9 (freeM_of (by kernel_rfl))
                refine ob_yes (wanted_none rfl) ?_
                clear hF hD
                go_simp
                exact hK _ _ (Below.refl _ _) (rt_eqS s40)
              refine obsR_cons ?_ ?_
              · intro T wx K hB hF hD hK
                have g40 := get_eqS (hD 3 40 (by simp [Region.binds]) (by kernel_rfl)) s40
                refine ob_yes (wanted_none rfl) ?_
                clear hF hD
                go_simp
                exact hK _ _ (Below.refl _ _) (rt_eqS s41)
              refine obsR_cons ?_ ?_
              · intro T wx K hB hF hD hK
                have g7 : T[7]? = some (.pointer (some ⟨b7, 0, none⟩)) := hF 7 (freeM_of (by kernel_rfl))
                have g41 := get_eqS (hD 4 41 (by simp [Region.binds]) (by kernel_rfl)) s41
                refine ob_yes (wanted_none rfl) ?_
                clear hF hD
                go_simp
                exact hK _ _ (Below.refl _ _) (rt_eqS s42)
              refine obsR_cons ?_ ?_
              · intro T wx K hB hF hD hK
                have g42 := get_eqS (hD 5 42 (by simp [Region.binds]) (by kernel_rfl)) s42
                refine ob_yes (wanted_none rfl) ?_
                clear hF hD
                have c0 := blk_cell (blk_call H7.out hB) 6 _ rfl
                have c1 := blk_cell (blk_call H7.out hB) 7 _ rfl
                go_simp
                exact hK _ _ (Below.refl _ _) (rt_eqS s43)
              refine obsR_cons ?_ ?_
              · intro T wx K hB hF hD hK
                have g39 := get_eqS (hD 2 39 (by simp [Region.binds]) (by kernel_rfl)) s39
                have g43 := get_eqS (hD 6 43 (by simp [Region.binds]) (by kernel_rfl)) s43
                refine ob_yes (wanted_none rfl) ?_
                clear hF hD
                go_simp
                refine (lfar_is a2 b2 a3 b3 ((n2 * 274625) * (n2 * 274625)) _ (Lib.hid FX2.out.2.2.2.2.2.2.1) (by have := PB.out.2.2.1; have := WB.out; omega) (by have := PB.out.2.2.1; have := WB.out; omega) (by have := PB.out.2.2.2; have := WB.out; omega) (by have := PB.out.2.2.2; have := WB.out; omega)).mono ?_; rintro e w9 ⟨rfl, hb⟩
                exact hK _ _ hb (rt_eqS s44)
              refine obsR_cons ?_ ?_
              · intro T wx K hB hF hD hK
                have g10 : T[10]? = some (.int .i64 (n2 * 274625)) := hF 10 (freeM_of (by kernel_rfl))
                refine ob_yes (wanted_none rfl) ?_
                clear hF hD
                go_simp
                exact hK _ _ (Below.refl _ _) (rt_eqS s45)
              refine obsR_cons ?_ ?_
              · intro T wx K hB hF hD hK
                have g10 : T[10]? = some (.int .i64 (n2 * 274625)) := hF 10 (freeM_of (by kernel_rfl))
                refine ob_yes (wanted_none rfl) ?_
                clear hF hD
                go_simp
                exact hK _ _ (Below.refl _ _) (rt_eqS s46)
              refine obsR_cons ?_ ?_
              · intro T wx K hB hF hD hK
                have g45 := get_eqS (hD 8 45 (by simp [Region.binds]) (by kernel_rfl)) s45
                have g46 := get_eqS (hD 9 46 (by simp [Region.binds]) (by kernel_rfl)) s46
                refine ob_yes (wanted_none rfl) ?_
                clear hF hD
                go_simp
                rw [wrapb _ (by omega)]
                exact hK _ _ (Below.refl _ _) (rt_eqS s47)
              refine obsR_cons ?_ ?_
              · intro T wx K hB hF hD hK
                have g44 := get_eqS (hD 7 44 (by simp [Region.binds]) (by kernel_rfl)) s44
                have g47 := get_eqS (hD 10 47 (by simp [Region.binds]) (by kernel_rfl)) s47
                refine ob_yes (wanted_none rfl) ?_
                clear hF hD
                go_simp
                exact hK _ _ (Below.refl _ _) (rt_eqS s48)
              refine obsR_cons ?_ ?_
              · intro T wx K hB hF hD hK
                have g48 := get_eqS (hD 11 48 (by simp [Region.binds]) (by kernel_rfl)) s48
                refine ob_yes (wanted_none rfl) ?_
                clear hF hD
                go_simp
                exact hK _ _ (Below.refl _ _) (rt_eqS s49)
              refine obsR_cons ?_ ?_
              · intro T wx K hB hF hD hK
                have g49 := get_eqS (hD 12 49 (by simp [Region.binds]) (by kernel_rfl)) s49
                have g9 : T[9]? = some (.int .i64 2) := hF 9 (freeM_of (by kernel_rfl))
                refine ob_yes (wanted_yes rfl (by kernel_rfl) g49) ?_
                clear hF hD
                go_simp
                exact hK _ _ (Below.refl _ _) (rt_eqS s50)
              refine obsR_cons ?_ ?_
              · intro T wx K hB hF hD hK
                have g49 := get_eqS (hD 12 49 (by simp [Region.binds]) (by kernel_rfl)) s49
                have g8 : T[8]? = some (.pointer (some ⟨b8, 0, none⟩)) := hF 8 (freeM_of (by kernel_rfl))
                have g50 := get_eqS (hD 13 50 (by simp [Region.binds]) (by kernel_rfl)) s50
                refine ob_yes (wanted_yes rfl (by kernel_rfl) g49) ?_
                clear hF hD
                go_simp
                exact hK _ _ (Below.refl _ _) (rt_eqS s51)
              refine obsR_cons ?_ ?_
              · intro T wx K hB hF hD hK
                have g49 := get_eqS (hD 12 49 (by simp [Region.binds]) (by kernel_rfl)) s49
                have g51 := get_eqS (hD 14 51 (by simp [Region.binds]) (by kernel_rfl)) s51
                refine ob_yes (wanted_yes rfl (by kernel_rfl) g49) ?_
                clear hF hD
                have c0 := blk_cell (blk_call H8.out hB) 2 _ rfl
                go_simp
                exact hK _ _ (Below.refl _ _) (rt_eqS s52)
              refine obsR_cons ?_ ?_
              · intro T wx K hB hF hD hK
                have g49 := get_eqS (hD 12 49 (by simp [Region.binds]) (by kernel_rfl)) s49
                have g52 := get_eqS (hD 15 52 (by simp [Region.binds]) (by kernel_rfl)) s52
                refine ob_yes (wanted_yes rfl (by kernel_rfl) g49) ?_
                clear hF hD
                go_simp
                exact hK _ _ (Below.refl _ _) (rt_eqS s53)
              refine obsR_cons ?_ ?_
              · intro T wx K hB hF hD hK
                have g49 := get_eqS (hD 12 49 (by simp [Region.binds]) (by kernel_rfl)) s49
                have g53 := get_eqS (hD 16 53 (by simp [Region.binds]) (by kernel_rfl)) s53
                refine ob_yes (wanted_yes rfl (by kernel_rfl) g49) ?_
                clear hF hD
                go_simp
                exact hK _ _ (Below.refl _ _) (rt_eqS s54)
              refine obsR_cons ?_ ?_
              · intro T wx K hB hF hD hK
                have g49 := get_eqS (hD 12 49 (by simp [Region.binds]) (by kernel_rfl)) s49
                have g54 := get_eqS (hD 17 54 (by simp [Region.binds]) (by kernel_rfl)) s54
                refine ob_yes (wanted_none rfl) ?_
                clear hF hD
                go_simp
                exact hK _ _ (Below.refl _ _) (rt_eqS s55)
              exact obsR_nil
            · intro T2 U2 hb8 hF hs hD
              have g37 := get_eqS (hD 0 37 (by decide) (by kernel_rfl)) s37
              have g38 := get_eqS (hD 1 38 (by decide) (by kernel_rfl)) s38
              have g39 := get_eqS (hD 2 39 (by decide) (by kernel_rfl)) s39
              have g40 := get_eqS (hD 3 40 (by decide) (by kernel_rfl)) s40
              have g41 := get_eqS (hD 4 41 (by decide) (by kernel_rfl)) s41
              have g42 := get_eqS (hD 5 42 (by decide) (by kernel_rfl)) s42
              have g43 := get_eqS (hD 6 43 (by decide) (by kernel_rfl)) s43
              have g44 := get_eqS (hD 7 44 (by decide) (by kernel_rfl)) s44
              have g45 := get_eqS (hD 8 45 (by decide) (by kernel_rfl)) s45
              have g46 := get_eqS (hD 9 46 (by decide) (by kernel_rfl)) s46
              have g47 := get_eqS (hD 10 47 (by decide) (by kernel_rfl)) s47
              have g48 := get_eqS (hD 11 48 (by decide) (by kernel_rfl)) s48
              have g49 := get_eqS (hD 12 49 (by decide) (by kernel_rfl)) s49
              have g50 := get_eqS (hD 13 50 (by decide) (by kernel_rfl)) s50
              have g51 := get_eqS (hD 14 51 (by decide) (by kernel_rfl)) s51
              have g52 := get_eqS (hD 15 52 (by decide) (by kernel_rfl)) s52
              have g53 := get_eqS (hD 16 53 (by decide) (by kernel_rfl)) s53
              have g54 := get_eqS (hD 17 54 (by decide) (by kernel_rfl)) s54
              have g55 := get_eqS (hD 18 55 (by decide) (by kernel_rfl)) s55
              have hT := conc [(37, .int .i64 2), (38, .pointer (some ⟨b7, 4, none⟩)), (39, .agg #[.int .i64 a2, .int .i64 b2]), (40, .int .i64 2), (41, .int .i64 3), (42, .pointer (some ⟨b7, 6, none⟩)), (43, .agg #[.int .i64 a3, .int .i64 b3]), (44, .int .i64 ((n2 * 274625) * (n2 * 274625))), (45, .int .i64 (n2 * 274625)), (46, .int .i64 (n2 * 274625)), (47, .int .i64 ((n2 * 274625) * (n2 * 274625))), (48, .bool false), (49, .bool false), (50, .int .i64 2), (51, .pointer (some ⟨b8, 2, none⟩)), (52, .slice (some ⟨g2, 0, none⟩) 4 4), (53, .int .i64 4), (54, .bool false), (55, .bool false)] hs hF (by simp only [List.forall_mem_cons]; exact ⟨g37, g38, g39, g40, g41, g42, g43, g44, g45, g46, g47, g48, g49, g50, g51, g52, g53, g54, g55, fun p hp => absurd hp List.not_mem_nil⟩) (by kernel_rfl)
              simp only [List.foldl, List.setIfInBounds_toArray, List.set_cons_succ, List.set_cons_zero] at hT
              subst hT
              clear hF hD hs g37 g38 g39 g40 g41 g42 g43 g44 g45 g46 g47 g48 g49 g50 g51 g52 g53 g54 g55 s37 s38 s39 s40 s41 s42 s43 s44 s45 s46 s47 s48 s49 s50 s51 s52 s53 s54 s55
              replace HA := Lib.hid (blk_call HA.out hb8)
              replace H7 := Lib.hid (blk_call H7.out hb8)
              replace H8 := Lib.hid (blk_call H8.out hb8)
              replace R0 := Lib.hid (prow_below R0.out hb8)
              replace R1 := Lib.hid (prow_below R1.out hb8)
              replace R2 := Lib.hid (prow_below R2.out hb8)
              replace B := Lib.hid (belT B.out hb8)
              replace TT := Lib.hid (Tab.below TT.out hb8)
              clear hb8
              clear bN bNN
              go_wp2_with fail
              refine wp_loop_rounds 5 ?_
              rw [rounds_succ]
              have c2 := blk_cell H8.out 2 _ rfl
              obtain ⟨e0, e1⟩ := prow_c R2.out 0 (by simp) 0 1 rfl rfl
              simp only [List.getD_cons_zero, List.getD_cons_succ] at e0 e1
              go_wp2_with fail
              refine (may_any r2_0 r2_1 true _ (Lib.hid (may_of (PC2.out (r2_0, r2_1) (by simp))))).mono ?_
              rintro e w14 ⟨rfl, hb14⟩
              clear c2 e0 e1
              replace HA := Lib.hid (blk_call (blk_alloc HA.out (.cells #[.int .i64 r2_0, .int .i64 r2_1] 23)) hb14)
              replace H7 := Lib.hid (blk_call (blk_alloc H7.out (.cells #[.int .i64 r2_0, .int .i64 r2_1] 23)) hb14)
              replace H8 := Lib.hid (blk_call (blk_alloc H8.out (.cells #[.int .i64 r2_0, .int .i64 r2_1] 23)) hb14)
              replace R0 := Lib.hid (prow_below (prow_alloc R0.out (.cells #[.int .i64 r2_0, .int .i64 r2_1] 23)) hb14)
              replace R1 := Lib.hid (prow_below (prow_alloc R1.out (.cells #[.int .i64 r2_0, .int .i64 r2_1] 23)) hb14)
              replace R2 := Lib.hid (prow_below (prow_alloc R2.out (.cells #[.int .i64 r2_0, .int .i64 r2_1] 23)) hb14)
              have HC := Lib.hid (blk_call (blk_new U2 (.cells #[.int .i64 r2_0, .int .i64 r2_1] 23) (U2.heap.size) rfl) hb14)
              replace B := Lib.hid (belT (belA B.out (.cells #[.int .i64 r2_0, .int .i64 r2_1] 23)) hb14)
              replace TT := Lib.hid (Tab.below (Tab.alloc TT.out (.cells #[.int .i64 r2_0, .int .i64 r2_1] 23)) hb14)
              clear hb14
              have c0 := blk_cell HC.out 0 _ rfl
              have c1 := blk_cell HC.out 1 _ rfl
              have z0 := tm16 (FX2.out.2.2.2.2.1 (r2_0, r2_1) (by simp)).1
              have z1 := tm16 (FX2.out.2.2.2.2.1 (r2_0, r2_1) (by simp)).2
              skip
              go_wp2_with fail
              clear HC z0 z1 c0 c1
              rw [rounds_succ]
              have c2 := blk_cell H8.out 2 _ rfl
              obtain ⟨e0, e1⟩ := prow_c R2.out 1 (by simp) 2 3 rfl rfl
              simp only [List.getD_cons_zero, List.getD_cons_succ] at e0 e1
              go_wp2_with fail
              refine (may_any r2_2 r2_3 true _ (Lib.hid (may_of (PC2.out (r2_2, r2_3) (by simp))))).mono ?_
              rintro e w15 ⟨rfl, hb15⟩
              clear c2 e0 e1
              replace HA := Lib.hid (blk_call (blk_alloc HA.out (.cells #[.int .i64 r2_2, .int .i64 r2_3] 23)) hb15)
              replace H7 := Lib.hid (blk_call (blk_alloc H7.out (.cells #[.int .i64 r2_2, .int .i64 r2_3] 23)) hb15)
              replace H8 := Lib.hid (blk_call (blk_alloc H8.out (.cells #[.int .i64 r2_2, .int .i64 r2_3] 23)) hb15)
              replace R0 := Lib.hid (prow_below (prow_alloc R0.out (.cells #[.int .i64 r2_2, .int .i64 r2_3] 23)) hb15)
              replace R1 := Lib.hid (prow_below (prow_alloc R1.out (.cells #[.int .i64 r2_2, .int .i64 r2_3] 23)) hb15)
              replace R2 := Lib.hid (prow_below (prow_alloc R2.out (.cells #[.int .i64 r2_2, .int .i64 r2_3] 23)) hb15)
              have HC := Lib.hid (blk_call (blk_new w14 (.cells #[.int .i64 r2_2, .int .i64 r2_3] 23) (w14.heap.size) rfl) hb15)
              replace B := Lib.hid (belT (belA B.out (.cells #[.int .i64 r2_2, .int .i64 r2_3] 23)) hb15)
              replace TT := Lib.hid (Tab.below (Tab.alloc TT.out (.cells #[.int .i64 r2_2, .int .i64 r2_3] 23)) hb15)
              clear hb15
              have c0 := blk_cell HC.out 0 _ rfl
              have c1 := blk_cell HC.out 1 _ rfl
              have z0 := tm16 (FX2.out.2.2.2.2.1 (r2_2, r2_3) (by simp)).1
              have z1 := tm16 (FX2.out.2.2.2.2.1 (r2_2, r2_3) (by simp)).2
              skip
              go_wp2_with fail
              clear HC z0 z1 c0 c1
              rw [rounds_succ]
              have c2 := blk_cell H8.out 2 _ rfl
              obtain ⟨e0, e1⟩ := prow_c R2.out 2 (by simp) 4 5 rfl rfl
              simp only [List.getD_cons_zero, List.getD_cons_succ] at e0 e1
              go_wp2_with fail
              refine (may_any r2_4 r2_5 true _ (Lib.hid (may_of (PC2.out (r2_4, r2_5) (by simp))))).mono ?_
              rintro e w16 ⟨rfl, hb16⟩
              clear c2 e0 e1
              replace HA := Lib.hid (blk_call (blk_alloc HA.out (.cells #[.int .i64 r2_4, .int .i64 r2_5] 23)) hb16)
              replace H7 := Lib.hid (blk_call (blk_alloc H7.out (.cells #[.int .i64 r2_4, .int .i64 r2_5] 23)) hb16)
              replace H8 := Lib.hid (blk_call (blk_alloc H8.out (.cells #[.int .i64 r2_4, .int .i64 r2_5] 23)) hb16)
              replace R0 := Lib.hid (prow_below (prow_alloc R0.out (.cells #[.int .i64 r2_4, .int .i64 r2_5] 23)) hb16)
              replace R1 := Lib.hid (prow_below (prow_alloc R1.out (.cells #[.int .i64 r2_4, .int .i64 r2_5] 23)) hb16)
              replace R2 := Lib.hid (prow_below (prow_alloc R2.out (.cells #[.int .i64 r2_4, .int .i64 r2_5] 23)) hb16)
              have HC := Lib.hid (blk_call (blk_new w15 (.cells #[.int .i64 r2_4, .int .i64 r2_5] 23) (w15.heap.size) rfl) hb16)
              replace B := Lib.hid (belT (belA B.out (.cells #[.int .i64 r2_4, .int .i64 r2_5] 23)) hb16)
              replace TT := Lib.hid (Tab.below (Tab.alloc TT.out (.cells #[.int .i64 r2_4, .int .i64 r2_5] 23)) hb16)
              clear hb16
              have c0 := blk_cell HC.out 0 _ rfl
              have c1 := blk_cell HC.out 1 _ rfl
              have z0 := tm16 (FX2.out.2.2.2.2.1 (r2_4, r2_5) (by simp)).1
              have z1 := tm16 (FX2.out.2.2.2.2.1 (r2_4, r2_5) (by simp)).2
              skip
              go_wp2_with fail
              clear HC z0 z1 c0 c1
              rw [rounds_succ]
              have c2 := blk_cell H8.out 2 _ rfl
              obtain ⟨e0, e1⟩ := prow_c R2.out 3 (by simp) 6 7 rfl rfl
              simp only [List.getD_cons_zero, List.getD_cons_succ] at e0 e1
              go_wp2_with fail
              refine (may_any r2_6 r2_7 true _ (Lib.hid (may_of (PC2.out (r2_6, r2_7) (by simp))))).mono ?_
              rintro e w17 ⟨rfl, hb17⟩
              clear c2 e0 e1
              replace HA := Lib.hid (blk_call (blk_alloc HA.out (.cells #[.int .i64 r2_6, .int .i64 r2_7] 23)) hb17)
              replace H7 := Lib.hid (blk_call (blk_alloc H7.out (.cells #[.int .i64 r2_6, .int .i64 r2_7] 23)) hb17)
              replace H8 := Lib.hid (blk_call (blk_alloc H8.out (.cells #[.int .i64 r2_6, .int .i64 r2_7] 23)) hb17)
              replace R0 := Lib.hid (prow_below (prow_alloc R0.out (.cells #[.int .i64 r2_6, .int .i64 r2_7] 23)) hb17)
              replace R1 := Lib.hid (prow_below (prow_alloc R1.out (.cells #[.int .i64 r2_6, .int .i64 r2_7] 23)) hb17)
              replace R2 := Lib.hid (prow_below (prow_alloc R2.out (.cells #[.int .i64 r2_6, .int .i64 r2_7] 23)) hb17)
              have HC := Lib.hid (blk_call (blk_new w16 (.cells #[.int .i64 r2_6, .int .i64 r2_7] 23) (w16.heap.size) rfl) hb17)
              replace B := Lib.hid (belT (belA B.out (.cells #[.int .i64 r2_6, .int .i64 r2_7] 23)) hb17)
              replace TT := Lib.hid (Tab.below (Tab.alloc TT.out (.cells #[.int .i64 r2_6, .int .i64 r2_7] 23)) hb17)
              clear hb17
              have c0 := blk_cell HC.out 0 _ rfl
              have c1 := blk_cell HC.out 1 _ rfl
              have z0 := tm16 (FX2.out.2.2.2.2.1 (r2_6, r2_7) (by simp)).1
              have z1 := tm16 (FX2.out.2.2.2.2.1 (r2_6, r2_7) (by simp)).2
              skip
              go_wp2_with fail
              clear HC z0 z1 c0 c1
              rw [rounds_succ]
              have c6 := blk_cell H7.out 6 _ rfl
              have c7 := blk_cell H7.out 7 _ rfl
              go_wp2_with fail
              refine (may_any a3 b3 true _ (Lib.hid (may_of (by unfold InV; have := PB.out.2.2.2; have := WB.out; omega)))).mono ?_
              rintro e w18 ⟨rfl, hb18⟩
              clear c6 c7
              replace HA := Lib.hid (blk_call HA.out hb18)
              replace H7 := Lib.hid (blk_call H7.out hb18)
              replace H8 := Lib.hid (blk_call H8.out hb18)
              replace R0 := Lib.hid (prow_below R0.out hb18)
              replace R1 := Lib.hid (prow_below R1.out hb18)
              replace R2 := Lib.hid (prow_below R2.out hb18)
              replace B := Lib.hid (belT B.out hb18)
              replace TT := Lib.hid (Tab.below TT.out hb18)
              clear hb18
              have c6 := blk_cell H7.out 6 _ rfl
              have c7 := blk_cell H7.out 7 _ rfl
              have z0 := tm16 FX2.out.2.2.2.2.2.2.2.1
              have z1 := tm16 FX2.out.2.2.2.2.2.2.2.2
              go_wp2_with fail
              clear z0 z1 c6 c7
              have AV2 := Lib.hid (allv_mem PC2.out)
              have bA : 1 ≤ 4 * n2 * W ∧ 4 * n2 * W ≤ 640 := by have i1 := NB2.out; have i2 := WB.out; have := far_bdI (n := 4 * n2) (u := W) (M := 4) (by omega) (by omega); have := Int.mul_pos (show 0 < 4 * n2 by omega) (show 0 < W by omega); omega
              have i1 := NB2.out
              obtain ⟨sp, hsp⟩ : ∃ sp : ToldS, sp = [none, none, none, none, none, none, none, none, none, none, none, none, none, none, none, none, none, none, none, none, none, none, none, none, none, none, none, none, none, none, none, none, none, none, none, none, none, none, none, none, none, none, none, none, none, none, none, none, none, none, none, none, none, none, none, none, none, none, none, none, none, none, none, none, none, none, none, none, none, none, none, none, none, none, none, none, none, none, none, none, none, none, none, none, none, none, none, none, none, none, none, none, none, none, none, none, none, none, none, none, none, none, none, none, none, some (eqS (.int .i64 2)), some (eqS (.pointer (some ⟨b8, 2, none⟩))), some (eqS (.slice (some ⟨g2, 0, none⟩) 4 4)), some (eqS (.bool true)), some (eqS (.bool false)), some (eqS (.bool false)), some (eqS (.int .i64 2)), some (eqS (.pointer (some ⟨b8, 2, none⟩))), some (eqS (.slice (some ⟨g2, 0, none⟩) 4 4)), some (eqS (.int .i64 (4 * n2 * W * 4394000 * 4394000))), some (eqS (.int .i64 2)), some (eqS (.pointer (some ⟨w.heap.size, 2, none⟩))), some (eqS (.pointer (some ⟨w.heap.size, 4, none⟩))), some (eqS (.int .i64 n2)), some (eqS (.int .i64 (4 * n2))), some (eqS (.pointer (some ⟨w.heap.size, 5, none⟩))), some (eqS (.int .i64 W)), some (eqS (.int .i64 (4 * n2 * W))), some (eqS (.int .i64 (4 * n2 * W * 4394000))), some (eqS (.int .i64 (4 * n2 * W * 4394000 * 4394000))), some (eqS (.bool false)), some (eqS (.bool false)), some (eqS (.bool false)), some (eqS (.int .i64 2)), some (eqS (.pointer (some ⟨b8, 2, none⟩))), some (eqS (.slice (some ⟨g2, 0, none⟩) 4 4)), some (eqS (.int .i64 2)), some (eqS (.pointer (some ⟨b7, 4, none⟩))), some (eqS (.agg #[.int .i64 a2, .int .i64 b2])), some (eqS (.int .i64 0)), some (eqS (.bool false)), some (eqS (.bool false)), some (eqS (.bool false)), some (eqS (.int .i64 2)), some (eqS (.pointer (some ⟨b8, 2, none⟩))), some (eqS (.slice (some ⟨g2, 0, none⟩) 4 4)), some (eqS (.int .i64 2)), some (eqS (.int .i64 3)), some (eqS (.pointer (some ⟨b7, 6, none⟩))), some (eqS (.agg #[.int .i64 a3, .int .i64 b3])), some (eqS (.int .i64 0)), some (eqS (.bool false)), some (eqS (.bool false))] := ⟨_, rfl⟩
              have s105 : sp.getD 105 none = some (eqS (.int .i64 2)) := by rw [hsp]; rfl
              have s106 : sp.getD 106 none = some (eqS (.pointer (some ⟨b8, 2, none⟩))) := by rw [hsp]; rfl
              have s107 : sp.getD 107 none = some (eqS (.slice (some ⟨g2, 0, none⟩) 4 4)) := by rw [hsp]; rfl
              have s108 : sp.getD 108 none = some (eqS (.bool true)) := by rw [hsp]; rfl
              have s109 : sp.getD 109 none = some (eqS (.bool false)) := by rw [hsp]; rfl
              have s110 : sp.getD 110 none = some (eqS (.bool false)) := by rw [hsp]; rfl
              have s111 : sp.getD 111 none = some (eqS (.int .i64 2)) := by rw [hsp]; rfl
              have s112 : sp.getD 112 none = some (eqS (.pointer (some ⟨b8, 2, none⟩))) := by rw [hsp]; rfl
              have s113 : sp.getD 113 none = some (eqS (.slice (some ⟨g2, 0, none⟩) 4 4)) := by rw [hsp]; rfl
              have s114 : sp.getD 114 none = some (eqS (.int .i64 (4 * n2 * W * 4394000 * 4394000))) := by rw [hsp]; rfl
              have s115 : sp.getD 115 none = some (eqS (.int .i64 2)) := by rw [hsp]; rfl
              have s116 : sp.getD 116 none = some (eqS (.pointer (some ⟨w.heap.size, 2, none⟩))) := by rw [hsp]; rfl
              have s117 : sp.getD 117 none = some (eqS (.pointer (some ⟨w.heap.size, 4, none⟩))) := by rw [hsp]; rfl
              have s118 : sp.getD 118 none = some (eqS (.int .i64 n2)) := by rw [hsp]; rfl
              have s119 : sp.getD 119 none = some (eqS (.int .i64 (4 * n2))) := by rw [hsp]; rfl
              have s120 : sp.getD 120 none = some (eqS (.pointer (some ⟨w.heap.size, 5, none⟩))) := by rw [hsp]; rfl
              have s121 : sp.getD 121 none = some (eqS (.int .i64 W)) := by rw [hsp]; rfl
              have s122 : sp.getD 122 none = some (eqS (.int .i64 (4 * n2 * W))) := by rw [hsp]; rfl
              have s123 : sp.getD 123 none = some (eqS (.int .i64 (4 * n2 * W * 4394000))) := by rw [hsp]; rfl
              have s124 : sp.getD 124 none = some (eqS (.int .i64 (4 * n2 * W * 4394000 * 4394000))) := by rw [hsp]; rfl
              have s125 : sp.getD 125 none = some (eqS (.bool false)) := by rw [hsp]; rfl
              have s126 : sp.getD 126 none = some (eqS (.bool false)) := by rw [hsp]; rfl
              have s127 : sp.getD 127 none = some (eqS (.bool false)) := by rw [hsp]; rfl
              have s128 : sp.getD 128 none = some (eqS (.int .i64 2)) := by rw [hsp]; rfl
              have s129 : sp.getD 129 none = some (eqS (.pointer (some ⟨b8, 2, none⟩))) := by rw [hsp]; rfl
              have s130 : sp.getD 130 none = some (eqS (.slice (some ⟨g2, 0, none⟩) 4 4)) := by rw [hsp]; rfl
              have s131 : sp.getD 131 none = some (eqS (.int .i64 2)) := by rw [hsp]; rfl
              have s132 : sp.getD 132 none = some (eqS (.pointer (some ⟨b7, 4, none⟩))) := by rw [hsp]; rfl
              have s133 : sp.getD 133 none = some (eqS (.agg #[.int .i64 a2, .int .i64 b2])) := by rw [hsp]; rfl
              have s134 : sp.getD 134 none = some (eqS (.int .i64 0)) := by rw [hsp]; rfl
              have s135 : sp.getD 135 none = some (eqS (.bool false)) := by rw [hsp]; rfl
              have s136 : sp.getD 136 none = some (eqS (.bool false)) := by rw [hsp]; rfl
              have s137 : sp.getD 137 none = some (eqS (.bool false)) := by rw [hsp]; rfl
              have s138 : sp.getD 138 none = some (eqS (.int .i64 2)) := by rw [hsp]; rfl
              have s139 : sp.getD 139 none = some (eqS (.pointer (some ⟨b8, 2, none⟩))) := by rw [hsp]; rfl
              have s140 : sp.getD 140 none = some (eqS (.slice (some ⟨g2, 0, none⟩) 4 4)) := by rw [hsp]; rfl
              have s141 : sp.getD 141 none = some (eqS (.int .i64 2)) := by rw [hsp]; rfl
              have s142 : sp.getD 142 none = some (eqS (.int .i64 3)) := by rw [hsp]; rfl
              have s143 : sp.getD 143 none = some (eqS (.pointer (some ⟨b7, 6, none⟩))) := by rw [hsp]; rfl
              have s144 : sp.getD 144 none = some (eqS (.agg #[.int .i64 a3, .int .i64 b3])) := by rw [hsp]; rfl
              have s145 : sp.getD 145 none = some (eqS (.int .i64 0)) := by rw [hsp]; rfl
              have s146 : sp.getD 146 none = some (eqS (.bool false)) := by rw [hsp]; rfl
              have s147 : sp.getD 147 none = some (eqS (.bool false)) := by rw [hsp]; rfl
              clear hsp
              refine (wpIn_wide (n := 0)).1 (region_allR (RtS sp) (rtS_keep sp) rfl rfl rfl (by kernel_rfl) (by kernel_rfl) (by kernel_rfl) ?_ ?_)
              · intro Q'
                refine obsR_cons ?_ ?_
                · intro T wx K hB hF hD hK
                  have g9 : T[9]? = some (.int .i64 2) := hF 9 (freeM_of (by kernel_rfl))
                  refine ob_yes (wanted_none rfl) ?_
                  clear hF hD
                  go_simp
                  exact hK _ _ (Below.refl _ _) (rt_eqS s105)
                refine obsR_cons ?_ ?_
                · intro T wx K hB hF hD hK
                  have g8 : T[8]? = some (.pointer (some ⟨b8, 0, none⟩)) := hF 8 (freeM_of (by kernel_rfl))
                  have g105 := get_eqS (hD 0 105 (by simp [Region.binds]) (by kernel_rfl)) s105
                  refine ob_yes (wanted_none rfl) ?_
                  clear hF hD
                  go_simp
                  exact hK _ _ (Below.refl _ _) (rt_eqS s106)
                refine obsR_cons ?_ ?_
                · intro T wx K hB hF hD hK
                  have g106 := get_eqS (hD 1 106 (by simp [Region.binds]) (by kernel_rfl)) s106
                  refine ob_yes (wanted_none rfl) ?_
                  clear hF hD
                  have c0 := blk_cell (blk_call H8.out hB) 2 _ rfl
                  go_simp
                  exact hK _ _ (Below.refl _ _) (rt_eqS s107)
                refine obsR_cons ?_ ?_
                · intro T wx K hB hF hD hK
                  have g107 := get_eqS (hD 2 107 (by simp [Region.binds]) (by kernel_rfl)) s107
                  refine ob_yes (wanted_none rfl) ?_
                  clear hF hD
                  go_simp
                  refine (valid_is _ 4 4 [(r2_0, r2_1), (r2_2, r2_3), (r2_4, r2_5), (r2_6, r2_7)] true _ rfl (Lib.hid FX2.out.1) (by simp) (prow_below R2.out hB)).mono ?_; rintro e w9 ⟨rfl, hb⟩
                  exact hK _ _ hb (rt_eqS s108)
                refine obsR_cons ?_ ?_
                · intro T wx K hB hF hD hK
                  have g108 := get_eqS (hD 3 108 (by simp [Region.binds]) (by kernel_rfl)) s108
                  refine ob_yes (wanted_none rfl) ?_
                  clear hF hD
                  go_simp
                  exact hK _ _ (Below.refl _ _) (rt_eqS s109)
                refine obsR_cons ?_ ?_
                · intro T wx K hB hF hD hK
                  have g109 := get_eqS (hD 4 109 (by simp [Region.binds]) (by kernel_rfl)) s109
                  refine ob_yes (wanted_none rfl) ?_
                  clear hF hD
                  go_simp
                  exact hK _ _ (Below.refl _ _) (rt_eqS s110)
                refine obsR_cons ?_ ?_
                · intro T wx K hB hF hD hK
                  have g110 := get_eqS (hD 5 110 (by simp [Region.binds]) (by kernel_rfl)) s110
                  have g9 : T[9]? = some (.int .i64 2) := hF 9 (freeM_of (by kernel_rfl))
                  refine ob_yes (wanted_yes rfl (by kernel_rfl) g110) ?_
                  clear hF hD
                  go_simp
                  exact hK _ _ (Below.refl _ _) (rt_eqS s111)
                refine obsR_cons ?_ ?_
                · intro T wx K hB hF hD hK
                  have g110 := get_eqS (hD 5 110 (by simp [Region.binds]) (by kernel_rfl)) s110
                  have g8 : T[8]? = some (.pointer (some ⟨b8, 0, none⟩)) := hF 8 (freeM_of (by kernel_rfl))
                  have g111 := get_eqS (hD 6 111 (by simp [Region.binds]) (by kernel_rfl)) s111
                  refine ob_yes (wanted_yes rfl (by kernel_rfl) g110) ?_
                  clear hF hD
                  go_simp
                  exact hK _ _ (Below.refl _ _) (rt_eqS s112)
                refine obsR_cons ?_ ?_
                · intro T wx K hB hF hD hK
                  have g110 := get_eqS (hD 5 110 (by simp [Region.binds]) (by kernel_rfl)) s110
                  have g112 := get_eqS (hD 7 112 (by simp [Region.binds]) (by kernel_rfl)) s112
                  refine ob_yes (wanted_yes rfl (by kernel_rfl) g110) ?_
                  clear hF hD
                  have c0 := blk_cell (blk_call H8.out hB) 2 _ rfl
                  go_simp
                  exact hK _ _ (Below.refl _ _) (rt_eqS s113)
                refine obsR_cons ?_ ?_
                · intro T wx K hB hF hD hK
                  have g110 := get_eqS (hD 5 110 (by simp [Region.binds]) (by kernel_rfl)) s110
                  have g113 := get_eqS (hD 8 113 (by simp [Region.binds]) (by kernel_rfl)) s113
                  refine ob_yes (wanted_yes rfl (by kernel_rfl) g110) ?_
                  clear hF hD
                  go_simp
                  refine (area_at _ 4 4 [(r2_0, r2_1), (r2_2, r2_3), (r2_4, r2_5), (r2_6, r2_7)] (4 * n2 * W * 4394000 * 4394000) _ rfl (Lib.hid FX2.out.2.1) (by simp) (by simp) (prow_below R2.out hB) AV2.out).mono ?_; rintro e w9 ⟨rfl, hb⟩
                  exact hK _ _ hb (rt_eqS s114)
                refine obsR_cons ?_ ?_
                · intro T wx K hB hF hD hK
                  have g110 := get_eqS (hD 5 110 (by simp [Region.binds]) (by kernel_rfl)) s110
                  have g9 : T[9]? = some (.int .i64 2) := hF 9 (freeM_of (by kernel_rfl))
                  refine ob_yes (wanted_yes rfl (by kernel_rfl) g110) ?_
                  clear hF hD
                  go_simp
                  exact hK _ _ (Below.refl _ _) (rt_eqS s115)
                refine obsR_cons ?_ ?_
                · intro T wx K hB hF hD hK
                  have g110 := get_eqS (hD 5 110 (by simp [Region.binds]) (by kernel_rfl)) s110
                  have g2 : T[2]? = some (.pointer (some ⟨w.heap.size, 0, none⟩)) := hF 2 (freeM_of (by kernel_rfl))
                  refine ob_yes (wanted_yes rfl (by kernel_rfl) g110) ?_
                  clear hF hD
                  go_simp
                  exact hK _ _ (Below.refl _ _) (rt_eqS s116)
                refine obsR_cons ?_ ?_
                · intro T wx K hB hF hD hK
                  have g110 := get_eqS (hD 5 110 (by simp [Region.binds]) (by kernel_rfl)) s110
                  have g116 := get_eqS (hD 11 116 (by simp [Region.binds]) (by kernel_rfl)) s116
                  have g115 := get_eqS (hD 10 115 (by simp [Region.binds]) (by kernel_rfl)) s115
                  refine ob_yes (wanted_yes rfl (by kernel_rfl) g110) ?_
                  clear hF hD
                  go_simp
                  exact hK _ _ (Below.refl _ _) (rt_eqS s117)
                refine obsR_cons ?_ ?_
                · intro T wx K hB hF hD hK
                  have g110 := get_eqS (hD 5 110 (by simp [Region.binds]) (by kernel_rfl)) s110
                  have g117 := get_eqS (hD 12 117 (by simp [Region.binds]) (by kernel_rfl)) s117
                  refine ob_yes (wanted_yes rfl (by kernel_rfl) g110) ?_
                  clear hF hD
                  have c0 := blk_cell (blk_call HA.out hB) 4 _ rfl
                  go_simp
                  exact hK _ _ (Below.refl _ _) (rt_eqS s118)
                refine obsR_cons ?_ ?_
                · intro T wx K hB hF hD hK
                  have g110 := get_eqS (hD 5 110 (by simp [Region.binds]) (by kernel_rfl)) s110
                  have g118 := get_eqS (hD 13 118 (by simp [Region.binds]) (by kernel_rfl)) s118
                  refine ob_yes (wanted_yes rfl (by kernel_rfl) g110) ?_
                  clear hF hD
                  go_simp
                  rw [wrapb _ (by omega)]
                  exact hK _ _ (Below.refl _ _) (rt_eqS s119)
                refine obsR_cons ?_ ?_
                · intro T wx K hB hF hD hK
                  have g110 := get_eqS (hD 5 110 (by simp [Region.binds]) (by kernel_rfl)) s110
                  have g2 : T[2]? = some (.pointer (some ⟨w.heap.size, 0, none⟩)) := hF 2 (freeM_of (by kernel_rfl))
                  refine ob_yes (wanted_yes rfl (by kernel_rfl) g110) ?_
                  clear hF hD
                  go_simp
                  exact hK _ _ (Below.refl _ _) (rt_eqS s120)
                refine obsR_cons ?_ ?_
                · intro T wx K hB hF hD hK
                  have g110 := get_eqS (hD 5 110 (by simp [Region.binds]) (by kernel_rfl)) s110
                  have g120 := get_eqS (hD 15 120 (by simp [Region.binds]) (by kernel_rfl)) s120
                  refine ob_yes (wanted_yes rfl (by kernel_rfl) g110) ?_
                  clear hF hD
                  have c0 := blk_cell (blk_call HA.out hB) 5 _ rfl
                  go_simp
                  exact hK _ _ (Below.refl _ _) (rt_eqS s121)
                refine obsR_cons ?_ ?_
                · intro T wx K hB hF hD hK
                  have g110 := get_eqS (hD 5 110 (by simp [Region.binds]) (by kernel_rfl)) s110
                  have g119 := get_eqS (hD 14 119 (by simp [Region.binds]) (by kernel_rfl)) s119
                  have g121 := get_eqS (hD 16 121 (by simp [Region.binds]) (by kernel_rfl)) s121
                  refine ob_yes (wanted_yes rfl (by kernel_rfl) g110) ?_
                  clear hF hD
                  go_simp
                  rw [wrapb _ (by omega)]
                  exact hK _ _ (Below.refl _ _) (rt_eqS s122)
                refine obsR_cons ?_ ?_
                · intro T wx K hB hF hD hK
                  have g110 := get_eqS (hD 5 110 (by simp [Region.binds]) (by kernel_rfl)) s110
                  have g122 := get_eqS (hD 17 122 (by simp [Region.binds]) (by kernel_rfl)) s122
                  refine ob_yes (wanted_yes rfl (by kernel_rfl) g110) ?_
                  clear hF hD
                  go_simp
                  rw [wrapb _ (by omega)]
                  exact hK _ _ (Below.refl _ _) (rt_eqS s123)
                refine obsR_cons ?_ ?_
                · intro T wx K hB hF hD hK
                  have g110 := get_eqS (hD 5 110 (by simp [Region.binds]) (by kernel_rfl)) s110
                  have g123 := get_eqS (hD 18 123 (by simp [Region.binds]) (by kernel_rfl)) s123
                  refine ob_yes (wanted_yes rfl (by kernel_rfl) g110) ?_
                  clear hF hD
                  go_simp
                  rw [wrapb _ (by omega)]
                  exact hK _ _ (Below.refl _ _) (rt_eqS s124)
                refine obsR_cons ?_ ?_
                · intro T wx K hB hF hD hK
                  have g110 := get_eqS (hD 5 110 (by simp [Region.binds]) (by kernel_rfl)) s110
                  have g114 := get_eqS (hD 9 114 (by simp [Region.binds]) (by kernel_rfl)) s114
                  have g124 := get_eqS (hD 19 124 (by simp [Region.binds]) (by kernel_rfl)) s124
                  refine ob_yes (wanted_yes rfl (by kernel_rfl) g110) ?_
                  clear hF hD
                  go_simp
                  exact hK _ _ (Below.refl _ _) (rt_eqS s125)
                refine obsR_cons ?_ ?_
                · intro T wx K hB hF hD hK
                  have g110 := get_eqS (hD 5 110 (by simp [Region.binds]) (by kernel_rfl)) s110
                  have g125 := get_eqS (hD 20 125 (by simp [Region.binds]) (by kernel_rfl)) s125
                  refine ob_yes (wanted_none rfl) ?_
                  clear hF hD
                  go_simp
                  exact hK _ _ (Below.refl _ _) (rt_eqS s126)
                refine obsR_cons ?_ ?_
                · intro T wx K hB hF hD hK
                  have g126 := get_eqS (hD 21 126 (by simp [Region.binds]) (by kernel_rfl)) s126
                  refine ob_yes (wanted_none rfl) ?_
                  clear hF hD
                  go_simp
                  exact hK _ _ (Below.refl _ _) (rt_eqS s127)
                refine obsR_cons ?_ ?_
                · intro T wx K hB hF hD hK
                  have g127 := get_eqS (hD 22 127 (by simp [Region.binds]) (by kernel_rfl)) s127
                  have g9 : T[9]? = some (.int .i64 2) := hF 9 (freeM_of (by kernel_rfl))
                  refine ob_yes (wanted_yes rfl (by kernel_rfl) g127) ?_
                  clear hF hD
                  go_simp
                  exact hK _ _ (Below.refl _ _) (rt_eqS s128)
                refine obsR_cons ?_ ?_
                · intro T wx K hB hF hD hK
                  have g127 := get_eqS (hD 22 127 (by simp [Region.binds]) (by kernel_rfl)) s127
                  have g8 : T[8]? = some (.pointer (some ⟨b8, 0, none⟩)) := hF 8 (freeM_of (by kernel_rfl))
                  have g128 := get_eqS (hD 23 128 (by simp [Region.binds]) (by kernel_rfl)) s128
                  refine ob_yes (wanted_yes rfl (by kernel_rfl) g127) ?_
                  clear hF hD
                  go_simp
                  exact hK _ _ (Below.refl _ _) (rt_eqS s129)
                refine obsR_cons ?_ ?_
                · intro T wx K hB hF hD hK
                  have g127 := get_eqS (hD 22 127 (by simp [Region.binds]) (by kernel_rfl)) s127
                  have g129 := get_eqS (hD 24 129 (by simp [Region.binds]) (by kernel_rfl)) s129
                  refine ob_yes (wanted_yes rfl (by kernel_rfl) g127) ?_
                  clear hF hD
                  have c0 := blk_cell (blk_call H8.out hB) 2 _ rfl
                  go_simp
                  exact hK _ _ (Below.refl _ _) (rt_eqS s130)
                refine obsR_cons ?_ ?_
                · intro T wx K hB hF hD hK
                  have g127 := get_eqS (hD 22 127 (by simp [Region.binds]) (by kernel_rfl)) s127
                  have g9 : T[9]? = some (.int .i64 2) := hF 9 (freeM_of (by kernel_rfl))
                  refine ob_yes (wanted_yes rfl (by kernel_rfl) g127) ?_
                  clear hF hD
                  go_simp
                  exact hK _ _ (Below.refl _ _) (rt_eqS s131)
                refine obsR_cons ?_ ?_
                · intro T wx K hB hF hD hK
                  have g127 := get_eqS (hD 22 127 (by simp [Region.binds]) (by kernel_rfl)) s127
                  have g7 : T[7]? = some (.pointer (some ⟨b7, 0, none⟩)) := hF 7 (freeM_of (by kernel_rfl))
                  have g131 := get_eqS (hD 26 131 (by simp [Region.binds]) (by kernel_rfl)) s131
                  refine ob_yes (wanted_yes rfl (by kernel_rfl) g127) ?_
                  clear hF hD
                  go_simp
                  exact hK _ _ (Below.refl _ _) (rt_eqS s132)
                refine obsR_cons ?_ ?_
                · intro T wx K hB hF hD hK
                  have g127 := get_eqS (hD 22 127 (by simp [Region.binds]) (by kernel_rfl)) s127
                  have g132 := get_eqS (hD 27 132 (by simp [Region.binds]) (by kernel_rfl)) s132
                  refine ob_yes (wanted_yes rfl (by kernel_rfl) g127) ?_
                  clear hF hD
                  have c0 := blk_cell (blk_call H7.out hB) 4 _ rfl
                  have c1 := blk_cell (blk_call H7.out hB) 5 _ rfl
                  go_simp
                  exact hK _ _ (Below.refl _ _) (rt_eqS s133)
                refine obsR_cons ?_ ?_
                · intro T wx K hB hF hD hK
                  have g127 := get_eqS (hD 22 127 (by simp [Region.binds]) (by kernel_rfl)) s127
                  have g130 := get_eqS (hD 25 130 (by simp [Region.binds]) (by kernel_rfl)) s130
                  have g133 := get_eqS (hD 28 133 (by simp [Region.binds]) (by kernel_rfl)) s133
                  refine ob_yes (wanted_yes rfl (by kernel_rfl) g127) ?_
                  clear hF hD
                  go_simp
                  refine (locate_at _ 4 4 [(r2_0, r2_1), (r2_2, r2_3), (r2_4, r2_5), (r2_6, r2_7)] a2 b2 0 _ rfl (Lib.hid FX2.out.2.2.1) (by simp) (by simp) (prow_below R2.out hB) AV2.out.allr2 (by unfold InR; have := PB.out.2.2.1; have := WB.out; omega) (by unfold InR; have := PB.out.2.2.1; have := WB.out; omega)).mono ?_; rintro e w9 ⟨rfl, hb⟩
                  exact hK _ _ hb (rt_eqS s134)
                refine obsR_cons ?_ ?_
                · intro T wx K hB hF hD hK
                  have g127 := get_eqS (hD 22 127 (by simp [Region.binds]) (by kernel_rfl)) s127
                  have g134 := get_eqS (hD 29 134 (by simp [Region.binds]) (by kernel_rfl)) s134
                  refine ob_yes (wanted_yes rfl (by kernel_rfl) g127) ?_
                  clear hF hD
                  go_simp
                  exact hK _ _ (Below.refl _ _) (rt_eqS s135)
                refine obsR_cons ?_ ?_
                · intro T wx K hB hF hD hK
                  have g127 := get_eqS (hD 22 127 (by simp [Region.binds]) (by kernel_rfl)) s127
                  have g135 := get_eqS (hD 30 135 (by simp [Region.binds]) (by kernel_rfl)) s135
                  refine ob_yes (wanted_none rfl) ?_
                  clear hF hD
                  go_simp
                  exact hK _ _ (Below.refl _ _) (rt_eqS s136)
                refine obsR_cons ?_ ?_
                · intro T wx K hB hF hD hK
                  have g136 := get_eqS (hD 31 136 (by simp [Region.binds]) (by kernel_rfl)) s136
                  refine ob_yes (wanted_none rfl) ?_
                  clear hF hD
                  go_simp
                  exact hK _ _ (Below.refl _ _) (rt_eqS s137)
                refine obsR_cons ?_ ?_
                · intro T wx K hB hF hD hK
                  have g137 := get_eqS (hD 32 137 (by simp [Region.binds]) (by kernel_rfl)) s137
                  have g9 : T[9]? = some (.int .i64 2) := hF 9 (freeM_of (by kernel_rfl))
                  refine ob_yes (wanted_yes rfl (by kernel_rfl) g137) ?_
                  clear hF hD
                  go_simp
                  exact hK _ _ (Below.refl _ _) (rt_eqS s138)
                refine obsR_cons ?_ ?_
                · intro T wx K hB hF hD hK
                  have g137 := get_eqS (hD 32 137 (by simp [Region.binds]) (by kernel_rfl)) s137
                  have g8 : T[8]? = some (.pointer (some ⟨b8, 0, none⟩)) := hF 8 (freeM_of (by kernel_rfl))
                  have g138 := get_eqS (hD 33 138 (by simp [Region.binds]) (by kernel_rfl)) s138
                  refine ob_yes (wanted_yes rfl (by kernel_rfl) g137) ?_
                  clear hF hD
                  go_simp
                  exact hK _ _ (Below.refl _ _) (rt_eqS s139)
                refine obsR_cons ?_ ?_
                · intro T wx K hB hF hD hK
                  have g137 := get_eqS (hD 32 137 (by simp [Region.binds]) (by kernel_rfl)) s137
                  have g139 := get_eqS (hD 34 139 (by simp [Region.binds]) (by kernel_rfl)) s139
                  refine ob_yes (wanted_yes rfl (by kernel_rfl) g137) ?_
                  clear hF hD
                  have c0 := blk_cell (blk_call H8.out hB) 2 _ rfl
                  go_simp
                  exact hK _ _ (Below.refl _ _) (rt_eqS s140)
                refine obsR_cons ?_ ?_
                · intro T wx K hB hF hD hK
                  have g137 := get_eqS (hD 32 137 (by simp [Region.binds]) (by kernel_rfl)) s137
                  have g9 : T[9]? = some (.int .i64 2) := hF 9 (freeM_of (by kernel_rfl))
                  refine ob_yes (wanted_yes rfl (by kernel_rfl) g137) ?_
                  clear hF hD
                  go_simp
                  exact hK _ _ (Below.refl _ _) (rt_eqS s141)
                refine obsR_cons ?_ ?_
                · intro T wx K hB hF hD hK
                  have g137 := get_eqS (hD 32 137 (by simp [Region.binds]) (by kernel_rfl)) s137
                  have g141 := get_eqS (hD 36 141 (by simp [Region.binds]) (by kernel_rfl)) s141
                  refine ob_yes (wanted_yes rfl (by kernel_rfl) g137) ?_
                  clear hF hD
                  go_simp
                  exact hK _ _ (Below.refl _ _) (rt_eqS s142)
                refine obsR_cons ?_ ?_
                · intro T wx K hB hF hD hK
                  have g137 := get_eqS (hD 32 137 (by simp [Region.binds]) (by kernel_rfl)) s137
                  have g7 : T[7]? = some (.pointer (some ⟨b7, 0, none⟩)) := hF 7 (freeM_of (by kernel_rfl))
                  have g142 := get_eqS (hD 37 142 (by simp [Region.binds]) (by kernel_rfl)) s142
                  refine ob_yes (wanted_yes rfl (by kernel_rfl) g137) ?_
                  clear hF hD
                  go_simp
                  exact hK _ _ (Below.refl _ _) (rt_eqS s143)
                refine obsR_cons ?_ ?_
                · intro T wx K hB hF hD hK
                  have g137 := get_eqS (hD 32 137 (by simp [Region.binds]) (by kernel_rfl)) s137
                  have g143 := get_eqS (hD 38 143 (by simp [Region.binds]) (by kernel_rfl)) s143
                  refine ob_yes (wanted_yes rfl (by kernel_rfl) g137) ?_
                  clear hF hD
                  have c0 := blk_cell (blk_call H7.out hB) 6 _ rfl
                  have c1 := blk_cell (blk_call H7.out hB) 7 _ rfl
                  go_simp
                  exact hK _ _ (Below.refl _ _) (rt_eqS s144)
                refine obsR_cons ?_ ?_
                · intro T wx K hB hF hD hK
                  have g137 := get_eqS (hD 32 137 (by simp [Region.binds]) (by kernel_rfl)) s137
                  have g140 := get_eqS (hD 35 140 (by simp [Region.binds]) (by kernel_rfl)) s140
                  have g144 := get_eqS (hD 39 144 (by simp [Region.binds]) (by kernel_rfl)) s144
                  refine ob_yes (wanted_yes rfl (by kernel_rfl) g137) ?_
                  clear hF hD
                  go_simp
                  refine (locate_at _ 4 4 [(r2_0, r2_1), (r2_2, r2_3), (r2_4, r2_5), (r2_6, r2_7)] a3 b3 0 _ rfl (Lib.hid FX2.out.2.2.2.1) (by simp) (by simp) (prow_below R2.out hB) AV2.out.allr2 (by unfold InR; have := PB.out.2.2.2; have := WB.out; omega) (by unfold InR; have := PB.out.2.2.2; have := WB.out; omega)).mono ?_; rintro e w9 ⟨rfl, hb⟩
                  exact hK _ _ hb (rt_eqS s145)
                refine obsR_cons ?_ ?_
                · intro T wx K hB hF hD hK
                  have g137 := get_eqS (hD 32 137 (by simp [Region.binds]) (by kernel_rfl)) s137
                  have g145 := get_eqS (hD 40 145 (by simp [Region.binds]) (by kernel_rfl)) s145
                  refine ob_yes (wanted_yes rfl (by kernel_rfl) g137) ?_
                  clear hF hD
                  go_simp
                  exact hK _ _ (Below.refl _ _) (rt_eqS s146)
                refine obsR_cons ?_ ?_
                · intro T wx K hB hF hD hK
                  have g137 := get_eqS (hD 32 137 (by simp [Region.binds]) (by kernel_rfl)) s137
                  have g146 := get_eqS (hD 41 146 (by simp [Region.binds]) (by kernel_rfl)) s146
                  refine ob_yes (wanted_none rfl) ?_
                  clear hF hD
                  go_simp
                  exact hK _ _ (Below.refl _ _) (rt_eqS s147)
                exact obsR_nil
              · intro S2 Y2 hb8 hF hs hD
                have g105 := get_eqS (hD 0 105 (by decide) (by kernel_rfl)) s105
                have g106 := get_eqS (hD 1 106 (by decide) (by kernel_rfl)) s106
                have g107 := get_eqS (hD 2 107 (by decide) (by kernel_rfl)) s107
                have g108 := get_eqS (hD 3 108 (by decide) (by kernel_rfl)) s108
                have g109 := get_eqS (hD 4 109 (by decide) (by kernel_rfl)) s109
                have g110 := get_eqS (hD 5 110 (by decide) (by kernel_rfl)) s110
                have g111 := get_eqS (hD 6 111 (by decide) (by kernel_rfl)) s111
                have g112 := get_eqS (hD 7 112 (by decide) (by kernel_rfl)) s112
                have g113 := get_eqS (hD 8 113 (by decide) (by kernel_rfl)) s113
                have g114 := get_eqS (hD 9 114 (by decide) (by kernel_rfl)) s114
                have g115 := get_eqS (hD 10 115 (by decide) (by kernel_rfl)) s115
                have g116 := get_eqS (hD 11 116 (by decide) (by kernel_rfl)) s116
                have g117 := get_eqS (hD 12 117 (by decide) (by kernel_rfl)) s117
                have g118 := get_eqS (hD 13 118 (by decide) (by kernel_rfl)) s118
                have g119 := get_eqS (hD 14 119 (by decide) (by kernel_rfl)) s119
                have g120 := get_eqS (hD 15 120 (by decide) (by kernel_rfl)) s120
                have g121 := get_eqS (hD 16 121 (by decide) (by kernel_rfl)) s121
                have g122 := get_eqS (hD 17 122 (by decide) (by kernel_rfl)) s122
                have g123 := get_eqS (hD 18 123 (by decide) (by kernel_rfl)) s123
                have g124 := get_eqS (hD 19 124 (by decide) (by kernel_rfl)) s124
                have g125 := get_eqS (hD 20 125 (by decide) (by kernel_rfl)) s125
                have g126 := get_eqS (hD 21 126 (by decide) (by kernel_rfl)) s126
                have g127 := get_eqS (hD 22 127 (by decide) (by kernel_rfl)) s127
                have g128 := get_eqS (hD 23 128 (by decide) (by kernel_rfl)) s128
                have g129 := get_eqS (hD 24 129 (by decide) (by kernel_rfl)) s129
                have g130 := get_eqS (hD 25 130 (by decide) (by kernel_rfl)) s130
                have g131 := get_eqS (hD 26 131 (by decide) (by kernel_rfl)) s131
                have g132 := get_eqS (hD 27 132 (by decide) (by kernel_rfl)) s132
                have g133 := get_eqS (hD 28 133 (by decide) (by kernel_rfl)) s133
                have g134 := get_eqS (hD 29 134 (by decide) (by kernel_rfl)) s134
                have g135 := get_eqS (hD 30 135 (by decide) (by kernel_rfl)) s135
                have g136 := get_eqS (hD 31 136 (by decide) (by kernel_rfl)) s136
                have g137 := get_eqS (hD 32 137 (by decide) (by kernel_rfl)) s137
                have g138 := get_eqS (hD 33 138 (by decide) (by kernel_rfl)) s138
                have g139 := get_eqS (hD 34 139 (by decide) (by kernel_rfl)) s139
                have g140 := get_eqS (hD 35 140 (by decide) (by kernel_rfl)) s140
                have g141 := get_eqS (hD 36 141 (by decide) (by kernel_rfl)) s141
                have g142 := get_eqS (hD 37 142 (by decide) (by kernel_rfl)) s142
                have g143 := get_eqS (hD 38 143 (by decide) (by kernel_rfl)) s143
                have g144 := get_eqS (hD 39 144 (by decide) (by kernel_rfl)) s144
                have g145 := get_eqS (hD 40 145 (by decide) (by kernel_rfl)) s145
                have g146 := get_eqS (hD 41 146 (by decide) (by kernel_rfl)) s146
                have g147 := get_eqS (hD 42 147 (by decide) (by kernel_rfl)) s147
                have hT := conc [(105, .int .i64 2), (106, .pointer (some ⟨b8, 2, none⟩)), (107, .slice (some ⟨g2, 0, none⟩) 4 4), (108, .bool true), (109, .bool false), (110, .bool false), (111, .int .i64 2), (112, .pointer (some ⟨b8, 2, none⟩)), (113, .slice (some ⟨g2, 0, none⟩) 4 4), (114, .int .i64 (4 * n2 * W * 4394000 * 4394000)), (115, .int .i64 2), (116, .pointer (some ⟨w.heap.size, 2, none⟩)), (117, .pointer (some ⟨w.heap.size, 4, none⟩)), (118, .int .i64 n2), (119, .int .i64 (4 * n2)), (120, .pointer (some ⟨w.heap.size, 5, none⟩)), (121, .int .i64 W), (122, .int .i64 (4 * n2 * W)), (123, .int .i64 (4 * n2 * W * 4394000)), (124, .int .i64 (4 * n2 * W * 4394000 * 4394000)), (125, .bool false), (126, .bool false), (127, .bool false), (128, .int .i64 2), (129, .pointer (some ⟨b8, 2, none⟩)), (130, .slice (some ⟨g2, 0, none⟩) 4 4), (131, .int .i64 2), (132, .pointer (some ⟨b7, 4, none⟩)), (133, .agg #[.int .i64 a2, .int .i64 b2]), (134, .int .i64 0), (135, .bool false), (136, .bool false), (137, .bool false), (138, .int .i64 2), (139, .pointer (some ⟨b8, 2, none⟩)), (140, .slice (some ⟨g2, 0, none⟩) 4 4), (141, .int .i64 2), (142, .int .i64 3), (143, .pointer (some ⟨b7, 6, none⟩)), (144, .agg #[.int .i64 a3, .int .i64 b3]), (145, .int .i64 0), (146, .bool false), (147, .bool false)] hs hF (by simp only [List.forall_mem_cons]; exact ⟨g105, g106, g107, g108, g109, g110, g111, g112, g113, g114, g115, g116, g117, g118, g119, g120, g121, g122, g123, g124, g125, g126, g127, g128, g129, g130, g131, g132, g133, g134, g135, g136, g137, g138, g139, g140, g141, g142, g143, g144, g145, g146, g147, fun p hp => absurd hp List.not_mem_nil⟩) (by kernel_rfl)
                simp only [List.foldl, List.setIfInBounds_toArray, List.set_cons_succ, List.set_cons_zero] at hT
                subst hT
                clear hF hD hs g105 g106 g107 g108 g109 g110 g111 g112 g113 g114 g115 g116 g117 g118 g119 g120 g121 g122 g123 g124 g125 g126 g127 g128 g129 g130 g131 g132 g133 g134 g135 g136 g137 g138 g139 g140 g141 g142 g143 g144 g145 g146 g147 s105 s106 s107 s108 s109 s110 s111 s112 s113 s114 s115 s116 s117 s118 s119 s120 s121 s122 s123 s124 s125 s126 s127 s128 s129 s130 s131 s132 s133 s134 s135 s136 s137 s138 s139 s140 s141 s142 s143 s144 s145 s146 s147
                replace HA := Lib.hid (blk_call HA.out hb8)
                replace H7 := Lib.hid (blk_call H7.out hb8)
                replace H8 := Lib.hid (blk_call H8.out hb8)
                replace R0 := Lib.hid (prow_below R0.out hb8)
                replace R1 := Lib.hid (prow_below R1.out hb8)
                replace R2 := Lib.hid (prow_below R2.out hb8)
                replace B := Lib.hid (belT B.out hb8)
                replace TT := Lib.hid (Tab.below TT.out hb8)
                clear hb8
                clear bA i1
                go_wp2_with fail
                rw [rounds_succ]
                go_wp2_with fail
                go_ret
                exact ⟨rfl, B.out⟩

set_option maxRecDepth 100000 in
theorem lifted (os : Os) (started : os.Started) (H : Type) (enc : TypeId × Value → H) :
    ReturnsInHanded {} Tryd.checked os 4 .any (fun w args => (Rows.armLinksAreRigidSpec.pre enc Tryd.prog Tryd.f4 [] false w args ∧ laidMetH Tryd.prog Rows.armLinksAreRigidRow.laid w) ∧ sizedMet enc Tryd.prog Tryd.f4 (OpenSpec.ofChange Rows.armLinksAreRigidSpec) false w args)
      (Rows.armLinksAreRigidSpec.post enc Tryd.prog Tryd.f4 false true false false) := by
  refine returnsInHanded_of_change_and (C := Tryd.checked) (X := fun w _ => laidMetH Tryd.prog Rows.armLinksAreRigidRow.laid w) (fun _ _ _ hh h => h.of_heap hh) own started (by kernel_rfl) Tryd.func4
    (ChangeSpec.witness_shaped (enc := enc) (C := Tryd.checked) (os := os) (X := fun w _ => laidMetH Tryd.prog Rows.armLinksAreRigidRow.laid w) false (World.doorLaid Tryd.prog 600 os) #[.agg #[.int .i64 0, .int .i64 0, .int .i64 0, .int .i64 0, .int .i64 0, .int .i64 0, .int .i64 0, .int .i64 0, .int .i64 0, .int .i64 0, .int .i64 0, .int .i64 0], .agg #[.int .u8 0, .int .u8 0, .int .u8 0]] 8 rfl (World.shaped_of_RefB (by kernel_rfl) (by kernel_rfl)) (by kernel_rfl) (by kernel_rfl) (by kernel_rfl) (show laidMetH Tryd.prog [(qn, Rows.laid_ambidexter_rotation_quadrant)] _ from door_met os _)) ?_
  intro W base args ds gs before hval0 hW _ _ hL _
  have hval : ∀ (j : Nat) t v, Tryd.f4.params[j]? = some t → args[j]? = some v → Value.okWide Tryd.prog W .any base t v := hval0
  have hW' := hW
  obtain ⟨p, q, hA0, hV, rfl, hfz, hnd⟩ := hW
  have hA : DataW.TrodAll enc Tryd.prog W 0 (fun _ => true) true Tryd.f4.params.toList args.toList ds p := hA0
  rw [Tryd.params4] at hA hval
  obtain ⟨v0, vs0, d0, ds0, p0, q0, hargs, rfl, rfl, h0, r0⟩ := trodAll_cons hA
  obtain ⟨v1, vs1, d1, ds1, p1, q1, rfl, rfl, rfl, h1, r1⟩ := trodAll_cons r0
  obtain ⟨rfl, rfl, rfl⟩ := trodAll_nil r1
  obtain rfl : args = #[v0, v1] := by cases args; simp_all
  obtain ⟨rfl, rfl⟩ := trodVars_none hV
  have k0 := h0
  have lt0 : ∀ x ∈ p0, x.block < W.heap.size := by obtain ⟨m, hm⟩ := k0; exact DataW.trod_lt m _ _ _ hm
  obtain ⟨c0_0, c0_1, c0_2, c0_3, c0_4, c0_5, c0_6, c0_7, c0_8, c0_9, c0_10, c0_11, rfl⟩ := AFr.open_arm (hval 0 27 v0 rfl rfl) h0
  have k1 := h1
  have lt1 : ∀ x ∈ p1, x.block < W.heap.size := by obtain ⟨m, hm⟩ := k1; exact DataW.trod_lt m _ _ _ hm
  obtain ⟨c1_0, c1_1, c1_2, rfl, b1_0, b1_1, b1_2⟩ := AFr.open_raw (hval 1 28 v1 rfl rfl) h1
  clear hA0 hval0
  simp only [List.append_nil] at hW'
  refine (walk c0_0 c0_1 c0_2 c0_3 c0_4 c0_5 c0_6 c0_7 c0_8 c0_9 c0_10 c0_11 c1_0 c1_1 c1_2 b1_0 b1_1 b1_2 W (tab_of_laid hL)).mono fun e W' ⟨he, bel⟩ => ?_
  subst he
  exact ⟨_, rfl, _, _, _, [], _, [], hW', trodAll_mk1 (shut_bool Tryd.underlying4 _), (trodAll_cons_mk (Below.trod HFr.laidOut (by kernel_rfl) (of_decide_eq_true (by kernel_rfl)) k0 bel lt0) (trodAll_cons_mk (Below.trod HFr.laidOut (by kernel_rfl) (of_decide_eq_true (by kernel_rfl)) k1 bel lt1) trodAll_mk0)), rfl, bel.frame _, fun h => by cases h⟩

theorem holds : Rows.ArmLinksAreRigidSaid :=
  OpenClaim.holds_of_wide 4 Tryd.f4 rfl rfl rfl rfl rfl rfl rfl ⟨rfl, rfl, rfl, rfl, rfl⟩ rfl rfl rfl rfl rfl (by kernel_rfl) Tryd.func4 (by kernel_rfl)
    (of_decide_eq_true (by kernel_rfl)) (by unfold Func.isWrapper; first | (rw [if_pos (by decide +kernel)]; kernel_rfl) | (rw [if_neg (by decide +kernel)]; exact ⟨rfl, rfl⟩))
    (fun os started H enc _ => lifted os started H enc)

/-- THE STATEMENT: the tied card. -/
theorem card_holds : Rows.ArmLinksAreRigidCardSaid :=
  Claim7.holds_tied_plain_at .later [] [.data] true Rows.armLinksAreRigidCard.stood.harness false
    holds (fun _ h => by cases h) (by kernel_rfl) (fun _ h => by cases h) armLinksAreRigid_row_tie rfl ⟨rfl, rfl⟩ (by kernel_rfl) rfl
    (fun f fn hf hfn => by
      obtain rfl : f = 4 := Option.some.inj ((show Tryd.prog.funcNamed Rows.armLinksAreRigidRow.func = some 4 by kernel_rfl).symm.trans hf) |>.symm
      obtain rfl : fn = Tryd.f4 := (Option.some.inj (Tryd.func4.symm.trans hfn)).symm
      exact ⟨by kernel_rfl, fun j t ht => by
        rw [Tryd.params4] at ht
        have hm : t ∈ [27, 28] := by have := Array.mem_of_getElem? ht; simp only [List.mem_toArray, List.mem_cons, List.not_mem_nil, or_false] at this ⊢; grind
        have hall : ([27, 28].all fun u => !Tryd.prog.wantsStandIn u) = true := by kernel_rfl
        exact (show Tryd.prog.wantsStandIn t = false by simpa using List.all_eq_true.1 hall t hm)⟩)
    (by kernel_rfl)
#print axioms card_holds
end Go.Proofs.YtalhkcmlacppjaaDoor.armLinksAreRigid
