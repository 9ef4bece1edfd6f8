/- For every valid arm and all joint values within its limits, the tool center point is no farther from the base than the sum of the lengths, and no nearer than the longest link exceeds the others.
Conditions: none on the arguments; the table of rotations lies as the program's text lays it (the card's tie). -/
import Derived.Test.YtalhkcmlacppjaaDoorAmT
import Derived.Test.YtalhkcmlacppjaaDoorAmA
import Derived.Test.YtalhkcmlacppjaaDoorAmU
import Derived.Test.YtalhkcmlacppjaaDoorBase
import Derived.Test.YtalhkcmlacppjaaDoorTie
import Derived.Test.YtalhkcmlacppjaaDoorCards
import Derived.SevenTiedAt
namespace Go.Proofs.YtalhkcmlacppjaaDoor.armReachIsBounded
open Go.ChangeShapes Go.WideShapes Go.ChangeAt Go.RowKit
set_option linter.unusedVariables false
set_option linter.unusedSimpArgs false
set_option maxRecDepth 100000

theorem max3 (a b c : Int) : ∃ m, ((m = a ∨ m = b ∨ m = c) ∧ a ≤ m ∧ b ≤ m ∧ c ≤ m) ∧ ∀ w : World, (Builtin.max_ #[3, 3, 3] 3 #[.int .i64 a, .int .i64 b, .int .i64 c]).run Tryd.prog w = .ok (.int .i64 m) w := by
  refine ⟨_, ?_, fun w => by simp [Builtin.max_, Builtin.max2]; rfl⟩
  split <;> split <;> omega
theorem max2e (a b : Int) : ∃ m, ((m = a ∨ m = b) ∧ a ≤ m ∧ b ≤ m) ∧ ∀ w : World, (Builtin.max_ #[3, 3] 3 #[.int .i64 a, .int .i64 b]).run Tryd.prog w = .ok (.int .i64 m) w :=
  ⟨mxI a b, by unfold mxI; split <;> omega, fun w => run_max2 a b w⟩
theorem t16 (x : Int) : (x * 4394000).tdiv 16 = x * 274625 := by
  rw [show x * 4394000 = 16 * (x * 274625) by omega]
  exact Int.mul_tdiv_cancel_left _ (by omega)
section
variable {X Y n0 n1 n2 W l0 l1 l2 h0 h1 h2 q0 q1 q2 x1 x2 x3 y1 y2 y3 u1 u2 u3 v1 v2 v3 a1 a2 a3 b1 b2 b3 : Int}
theorem reach_far (P : Pose X Y n0 n1 n2 q0 q1 q2 x1 x2 x3 y1 y2 y3 u1 u2 u3 v1 v2 v3 a1 a2 a3 b1 b2 b3) (V : armB X Y n0 n1 n2 W l0 l1 l2 h0 h1 h2 = true) {m : Int} (hm : m = n0 ∨ m = n1 ∨ m = n2) {s : Int} (hs : s = 0 ∨ s = 2 * m - (n0 + n1 + n2)) (h0' : 0 ≤ s) :
    farI a3 b3 X Y ≤ ((n0 + n1 + n2) * 274625) * ((n0 + n1 + n2) * 274625) ∧ (s * 274625) * (s * 274625) ≤ farI a3 b3 X Y := by
  have v := ((armB_iff X Y n0 n1 n2 W l0 l1 l2 h0 h1 h2).1 V).1
  obtain ⟨⟨m1, m2, m3⟩, -⟩ := pose_len P
  have f1 := P.f1
  have f2 := P.f2
  have f3 := P.f3
  have g1 := P.g1
  have g2 := P.g2
  have g3 := P.g3
  have ex : a3 - X = 16 * (n0 * (4225 * x1) + n1 * (65 * x2) + n2 * x3) := by
    rw [← g3.1, ← g2.1, ← g1.1, ← f1.1, ← f2.1, ← f3.1]; grind
  have ey : b3 - Y = 16 * (n0 * (4225 * y1) + n1 * (65 * y2) + n2 * y3) := by
    rw [← g3.2, ← g2.2, ← g1.2, ← f1.2, ← f2.2, ← f3.2]; grind
  have sq : ∀ (n c x y L : Int), x * x + y * y = L * L → (n * (c * x)) * (n * (c * x)) + (n * (c * y)) * (n * (c * y)) = (n * (c * L)) * (n * (c * L)) := fun n c x y L h => by
    have e1 : (n * (c * x)) * (n * (c * x)) + (n * (c * y)) * (n * (c * y)) = (n * c) * (n * c) * (x * x + y * y) := by grind
    have e2 : (n * (c * L)) * (n * (c * L)) = (n * c) * (n * c) * (L * L) := by grind
    rw [e1, e2, h]
  have q1 := sq n0 4225 x1 y1 65 m1
  have q2 := sq n1 65 x2 y2 4225 m2
  have q3 := sq n2 1 x3 y3 274625 m3
  simp only [Int.one_mul] at q3
  rw [show (4225 * 65 : Int) = 274625 by decide] at q1
  rw [show (65 * 4225 : Int) = 274625 by decide] at q2
  unfold farI
  rw [ex, ey, Int.mul_tdiv_cancel_left _ (by omega), Int.mul_tdiv_cancel_left _ (by omega)]
  obtain ⟨A1, hA1⟩ : ∃ z, n0 * (4225 * x1) = z := ⟨_, rfl⟩
  obtain ⟨A2, hA2⟩ : ∃ z, n0 * (4225 * y1) = z := ⟨_, rfl⟩
  obtain ⟨B1, hB1⟩ : ∃ z, n1 * (65 * x2) = z := ⟨_, rfl⟩
  obtain ⟨B2, hB2⟩ : ∃ z, n1 * (65 * y2) = z := ⟨_, rfl⟩
  obtain ⟨C1, hC1⟩ : ∃ z, n2 * x3 = z := ⟨_, rfl⟩
  obtain ⟨C2, hC2⟩ : ∃ z, n2 * y3 = z := ⟨_, rfl⟩
  rw [hA1, hA2] at q1 ⊢
  rw [hB1, hB2] at q2 ⊢
  rw [hC1, hC2] at q3 ⊢
  have p0 : 0 ≤ n0 * 274625 := by omega
  have p1 : 0 ≤ n1 * 274625 := by omega
  have p2 : 0 ≤ n2 * 274625 := by omega
  have r := reach p0 p1 p2 q1 q2 q3
  have r' := reach p1 p0 p2 q2 q1 q3
  have r'' := reach p2 p0 p1 q3 q1 q2
  have e1 : B1 + A1 + C1 = A1 + B1 + C1 := by omega
  have e2 : B2 + A2 + C2 = A2 + B2 + C2 := by omega
  have e3 : C1 + A1 + B1 = A1 + B1 + C1 := by omega
  have e4 : C2 + A2 + B2 = A2 + B2 + C2 := by omega
  rw [e1, e2] at r'
  rw [e3, e4] at r''
  refine ⟨?_, ?_⟩
  · have := r.1
    rwa [show n0 * 274625 + n1 * 274625 + n2 * 274625 = (n0 + n1 + n2) * 274625 by omega] at this
  · have z : 0 ≤ (A1 + B1 + C1) * (A1 + B1 + C1) + (A2 + B2 + C2) * (A2 + B2 + C2) := by have := sq_nnR (A1 + B1 + C1); have := sq_nnR (A2 + B2 + C2); omega
    rcases hs with rfl | rfl
    · simpa using z
    · rcases hm with rfl | rfl | rfl
      · have := r.2 (by omega)
        rwa [show m * 274625 - n1 * 274625 - n2 * 274625 = (2 * m - (m + n1 + n2)) * 274625 by omega] at this
      · have := r'.2 (by omega)
        rwa [show m * 274625 - n0 * 274625 - n2 * 274625 = (2 * m - (n0 + m + n2)) * 274625 by omega] at this
      · have := r''.2 (by omega)
        rwa [show m * 274625 - n0 * 274625 - n1 * 274625 = (2 * m - (n0 + n1 + m)) * 274625 by omega] at this
end

set_option maxHeartbeats 4000000 in
theorem walk (X Y n0 n1 n2 W l0 l1 l2 h0 h1 h2 : Int) (r0 r1 r2 : Int) (hr0 : 0 ≤ r0 ∧ r0 ≤ 255) (hr1 : 0 ≤ r1 ∧ r1 ≤ 255) (hr2 : 0 ≤ r2 ∧ r2 ≤ 255) (w : World) (hT : Tab w) :
    Calls Tryd.prog 8 #[.agg #[.int .i64 X, .int .i64 Y, .int .i64 n0, .int .i64 n1, .int .i64 n2, .int .i64 W, .int .i64 l0, .int .i64 l1, .int .i64 l2, .int .i64 h0, .int .i64 h1, .int .i64 h2], .agg #[.int .u8 r0, .int .u8 r1, .int .u8 r2]] w fun e w' => e = .returned (.bool true) ∧ Below w.heap.size w w' := by
  have B := Lib.hid (Below.refl w.heap.size w)
  have TT := Lib.hid hT
  clear hT
  go_enter Tryd.func8, Tryd.ntmps8
  go_wp2_with fail
  refine (head7_is _ (Tab.alloc (Tab.alloc TT.out (.cells #[.int .i64 X, .int .i64 Y, .int .i64 n0, .int .i64 n1, .int .i64 n2, .int .i64 W, .int .i64 l0, .int .i64 l1, .int .i64 l2, .int .i64 h0, .int .i64 h1, .int .i64 h2] 27)) (.cells #[.int .u8 r0, .int .u8 r1, .int .u8 r2] 28))).mono ?_
  rintro e w1 ⟨rfl, hb1⟩
  have HA := Lib.hid (blk_call (blk_alloc (blk_new w (.cells #[.int .i64 X, .int .i64 Y, .int .i64 n0, .int .i64 n1, .int .i64 n2, .int .i64 W, .int .i64 l0, .int .i64 l1, .int .i64 l2, .int .i64 h0, .int .i64 h1, .int .i64 h2] 27) (w.heap.size) rfl) (.cells #[.int .u8 r0, .int .u8 r1, .int .u8 r2] 28)) hb1)
  have HW := Lib.hid (blk_call (blk_new (w.alloc (.cells #[.int .i64 X, .int .i64 Y, .int .i64 n0, .int .i64 n1, .int .i64 n2, .int .i64 W, .int .i64 l0, .int .i64 l1, .int .i64 l2, .int .i64 h0, .int .i64 h1, .int .i64 h2] 27)) (.cells #[.int .u8 r0, .int .u8 r1, .int .u8 r2] 28) (w.heap.size + 1) (by simp)) hb1)
  replace B := Lib.hid (belT (belA (belA B.out (.cells #[.int .i64 X, .int .i64 Y, .int .i64 n0, .int .i64 n1, .int .i64 n2, .int .i64 W, .int .i64 l0, .int .i64 l1, .int .i64 l2, .int .i64 h0, .int .i64 h1, .int .i64 h2] 27)) (.cells #[.int .u8 r0, .int .u8 r1, .int .u8 r2] 28)) hb1)
  replace TT := Lib.hid (Tab.below (Tab.alloc (Tab.alloc TT.out (.cells #[.int .i64 X, .int .i64 Y, .int .i64 n0, .int .i64 n1, .int .i64 n2, .int .i64 W, .int .i64 l0, .int .i64 l1, .int .i64 l2, .int .i64 h0, .int .i64 h1, .int .i64 h2] 27)) (.cells #[.int .u8 r0, .int .u8 r1, .int .u8 r2] 28)) hb1)
  clear hb1
  obtain ⟨t, ht⟩ : ∃ t, armB X Y n0 n1 n2 W l0 l1 l2 h0 h1 h2 = t := ⟨_, rfl⟩
  have HT := Lib.hid ht
  clear ht
  have c0 := blk_cell HA.out 0 _ rfl
  have c1 := blk_cell HA.out 1 _ rfl
  have c2 := blk_cell HA.out 2 _ rfl
  have c3 := blk_cell HA.out 3 _ rfl
  have c4 := blk_cell HA.out 4 _ rfl
  have c5 := blk_cell HA.out 5 _ rfl
  have c6 := blk_cell HA.out 6 _ rfl
  have c7 := blk_cell HA.out 7 _ rfl
  have c8 := blk_cell HA.out 8 _ rfl
  have c9 := blk_cell HA.out 9 _ rfl
  have c10 := blk_cell HA.out 10 _ rfl
  have c11 := blk_cell HA.out 11 _ rfl
  go_wp2_with fail
  refine (armv_is X Y n0 n1 n2 W l0 l1 l2 h0 h1 h2 t _ HT).mono ?_
  rintro e w2 ⟨rfl, hb2⟩
  clear c0 c1 c2 c3 c4 c5 c6 c7 c8 c9 c10 c11
  replace HA := Lib.hid (blk_call HA.out hb2)
  replace HW := Lib.hid (blk_call HW.out hb2)
  replace B := Lib.hid (belT B.out hb2)
  replace TT := Lib.hid (Tab.below TT.out hb2)
  clear hb2
  cases t
  · go_wp2_with fail
    go_ret
    exact ⟨rfl, B.out⟩
  go_upto_region 4 with fail
  have JB0 := Lib.hid (jq_bd (l := l0) (h := h0) (by have := (armB_iff X Y n0 n1 n2 W l0 l1 l2 h0 h1 h2).1 HT.out; omega) hr0.1)
  have JB1 := Lib.hid (jq_bd (l := l1) (h := h1) (by have := (armB_iff X Y n0 n1 n2 W l0 l1 l2 h0 h1 h2).1 HT.out; omega) hr1.1)
  have JB2 := Lib.hid (jq_bd (l := l2) (h := h2) (by have := (armB_iff X Y n0 n1 n2 W l0 l1 l2 h0 h1 h2).1 HT.out; omega) hr2.1)
  obtain ⟨q0, hq0⟩ : ∃ q, jq l0 h0 r0 = q := ⟨_, rfl⟩
  rw [hq0] at JB0
  have k0 : -1000 ≤ q0 ∧ q0 ≤ 1000 := by have := (armB_iff X Y n0 n1 n2 W l0 l1 l2 h0 h1 h2).1 HT.out; have := JB0.out; omega
  replace hq0 := Lib.hid hq0
  obtain ⟨q1, hq1⟩ : ∃ q, jq l1 h1 r1 = q := ⟨_, rfl⟩
  rw [hq1] at JB1
  have k1 : -1000 ≤ q1 ∧ q1 ≤ 1000 := by have := (armB_iff X Y n0 n1 n2 W l0 l1 l2 h0 h1 h2).1 HT.out; have := JB1.out; omega
  replace hq1 := Lib.hid hq1
  obtain ⟨q2, hq2⟩ : ∃ q, jq l2 h2 r2 = q := ⟨_, rfl⟩
  rw [hq2] at JB2
  have k2 : -1000 ≤ q2 ∧ q2 ≤ 1000 := by have := (armB_iff X Y n0 n1 n2 W l0 l1 l2 h0 h1 h2).1 HT.out; have := JB2.out; omega
  replace hq2 := Lib.hid hq2
  obtain ⟨x1, x2, x3, y1, y2, y3, u1, u2, u3, v1, v2, v3, a1, a2, a3, b1, b2, b3, PP⟩ := pose_ex X Y n0 n1 n2 q0 q1 q2
  replace PP := Lib.hid PP
  obtain ⟨sp, hsp⟩ : ∃ sp : ToldS, sp = [none, none, none, none, none, none, some (newS w2.heap.size #[.int .i64 0, .int .i64 0, .int .i64 0, .int .i64 0, .int .i64 0, .int .i64 0, .int .i64 0, .int .i64 0] 44), none, none, none, none, none, none, none, none, none, none, some (eqS (.agg #[.int .i64 X, .int .i64 Y, .int .i64 n0, .int .i64 n1, .int .i64 n2, .int .i64 W, .int .i64 l0, .int .i64 l1, .int .i64 l2, .int .i64 h0, .int .i64 h1, .int .i64 h2])), some (eqS (.agg #[.int .i64 X, .int .i64 Y, .int .i64 n0, .int .i64 n1, .int .i64 n2, .int .i64 W, .int .i64 l0, .int .i64 l1, .int .i64 l2, .int .i64 h0, .int .i64 h1, .int .i64 h2])), some (eqS (.agg #[.int .u8 r0, .int .u8 r1, .int .u8 r2])), some (eqS (.agg #[.int .i64 q0, .int .i64 q1, .int .i64 q2])), some (eqS (.agg #[.int .i64 X, .int .i64 Y, .int .i64 a1, .int .i64 b1, .int .i64 a2, .int .i64 b2, .int .i64 a3, .int .i64 b3]))] := ⟨_, rfl⟩
  have s6 : sp.getD 6 none = some (newS w2.heap.size #[.int .i64 0, .int .i64 0, .int .i64 0, .int .i64 0, .int .i64 0, .int .i64 0, .int .i64 0, .int .i64 0] 44) := by rw [hsp]; rfl
  have s17 : sp.getD 17 none = some (eqS (.agg #[.int .i64 X, .int .i64 Y, .int .i64 n0, .int .i64 n1, .int .i64 n2, .int .i64 W, .int .i64 l0, .int .i64 l1, .int .i64 l2, .int .i64 h0, .int .i64 h1, .int .i64 h2])) := by rw [hsp]; rfl
  have s18 : sp.getD 18 none = some (eqS (.agg #[.int .i64 X, .int .i64 Y, .int .i64 n0, .int .i64 n1, .int .i64 n2, .int .i64 W, .int .i64 l0, .int .i64 l1, .int .i64 l2, .int .i64 h0, .int .i64 h1, .int .i64 h2])) := by rw [hsp]; rfl
  have s19 : sp.getD 19 none = some (eqS (.agg #[.int .u8 r0, .int .u8 r1, .int .u8 r2])) := by rw [hsp]; rfl
  have s20 : sp.getD 20 none = some (eqS (.agg #[.int .i64 q0, .int .i64 q1, .int .i64 q2])) := by rw [hsp]; rfl
  have s21 : sp.getD 21 none = some (eqS (.agg #[.int .i64 X, .int .i64 Y, .int .i64 a1, .int .i64 b1, .int .i64 a2, .int .i64 b2, .int .i64 a3, .int .i64 b3])) := by rw [hsp]; rfl
  clear hsp
  refine (wpIn_wide (n := 0)).1 (region_headF (FS := [6]) (RtS sp) (rtS_keep sp) (fun t v w ht h => by rcases (by simpa using ht : t = 6) with rfl <;> first | exact newS_fresh s6 h) 6 rfl rfl rfl (by kernel_rfl) (by decide) (by kernel_rfl) (by kernel_rfl) (by kernel_rfl) ?_ ?_)
  · intro Q'; show ObsF _ _ _ _ _ _ _ _ _ (List.take _ _); simp only [List.take_succ_cons, List.take_zero]
    refine obsF_cons (obF_of ?_ (by intro d e; cases e; decide)) ?_
    · intro T wx K hB hF hD hK
      have g2 : T[2]? = some (.pointer (some ⟨w.heap.size, 0, none⟩)) := hF 2 (freeM_of (by kernel_rfl))
      refine ob_yes (wanted_none rfl) ?_
      clear hF hD
      exact wp_load_row 27 (.tmp 2) rfl w.heap.size (eval_tmp g2) _ _ _ _ (blk_call HA.out hB) Tryd.underlying27 rfl (by kernel_rfl) (hK _ _ (Below.refl _ _) (rt_eqS s17))
    refine obsF_cons (obF_of ?_ (by intro d e; cases e; decide)) ?_
    · intro T wx K hB hF hD hK
      have g2 : T[2]? = some (.pointer (some ⟨w.heap.size, 0, none⟩)) := hF 2 (freeM_of (by kernel_rfl))
      refine ob_yes (wanted_none rfl) ?_
      clear hF hD
      exact wp_load_row 27 (.tmp 2) rfl w.heap.size (eval_tmp g2) _ _ _ _ (blk_call HA.out hB) Tryd.underlying27 rfl (by kernel_rfl) (hK _ _ (Below.refl _ _) (rt_eqS s18))
    refine obsF_cons (obF_of ?_ (by intro d e; cases e; decide)) ?_
    · intro T wx K hB hF hD hK
      have g3 : T[3]? = some (.pointer (some ⟨w.heap.size + 1, 0, none⟩)) := hF 3 (freeM_of (by kernel_rfl))
      refine ob_yes (wanted_none rfl) ?_
      clear hF hD
      exact wp_load_row 28 (.tmp 3) rfl (w.heap.size + 1) (eval_tmp g3) _ _ _ _ (blk_call HW.out hB) Tryd.underlying28 rfl (by kernel_rfl) (hK _ _ (Below.refl _ _) (rt_eqS s19))
    refine obsF_cons (obF_of ?_ (by intro d e; cases e; decide)) ?_
    · intro T wx K hB hF hD hK
      have g18 := get_eqS (hD 1 18 (by simp [Region.binds]) (by kernel_rfl)) s18
      have g19 := get_eqS (hD 2 19 (by simp [Region.binds]) (by kernel_rfl)) s19
      refine ob_yes (wanted_none rfl) ?_
      clear hF hD
      go_simp
      refine (joint_is X Y n0 n1 n2 W l0 l1 l2 h0 h1 h2 r0 r1 r2 _ HT hr0 hr1 hr2).mono ?_; rintro e w9 ⟨rfl, hb⟩
      exact hK _ _ hb (by rw [hq0.out, hq1.out, hq2.out]; exact rt_eqS s20)
    refine obsF_cons (obF_of ?_ (by intro d e; cases e; decide)) ?_
    · intro T wx K hB hF hD hK
      have g17 := get_eqS (hD 0 17 (by simp [Region.binds]) (by kernel_rfl)) s17
      have g20 := get_eqS (hD 3 20 (by simp [Region.binds]) (by kernel_rfl)) s20
      refine ob_yes (wanted_none rfl) ?_
      clear hF hD
      go_simp
      refine (jpts_is X Y n0 n1 n2 W l0 l1 l2 h0 h1 h2 q0 q1 q2 x1 x2 x3 y1 y2 y3 u1 u2 u3 v1 v2 v3 a1 a2 a3 b1 b2 b3 _ (TT.out.below hB) k0 k1 k2 HT PP).mono ?_; rintro e w9 ⟨rfl, hb⟩
      exact hK _ _ hb (rt_eqS s21)
    refine obsF_cons ?_ ?_
    · intro T wx K hB hF hD hK
      refine ob_yes (wanted_none rfl) ?_
      clear hF hD
      go_simp
      exact hK _ _ (belA (Below.refl _ _) _) (fun d e => by cases e; exact ⟨rt_S s6 ⟨_, rfl, hB.size, blk_new _ _ _ rfl⟩ _ rfl, fun _ => rfl⟩)
    exact obsF_nil
  · intro T9 w8 hb8 hF hs hD hN
    have g17 := get_eqS (hD 0 17 (by decide) (by kernel_rfl)) s17
    have g18 := get_eqS (hD 1 18 (by decide) (by kernel_rfl)) s18
    have g19 := get_eqS (hD 2 19 (by decide) (by kernel_rfl)) s19
    have g20 := get_eqS (hD 3 20 (by decide) (by kernel_rfl)) s20
    have g21 := get_eqS (hD 4 21 (by decide) (by kernel_rfl)) s21
    obtain ⟨v6, g6, p6⟩ := getS (hD 5 6 (by decide) (by kernel_rfl)) s6
    have hT := conc [(17, .agg #[.int .i64 X, .int .i64 Y, .int .i64 n0, .int .i64 n1, .int .i64 n2, .int .i64 W, .int .i64 l0, .int .i64 l1, .int .i64 l2, .int .i64 h0, .int .i64 h1, .int .i64 h2]), (18, .agg #[.int .i64 X, .int .i64 Y, .int .i64 n0, .int .i64 n1, .int .i64 n2, .int .i64 W, .int .i64 l0, .int .i64 l1, .int .i64 l2, .int .i64 h0, .int .i64 h1, .int .i64 h2]), (19, .agg #[.int .u8 r0, .int .u8 r1, .int .u8 r2]), (20, .agg #[.int .i64 q0, .int .i64 q1, .int .i64 q2]), (21, .agg #[.int .i64 X, .int .i64 Y, .int .i64 a1, .int .i64 b1, .int .i64 a2, .int .i64 b2, .int .i64 a3, .int .i64 b3]), (6, v6)] hs hF (by simp only [List.forall_mem_cons]; exact ⟨g17, g18, g19, g20, g21, g6, fun p hp => absurd hp List.not_mem_nil⟩) (by kernel_rfl)
    simp only [List.foldl, List.setIfInBounds_toArray, List.set_cons_succ, List.set_cons_zero] at hT
    subst hT
    clear hF hD hs hN g17 g18 g19 g20 g21 g6 s6 s17 s18 s19 s20 s21
    show wpOpsIn _ _ _ _ _ [6] _ _
    obtain ⟨b6, rfl, hs6, h6⟩ := p6
    refine tail_store rfl rfl rfl rfl rfl 44 (.tmp 6) (.tmp 21) rfl rfl b6 #[.int .i64 X, .int .i64 Y, .int .i64 a1, .int .i64 b1, .int .i64 a2, .int .i64 b2, .int .i64 a3, .int .i64 b3] rfl rfl _ _ h6 (by kernel_rfl) rfl (by kernel_rfl) ?_
    have la := blk_lt HA.out
    have H6 := Lib.hid (setRow_heap w8 b6 _ #[.int .i64 X, .int .i64 Y, .int .i64 a1, .int .i64 b1, .int .i64 a2, .int .i64 b2, .int .i64 a3, .int .i64 b3] _ _ h6)
    replace HA := Lib.hid ((setRow_other w8 b6 _ #[.int .i64 X, .int .i64 Y, .int .i64 a1, .int .i64 b1, .int .i64 a2, .int .i64 b2, .int .i64 a3, .int .i64 b3] (by omega)).trans (blk_call HA.out hb8))
    have bw := below_setRow7 hb8 hs6 #[.int .i64 X, .int .i64 Y, .int .i64 a1, .int .i64 b1, .int .i64 a2, .int .i64 b2, .int .i64 a3, .int .i64 b3]
    replace B := Lib.hid (belT B.out bw)
    replace TT := Lib.hid (Tab.below TT.out bw)
    clear bw hb8 h6 hs6 la HW
    simp only [wpOpsIn]
    generalize (w8.setRow b6 #[.int .i64 X, .int .i64 Y, .int .i64 a1, .int .i64 b1, .int .i64 a2, .int .i64 b2, .int .i64 a3, .int .i64 b3]) = W2 at *
    obtain ⟨m, hm, em⟩ := max3 n0 n1 n2
    obtain ⟨s, hs, es⟩ := max2e 0 (2 * m - (n0 + n1 + n2))
    have v := ((armB_iff X Y n0 n1 n2 W l0 l1 l2 h0 h1 h2).1 HT.out).1
    have PBD := Lib.hid (pose_bd PP.out HT.out)
    have RF := Lib.hid (reach_far PP.out HT.out hm.1 hs.1 hs.2.1)
    obtain ⟨D, hD⟩ : ∃ D, farI a3 b3 X Y = D := ⟨_, rfl⟩
    rw [hD] at RF
    replace hD := Lib.hid hD
    have eN := t16 (n0 + n1 + n2)
    have eM := t16 s
    obtain ⟨N, hN⟩ : ∃ N, (n0 + n1 + n2) * 274625 = N := ⟨_, rfl⟩
    obtain ⟨M, hM⟩ : ∃ M, s * 274625 = M := ⟨_, rfl⟩
    rw [hN] at eN RF
    rw [hM] at eM RF
    have bN : 0 ≤ N ∧ N ≤ 32955000 := by omega
    have bM : 0 ≤ M ∧ M ≤ 32955000 := by omega
    have bNN := mul_bd2 (B := 32955000) (C := 32955000) (x := N) (c := N) (by omega) (by omega)
    have bMM := mul_bd2 (B := 32955000) (C := 32955000) (x := M) (c := M) (by omega) (by omega)
    obtain ⟨rN, rM⟩ := RF.out
    clear hN hM RF
    have wx : (-1000000000 ≤ X ∧ X ≤ 1000000000) ∧ (-1000000000 ≤ Y ∧ Y ≤ 1000000000) ∧ (-1000000000 ≤ a3 ∧ a3 ≤ 1000000000) ∧ -1000000000 ≤ b3 ∧ b3 ≤ 1000000000 := by have := PBD.out; omega
    have c0 := blk_cell HA.out 0 _ rfl
    have c1 := blk_cell HA.out 1 _ rfl
    have c2 := blk_cell HA.out 2 _ rfl
    have c3 := blk_cell HA.out 3 _ rfl
    have c4 := blk_cell HA.out 4 _ rfl
    have c5 := blk_cell HA.out 5 _ rfl
    have c6 := blk_cell HA.out 6 _ rfl
    have c7 := blk_cell HA.out 7 _ rfl
    have c8 := blk_cell HA.out 8 _ rfl
    have c9 := blk_cell HA.out 9 _ rfl
    have c10 := blk_cell HA.out 10 _ rfl
    have c11 := blk_cell HA.out 11 _ rfl
    have d0 := blk_cell H6.out 0 _ rfl
    have d1 := blk_cell H6.out 1 _ rfl
    have d2 := blk_cell H6.out 2 _ rfl
    have d3 := blk_cell H6.out 3 _ rfl
    have d4 := blk_cell H6.out 4 _ rfl
    have d5 := blk_cell H6.out 5 _ rfl
    have d6 := blk_cell H6.out 6 _ rfl
    have d7 := blk_cell H6.out 7 _ rfl
    go_wp2_with fail
    refine (lfar_is a3 b3 X Y D _ hD wx.2.2.1 wx.2.2.2 wx.1 wx.2.1).mono ?_
    rintro e w3 ⟨rfl, hb3⟩
    clear c0 c1 c2 c3 c4 c5 c6 c7 c8 c9 c10 c11 d0 d1 d2 d3 d4 d5 d6 d7
    replace HA := Lib.hid (blk_call HA.out hb3)
    replace H6 := Lib.hid (blk_call H6.out hb3)
    replace B := Lib.hid (belT B.out hb3)
    replace TT := Lib.hid (Tab.below TT.out hb3)
    clear hb3
    have c0 := blk_cell HA.out 0 _ rfl
    have c1 := blk_cell HA.out 1 _ rfl
    have c2 := blk_cell HA.out 2 _ rfl
    have c3 := blk_cell HA.out 3 _ rfl
    have c4 := blk_cell HA.out 4 _ rfl
    have c5 := blk_cell HA.out 5 _ rfl
    have c6 := blk_cell HA.out 6 _ rfl
    have c7 := blk_cell HA.out 7 _ rfl
    have c8 := blk_cell HA.out 8 _ rfl
    have c9 := blk_cell HA.out 9 _ rfl
    have c10 := blk_cell HA.out 10 _ rfl
    have c11 := blk_cell HA.out 11 _ rfl
    have d0 := blk_cell H6.out 0 _ rfl
    have d1 := blk_cell H6.out 1 _ rfl
    have d2 := blk_cell H6.out 2 _ rfl
    have d3 := blk_cell H6.out 3 _ rfl
    have d4 := blk_cell H6.out 4 _ rfl
    have d5 := blk_cell H6.out 5 _ rfl
    have d6 := blk_cell H6.out 6 _ rfl
    have d7 := blk_cell H6.out 7 _ rfl
    go_wp2_with fail
    go_ret
    exact ⟨rfl, B.out⟩

set_option maxRecDepth 100000 in
theorem lifted (os : Os) (started : os.Started) (H : Type) (enc : TypeId × Value → H) :
    ReturnsInHanded {} Tryd.checked os 8 .any (fun w args => (Rows.armReachIsBoundedSpec.pre enc Tryd.prog Tryd.f8 [] false w args ∧ laidMetH Tryd.prog Rows.armReachIsBoundedRow.laid w) ∧ sizedMet enc Tryd.prog Tryd.f8 (OpenSpec.ofChange Rows.armReachIsBoundedSpec) false w args)
      (Rows.armReachIsBoundedSpec.post enc Tryd.prog Tryd.f8 false true false false) := by
  refine returnsInHanded_of_change_and (C := Tryd.checked) (X := fun w _ => laidMetH Tryd.prog Rows.armReachIsBoundedRow.laid w) (fun _ _ _ hh h => h.of_heap hh) own started (by kernel_rfl) Tryd.func8
    (ChangeSpec.witness_shaped (enc := enc) (C := Tryd.checked) (os := os) (X := fun w _ => laidMetH Tryd.prog Rows.armReachIsBoundedRow.laid w) false (World.doorLaid Tryd.prog 600 os) #[.agg #[.int .i64 0, .int .i64 0, .int .i64 0, .int .i64 0, .int .i64 0, .int .i64 0, .int .i64 0, .int .i64 0, .int .i64 0, .int .i64 0, .int .i64 0, .int .i64 0], .agg #[.int .u8 0, .int .u8 0, .int .u8 0]] 8 rfl (World.shaped_of_RefB (by kernel_rfl) (by kernel_rfl)) (by kernel_rfl) (by kernel_rfl) (by kernel_rfl) (show laidMetH Tryd.prog [(qn, Rows.laid_ambidexter_rotation_quadrant)] _ from door_met os _)) ?_
  intro W base args ds gs before hval0 hW _ _ hL _
  have hval : ∀ (j : Nat) t v, Tryd.f8.params[j]? = some t → args[j]? = some v → Value.okWide Tryd.prog W .any base t v := hval0
  have hW' := hW
  obtain ⟨p, q, hA0, hV, rfl, hfz, hnd⟩ := hW
  have hA : DataW.TrodAll enc Tryd.prog W 0 (fun _ => true) true Tryd.f8.params.toList args.toList ds p := hA0
  rw [Tryd.params8] at hA hval
  obtain ⟨v0, vs0, d0, ds0, p0, q0, hargs, rfl, rfl, h0, r0⟩ := trodAll_cons hA
  obtain ⟨v1, vs1, d1, ds1, p1, q1, rfl, rfl, rfl, h1, r1⟩ := trodAll_cons r0
  obtain ⟨rfl, rfl, rfl⟩ := trodAll_nil r1
  obtain rfl : args = #[v0, v1] := by cases args; simp_all
  obtain ⟨rfl, rfl⟩ := trodVars_none hV
  have k0 := h0
  have lt0 : ∀ x ∈ p0, x.block < W.heap.size := by obtain ⟨m, hm⟩ := k0; exact DataW.trod_lt m _ _ _ hm
  obtain ⟨c0_0, c0_1, c0_2, c0_3, c0_4, c0_5, c0_6, c0_7, c0_8, c0_9, c0_10, c0_11, rfl⟩ := AFr.open_arm (hval 0 27 v0 rfl rfl) h0
  have k1 := h1
  have lt1 : ∀ x ∈ p1, x.block < W.heap.size := by obtain ⟨m, hm⟩ := k1; exact DataW.trod_lt m _ _ _ hm
  obtain ⟨c1_0, c1_1, c1_2, rfl, b1_0, b1_1, b1_2⟩ := AFr.open_raw (hval 1 28 v1 rfl rfl) h1
  clear hA0 hval0
  simp only [List.append_nil] at hW'
  refine (walk c0_0 c0_1 c0_2 c0_3 c0_4 c0_5 c0_6 c0_7 c0_8 c0_9 c0_10 c0_11 c1_0 c1_1 c1_2 b1_0 b1_1 b1_2 W (tab_of_laid hL)).mono fun e W' ⟨he, bel⟩ => ?_
  subst he
  exact ⟨_, rfl, _, _, _, [], _, [], hW', trodAll_mk1 (shut_bool Tryd.underlying4 _), (trodAll_cons_mk (Below.trod HFr.laidOut (by kernel_rfl) (of_decide_eq_true (by kernel_rfl)) k0 bel lt0) (trodAll_cons_mk (Below.trod HFr.laidOut (by kernel_rfl) (of_decide_eq_true (by kernel_rfl)) k1 bel lt1) trodAll_mk0)), rfl, bel.frame _, fun h => by cases h⟩

theorem holds : Rows.ArmReachIsBoundedSaid :=
  OpenClaim.holds_of_wide 8 Tryd.f8 rfl rfl rfl rfl rfl rfl rfl ⟨rfl, rfl, rfl, rfl, rfl⟩ rfl rfl rfl rfl rfl (by kernel_rfl) Tryd.func8 (by kernel_rfl)
    (of_decide_eq_true (by kernel_rfl)) (by unfold Func.isWrapper; first | (rw [if_pos (by decide +kernel)]; kernel_rfl) | (rw [if_neg (by decide +kernel)]; exact ⟨rfl, rfl⟩))
    (fun os started H enc _ => lifted os started H enc)

/-- THE STATEMENT: the tied card. -/
theorem card_holds : Rows.ArmReachIsBoundedCardSaid :=
  Claim7.holds_tied_plain_at .later [] [.data] true Rows.armReachIsBoundedCard.stood.harness false
    holds (fun _ h => by cases h) (by kernel_rfl) (fun _ h => by cases h) armReachIsBounded_row_tie rfl ⟨rfl, rfl⟩ (by kernel_rfl) rfl
    (fun f fn hf hfn => by
      obtain rfl : f = 8 := Option.some.inj ((show Tryd.prog.funcNamed Rows.armReachIsBoundedRow.func = some 8 by kernel_rfl).symm.trans hf) |>.symm
      obtain rfl : fn = Tryd.f8 := (Option.some.inj (Tryd.func8.symm.trans hfn)).symm
      exact ⟨by kernel_rfl, fun j t ht => by
        rw [Tryd.params8] at ht
        have hm : t ∈ [27, 28] := by have := Array.mem_of_getElem? ht; simp only [List.mem_toArray, List.mem_cons, List.not_mem_nil, or_false] at this ⊢; grind
        have hall : ([27, 28].all fun u => !Tryd.prog.wantsStandIn u) = true := by kernel_rfl
        exact (show Tryd.prog.wantsStandIn t = false by simpa using List.all_eq_true.1 hall t hm)⟩)
    (by kernel_rfl)
#print axioms card_holds
end Go.Proofs.YtalhkcmlacppjaaDoor.armReachIsBounded
