/- For every arm and all joint values, Valid and InLimits, and for valid arms LinkDirections, JointPoints, LinkPolygons and StepJoint, return what the reference returns.
Conditions: none on the arguments; the table of rotations lies as the program's text lays it (the card's tie). -/
import Derived.Test.YtalhkcmlacppjaaDoorAmM
import Derived.Test.YtalhkcmlacppjaaDoorAmY
import Derived.Test.YtalhkcmlacppjaaDoorAmG
import Derived.Test.YtalhkcmlacppjaaDoorAmZ
import Derived.Test.YtalhkcmlacppjaaDoorAmT
import Derived.Test.YtalhkcmlacppjaaDoorAmU
import Derived.Test.YtalhkcmlacppjaaDoorBase
import Derived.Test.YtalhkcmlacppjaaDoorTie
import Derived.Test.YtalhkcmlacppjaaDoorCards
import Derived.SevenTiedAt
namespace Go.Proofs.YtalhkcmlacppjaaDoor.armMatchesReference
open Go.ChangeShapes Go.WideShapes Go.ChangeAt Go.RowKit
set_option linter.unusedVariables false
set_option linter.unusedSimpArgs false
set_option maxRecDepth 100000

set_option maxHeartbeats 4000000 in
theorem walk (X Y n0 n1 n2 W l0 l1 l2 h0 h1 h2 : Int) (p0 p1 p2 : Int) (bp0 : -9223372036854775808 ≤ p0 ∧ p0 ≤ 9223372036854775807) (bp1 : -9223372036854775808 ≤ p1 ∧ p1 ≤ 9223372036854775807) (bp2 : -9223372036854775808 ≤ p2 ∧ p2 ≤ 9223372036854775807) (r0 r1 r2 : Int) (hr0 : 0 ≤ r0 ∧ r0 ≤ 255) (hr1 : 0 ≤ r1 ∧ r1 ≤ 255) (hr2 : 0 ≤ r2 ∧ r2 ≤ 255) (j : Int) (wj : (Lit.int .i64 j).wf = true) (by_ : Int) (wb : (Lit.int .i64 by_).wf = true) (w : World) (hT : Tab w) :
    Calls Tryd.prog 3 #[.agg #[.int .i64 X, .int .i64 Y, .int .i64 n0, .int .i64 n1, .int .i64 n2, .int .i64 W, .int .i64 l0, .int .i64 l1, .int .i64 l2, .int .i64 h0, .int .i64 h1, .int .i64 h2], .agg #[.int .i64 p0, .int .i64 p1, .int .i64 p2], .agg #[.int .u8 r0, .int .u8 r1, .int .u8 r2], .int .i64 j, .int .i64 by_] w fun e w' => e = .returned (.bool true) ∧ Below w.heap.size w w' := by
  have B := Lib.hid (Below.refl w.heap.size w)
  have TT := Lib.hid hT
  clear hT
  go_enter Tryd.func3, Tryd.ntmps3
  go_wp2_with fail
  refine (head7_is _ (Tab.alloc (Tab.alloc (Tab.alloc TT.out (.cells #[.int .i64 X, .int .i64 Y, .int .i64 n0, .int .i64 n1, .int .i64 n2, .int .i64 W, .int .i64 l0, .int .i64 l1, .int .i64 l2, .int .i64 h0, .int .i64 h1, .int .i64 h2] 27)) (.cells #[.int .i64 p0, .int .i64 p1, .int .i64 p2] 25)) (.cells #[.int .u8 r0, .int .u8 r1, .int .u8 r2] 28))).mono ?_
  rintro e w1 ⟨rfl, hb1⟩
  have HA := Lib.hid (blk_call (blk_alloc (blk_alloc (blk_new w (.cells #[.int .i64 X, .int .i64 Y, .int .i64 n0, .int .i64 n1, .int .i64 n2, .int .i64 W, .int .i64 l0, .int .i64 l1, .int .i64 l2, .int .i64 h0, .int .i64 h1, .int .i64 h2] 27) (w.heap.size) rfl) (.cells #[.int .i64 p0, .int .i64 p1, .int .i64 p2] 25)) (.cells #[.int .u8 r0, .int .u8 r1, .int .u8 r2] 28)) hb1)
  have HP := Lib.hid (blk_call (blk_alloc (blk_new (w.alloc (.cells #[.int .i64 X, .int .i64 Y, .int .i64 n0, .int .i64 n1, .int .i64 n2, .int .i64 W, .int .i64 l0, .int .i64 l1, .int .i64 l2, .int .i64 h0, .int .i64 h1, .int .i64 h2] 27)) (.cells #[.int .i64 p0, .int .i64 p1, .int .i64 p2] 25) (w.heap.size + 1) (by simp)) (.cells #[.int .u8 r0, .int .u8 r1, .int .u8 r2] 28)) hb1)
  have HW := Lib.hid (blk_call (blk_new ((w.alloc (.cells #[.int .i64 X, .int .i64 Y, .int .i64 n0, .int .i64 n1, .int .i64 n2, .int .i64 W, .int .i64 l0, .int .i64 l1, .int .i64 l2, .int .i64 h0, .int .i64 h1, .int .i64 h2] 27)).alloc (.cells #[.int .i64 p0, .int .i64 p1, .int .i64 p2] 25)) (.cells #[.int .u8 r0, .int .u8 r1, .int .u8 r2] 28) (w.heap.size + 1 + 1) (by simp)) hb1)
  replace B := Lib.hid (belT (belA (belA (belA B.out (.cells #[.int .i64 X, .int .i64 Y, .int .i64 n0, .int .i64 n1, .int .i64 n2, .int .i64 W, .int .i64 l0, .int .i64 l1, .int .i64 l2, .int .i64 h0, .int .i64 h1, .int .i64 h2] 27)) (.cells #[.int .i64 p0, .int .i64 p1, .int .i64 p2] 25)) (.cells #[.int .u8 r0, .int .u8 r1, .int .u8 r2] 28)) hb1)
  replace TT := Lib.hid (Tab.below (Tab.alloc (Tab.alloc (Tab.alloc TT.out (.cells #[.int .i64 X, .int .i64 Y, .int .i64 n0, .int .i64 n1, .int .i64 n2, .int .i64 W, .int .i64 l0, .int .i64 l1, .int .i64 l2, .int .i64 h0, .int .i64 h1, .int .i64 h2] 27)) (.cells #[.int .i64 p0, .int .i64 p1, .int .i64 p2] 25)) (.cells #[.int .u8 r0, .int .u8 r1, .int .u8 r2] 28)) hb1)
  clear hb1
  obtain ⟨t, ht⟩ : ∃ t, armB X Y n0 n1 n2 W l0 l1 l2 h0 h1 h2 = t := ⟨_, rfl⟩
  have HT := Lib.hid ht
  clear ht
  obtain ⟨f, hf⟩ : ∃ f, fitB l0 l1 l2 h0 h1 h2 p0 p1 p2 = f := ⟨_, rfl⟩
  have HF := Lib.hid hf
  clear hf
  go_upto_region 2 with fail
  obtain ⟨sp, hsp⟩ : ∃ sp : ToldS, sp = [none, none, none, none, none, none, none, none, none, none, none, none, none, none, none, none, none, none, none, none, none, some (eqS (.agg #[.int .i64 X, .int .i64 Y, .int .i64 n0, .int .i64 n1, .int .i64 n2, .int .i64 W, .int .i64 l0, .int .i64 l1, .int .i64 l2, .int .i64 h0, .int .i64 h1, .int .i64 h2])), some (eqS (.bool t)), some (eqS (.agg #[.int .i64 X, .int .i64 Y, .int .i64 n0, .int .i64 n1, .int .i64 n2, .int .i64 W, .int .i64 l0, .int .i64 l1, .int .i64 l2, .int .i64 h0, .int .i64 h1, .int .i64 h2])), some (eqS (.bool t)), some (eqS (.bool false)), some (eqS (.bool false)), some (eqS (.agg #[.int .i64 X, .int .i64 Y, .int .i64 n0, .int .i64 n1, .int .i64 n2, .int .i64 W, .int .i64 l0, .int .i64 l1, .int .i64 l2, .int .i64 h0, .int .i64 h1, .int .i64 h2])), some (eqS (.agg #[.int .i64 p0, .int .i64 p1, .int .i64 p2])), some (eqS (.bool f)), some (eqS (.agg #[.int .i64 X, .int .i64 Y, .int .i64 n0, .int .i64 n1, .int .i64 n2, .int .i64 W, .int .i64 l0, .int .i64 l1, .int .i64 l2, .int .i64 h0, .int .i64 h1, .int .i64 h2])), some (eqS (.agg #[.int .i64 p0, .int .i64 p1, .int .i64 p2])), some (eqS (.bool f)), some (eqS (.bool false)), some (eqS (.bool false))] := ⟨_, rfl⟩
  have s21 : sp.getD 21 none = some (eqS (.agg #[.int .i64 X, .int .i64 Y, .int .i64 n0, .int .i64 n1, .int .i64 n2, .int .i64 W, .int .i64 l0, .int .i64 l1, .int .i64 l2, .int .i64 h0, .int .i64 h1, .int .i64 h2])) := by rw [hsp]; rfl
  have s22 : sp.getD 22 none = some (eqS (.bool t)) := by rw [hsp]; rfl
  have s23 : sp.getD 23 none = some (eqS (.agg #[.int .i64 X, .int .i64 Y, .int .i64 n0, .int .i64 n1, .int .i64 n2, .int .i64 W, .int .i64 l0, .int .i64 l1, .int .i64 l2, .int .i64 h0, .int .i64 h1, .int .i64 h2])) := by rw [hsp]; rfl
  have s24 : sp.getD 24 none = some (eqS (.bool t)) := by rw [hsp]; rfl
  have s25 : sp.getD 25 none = some (eqS (.bool false)) := by rw [hsp]; rfl
  have s26 : sp.getD 26 none = some (eqS (.bool false)) := by rw [hsp]; rfl
  have s27 : sp.getD 27 none = some (eqS (.agg #[.int .i64 X, .int .i64 Y, .int .i64 n0, .int .i64 n1, .int .i64 n2, .int .i64 W, .int .i64 l0, .int .i64 l1, .int .i64 l2, .int .i64 h0, .int .i64 h1, .int .i64 h2])) := by rw [hsp]; rfl
  have s28 : sp.getD 28 none = some (eqS (.agg #[.int .i64 p0, .int .i64 p1, .int .i64 p2])) := by rw [hsp]; rfl
  have s29 : sp.getD 29 none = some (eqS (.bool f)) := by rw [hsp]; rfl
  have s30 : sp.getD 30 none = some (eqS (.agg #[.int .i64 X, .int .i64 Y, .int .i64 n0, .int .i64 n1, .int .i64 n2, .int .i64 W, .int .i64 l0, .int .i64 l1, .int .i64 l2, .int .i64 h0, .int .i64 h1, .int .i64 h2])) := by rw [hsp]; rfl
  have s31 : sp.getD 31 none = some (eqS (.agg #[.int .i64 p0, .int .i64 p1, .int .i64 p2])) := by rw [hsp]; rfl
  have s32 : sp.getD 32 none = some (eqS (.bool f)) := by rw [hsp]; rfl
  have s33 : sp.getD 33 none = some (eqS (.bool false)) := by rw [hsp]; rfl
  have s34 : sp.getD 34 none = some (eqS (.bool false)) := by rw [hsp]; rfl
  clear hsp
  refine (wpIn_wide (n := 0)).1 (region_allR (RtS sp) (rtS_keep sp) rfl rfl rfl (by kernel_rfl) (by kernel_rfl) (by kernel_rfl) ?_ ?_)
  · intro Q'
    refine obsR_cons ?_ ?_
    · intro T wx K hB hF hD hK
      have g5 : T[5]? = some (.pointer (some ⟨w.heap.size, 0, none⟩)) := hF 5 (freeM_of (by kernel_rfl))
      refine ob_yes (wanted_none rfl) ?_
      clear hF hD
      exact wp_load_row 27 (.tmp 5) rfl w.heap.size (eval_tmp g5) _ _ _ _ (blk_call HA.out hB) Tryd.underlying27 rfl (by kernel_rfl) (hK _ _ (Below.refl _ _) (rt_eqS s21))
    refine obsR_cons ?_ ?_
    · intro T wx K hB hF hD hK
      have g21 := get_eqS (hD 0 21 (by simp [Region.binds]) (by kernel_rfl)) s21
      refine ob_yes (wanted_none rfl) ?_
      clear hF hD
      go_simp
      refine (armv_is X Y n0 n1 n2 W l0 l1 l2 h0 h1 h2 t _ HT).mono ?_; rintro e w9 ⟨rfl, hb⟩
      exact hK _ _ hb (rt_eqS s22)
    refine obsR_cons ?_ ?_
    · intro T wx K hB hF hD hK
      have g5 : T[5]? = some (.pointer (some ⟨w.heap.size, 0, none⟩)) := hF 5 (freeM_of (by kernel_rfl))
      refine ob_yes (wanted_none rfl) ?_
      clear hF hD
      exact wp_load_row 27 (.tmp 5) rfl w.heap.size (eval_tmp g5) _ _ _ _ (blk_call HA.out hB) Tryd.underlying27 rfl (by kernel_rfl) (hK _ _ (Below.refl _ _) (rt_eqS s23))
    refine obsR_cons ?_ ?_
    · intro T wx K hB hF hD hK
      have g23 := get_eqS (hD 2 23 (by simp [Region.binds]) (by kernel_rfl)) s23
      refine ob_yes (wanted_none rfl) ?_
      clear hF hD
      go_simp
      refine (right7_is X Y n0 n1 n2 W l0 l1 l2 h0 h1 h2 t _ HT).mono ?_; rintro e w9 ⟨rfl, hb⟩
      exact hK _ _ hb (rt_eqS s24)
    refine obsR_cons ?_ ?_
    · intro T wx K hB hF hD hK
      have g22 := get_eqS (hD 1 22 (by simp [Region.binds]) (by kernel_rfl)) s22
      have g24 := get_eqS (hD 3 24 (by simp [Region.binds]) (by kernel_rfl)) s24
      refine ob_yes (wanted_none rfl) ?_
      clear hF hD
      have bb : (t != t) = false := by cases t <;> rfl
      go_simp
      exact hK _ _ (Below.refl _ _) (rt_eqS s25)
    refine obsR_cons ?_ ?_
    · intro T wx K hB hF hD hK
      have g25 := get_eqS (hD 4 25 (by simp [Region.binds]) (by kernel_rfl)) s25
      refine ob_yes (wanted_none rfl) ?_
      clear hF hD
      go_simp
      exact hK _ _ (Below.refl _ _) (rt_eqS s26)
    refine obsR_cons ?_ ?_
    · intro T wx K hB hF hD hK
      have g26 := get_eqS (hD 5 26 (by simp [Region.binds]) (by kernel_rfl)) s26
      have g5 : T[5]? = some (.pointer (some ⟨w.heap.size, 0, none⟩)) := hF 5 (freeM_of (by kernel_rfl))
      refine ob_yes (wanted_yes rfl (by kernel_rfl) g26) ?_
      clear hF hD
      exact wp_load_row 27 (.tmp 5) rfl w.heap.size (eval_tmp g5) _ _ _ _ (blk_call HA.out hB) Tryd.underlying27 rfl (by kernel_rfl) (hK _ _ (Below.refl _ _) (rt_eqS s27))
    refine obsR_cons ?_ ?_
    · intro T wx K hB hF hD hK
      have g26 := get_eqS (hD 5 26 (by simp [Region.binds]) (by kernel_rfl)) s26
      have g6 : T[6]? = some (.pointer (some ⟨(w.heap.size + 1), 0, none⟩)) := hF 6 (freeM_of (by kernel_rfl))
      refine ob_yes (wanted_yes rfl (by kernel_rfl) g26) ?_
      clear hF hD
      exact wp_load_row 25 (.tmp 6) rfl (w.heap.size + 1) (eval_tmp g6) _ _ _ _ (blk_call HP.out hB) Tryd.underlying25 rfl (by kernel_rfl) (hK _ _ (Below.refl _ _) (rt_eqS s28))
    refine obsR_cons ?_ ?_
    · intro T wx K hB hF hD hK
      have g26 := get_eqS (hD 5 26 (by simp [Region.binds]) (by kernel_rfl)) s26
      have g27 := get_eqS (hD 6 27 (by simp [Region.binds]) (by kernel_rfl)) s27
      have g28 := get_eqS (hD 7 28 (by simp [Region.binds]) (by kernel_rfl)) s28
      refine ob_yes (wanted_yes rfl (by kernel_rfl) g26) ?_
      clear hF hD
      go_simp
      refine (inlim_is X Y n0 n1 n2 W l0 l1 l2 h0 h1 h2 p0 p1 p2 f _ HF).mono ?_; rintro e w9 ⟨rfl, hb⟩
      exact hK _ _ hb (rt_eqS s29)
    refine obsR_cons ?_ ?_
    · intro T wx K hB hF hD hK
      have g26 := get_eqS (hD 5 26 (by simp [Region.binds]) (by kernel_rfl)) s26
      have g5 : T[5]? = some (.pointer (some ⟨w.heap.size, 0, none⟩)) := hF 5 (freeM_of (by kernel_rfl))
      refine ob_yes (wanted_yes rfl (by kernel_rfl) g26) ?_
      clear hF hD
      exact wp_load_row 27 (.tmp 5) rfl w.heap.size (eval_tmp g5) _ _ _ _ (blk_call HA.out hB) Tryd.underlying27 rfl (by kernel_rfl) (hK _ _ (Below.refl _ _) (rt_eqS s30))
    refine obsR_cons ?_ ?_
    · intro T wx K hB hF hD hK
      have g26 := get_eqS (hD 5 26 (by simp [Region.binds]) (by kernel_rfl)) s26
      have g6 : T[6]? = some (.pointer (some ⟨(w.heap.size + 1), 0, none⟩)) := hF 6 (freeM_of (by kernel_rfl))
      refine ob_yes (wanted_yes rfl (by kernel_rfl) g26) ?_
      clear hF hD
      exact wp_load_row 25 (.tmp 6) rfl (w.heap.size + 1) (eval_tmp g6) _ _ _ _ (blk_call HP.out hB) Tryd.underlying25 rfl (by kernel_rfl) (hK _ _ (Below.refl _ _) (rt_eqS s31))
    refine obsR_cons ?_ ?_
    · intro T wx K hB hF hD hK
      have g26 := get_eqS (hD 5 26 (by simp [Region.binds]) (by kernel_rfl)) s26
      have g30 := get_eqS (hD 9 30 (by simp [Region.binds]) (by kernel_rfl)) s30
      have g31 := get_eqS (hD 10 31 (by simp [Region.binds]) (by kernel_rfl)) s31
      refine ob_yes (wanted_yes rfl (by kernel_rfl) g26) ?_
      clear hF hD
      go_simp
      refine (fits7_is X Y n0 n1 n2 W l0 l1 l2 h0 h1 h2 p0 p1 p2 f _ HF).mono ?_; rintro e w9 ⟨rfl, hb⟩
      exact hK _ _ hb (rt_eqS s32)
    refine obsR_cons ?_ ?_
    · intro T wx K hB hF hD hK
      have g26 := get_eqS (hD 5 26 (by simp [Region.binds]) (by kernel_rfl)) s26
      have g29 := get_eqS (hD 8 29 (by simp [Region.binds]) (by kernel_rfl)) s29
      have g32 := get_eqS (hD 11 32 (by simp [Region.binds]) (by kernel_rfl)) s32
      refine ob_yes (wanted_yes rfl (by kernel_rfl) g26) ?_
      clear hF hD
      have bb : (f != f) = false := by cases f <;> rfl
      go_simp
      exact hK _ _ (Below.refl _ _) (rt_eqS s33)
    refine obsR_cons ?_ ?_
    · intro T wx K hB hF hD hK
      have g26 := get_eqS (hD 5 26 (by simp [Region.binds]) (by kernel_rfl)) s26
      have g33 := get_eqS (hD 12 33 (by simp [Region.binds]) (by kernel_rfl)) s33
      refine ob_yes (wanted_none rfl) ?_
      clear hF hD
      go_simp
      exact hK _ _ (Below.refl _ _) (rt_eqS s34)
    exact obsR_nil
  · intro T1 W1 hb8 hF hs hD
    have g21 := get_eqS (hD 0 21 (by decide) (by kernel_rfl)) s21
    have g22 := get_eqS (hD 1 22 (by decide) (by kernel_rfl)) s22
    have g23 := get_eqS (hD 2 23 (by decide) (by kernel_rfl)) s23
    have g24 := get_eqS (hD 3 24 (by decide) (by kernel_rfl)) s24
    have g25 := get_eqS (hD 4 25 (by decide) (by kernel_rfl)) s25
    have g26 := get_eqS (hD 5 26 (by decide) (by kernel_rfl)) s26
    have g27 := get_eqS (hD 6 27 (by decide) (by kernel_rfl)) s27
    have g28 := get_eqS (hD 7 28 (by decide) (by kernel_rfl)) s28
    have g29 := get_eqS (hD 8 29 (by decide) (by kernel_rfl)) s29
    have g30 := get_eqS (hD 9 30 (by decide) (by kernel_rfl)) s30
    have g31 := get_eqS (hD 10 31 (by decide) (by kernel_rfl)) s31
    have g32 := get_eqS (hD 11 32 (by decide) (by kernel_rfl)) s32
    have g33 := get_eqS (hD 12 33 (by decide) (by kernel_rfl)) s33
    have g34 := get_eqS (hD 13 34 (by decide) (by kernel_rfl)) s34
    have hT := conc [(21, .agg #[.int .i64 X, .int .i64 Y, .int .i64 n0, .int .i64 n1, .int .i64 n2, .int .i64 W, .int .i64 l0, .int .i64 l1, .int .i64 l2, .int .i64 h0, .int .i64 h1, .int .i64 h2]), (22, .bool t), (23, .agg #[.int .i64 X, .int .i64 Y, .int .i64 n0, .int .i64 n1, .int .i64 n2, .int .i64 W, .int .i64 l0, .int .i64 l1, .int .i64 l2, .int .i64 h0, .int .i64 h1, .int .i64 h2]), (24, .bool t), (25, .bool false), (26, .bool false), (27, .agg #[.int .i64 X, .int .i64 Y, .int .i64 n0, .int .i64 n1, .int .i64 n2, .int .i64 W, .int .i64 l0, .int .i64 l1, .int .i64 l2, .int .i64 h0, .int .i64 h1, .int .i64 h2]), (28, .agg #[.int .i64 p0, .int .i64 p1, .int .i64 p2]), (29, .bool f), (30, .agg #[.int .i64 X, .int .i64 Y, .int .i64 n0, .int .i64 n1, .int .i64 n2, .int .i64 W, .int .i64 l0, .int .i64 l1, .int .i64 l2, .int .i64 h0, .int .i64 h1, .int .i64 h2]), (31, .agg #[.int .i64 p0, .int .i64 p1, .int .i64 p2]), (32, .bool f), (33, .bool false), (34, .bool false)] hs hF (by simp only [List.forall_mem_cons]; exact ⟨g21, g22, g23, g24, g25, g26, g27, g28, g29, g30, g31, g32, g33, g34, fun p hp => absurd hp List.not_mem_nil⟩) (by kernel_rfl)
    simp only [List.foldl, List.setIfInBounds_toArray, List.set_cons_succ, List.set_cons_zero] at hT
    subst hT
    clear hF hD hs g21 g22 g23 g24 g25 g26 g27 g28 g29 g30 g31 g32 g33 g34 s21 s22 s23 s24 s25 s26 s27 s28 s29 s30 s31 s32 s33 s34
    replace HA := Lib.hid (blk_call HA.out hb8)
    replace HP := Lib.hid (blk_call HP.out hb8)
    replace HW := Lib.hid (blk_call HW.out hb8)
    replace B := Lib.hid (belT B.out hb8)
    replace TT := Lib.hid (Tab.below TT.out hb8)
    clear hb8
    have c0 := blk_cell HA.out 0 _ rfl
    have c1 := blk_cell HA.out 1 _ rfl
    have c2 := blk_cell HA.out 2 _ rfl
    have c3 := blk_cell HA.out 3 _ rfl
    have c4 := blk_cell HA.out 4 _ rfl
    have c5 := blk_cell HA.out 5 _ rfl
    have c6 := blk_cell HA.out 6 _ rfl
    have c7 := blk_cell HA.out 7 _ rfl
    have c8 := blk_cell HA.out 8 _ rfl
    have c9 := blk_cell HA.out 9 _ rfl
    have c10 := blk_cell HA.out 10 _ rfl
    have c11 := blk_cell HA.out 11 _ rfl
    go_wp2_with fail
    refine (right7_is X Y n0 n1 n2 W l0 l1 l2 h0 h1 h2 t _ HT).mono ?_
    rintro e w2 ⟨rfl, hb2⟩
    clear c0 c1 c2 c3 c4 c5 c6 c7 c8 c9 c10 c11
    replace HA := Lib.hid (blk_call HA.out hb2)
    replace HP := Lib.hid (blk_call HP.out hb2)
    replace HW := Lib.hid (blk_call HW.out hb2)
    replace B := Lib.hid (belT B.out hb2)
    replace TT := Lib.hid (Tab.below TT.out hb2)
    clear hb2
    cases t
    · go_wp2_with fail
      go_ret
      exact ⟨rfl, B.out⟩
    have JB0 := Lib.hid (jq_bd (l := l0) (h := h0) (by have := (armB_iff X Y n0 n1 n2 W l0 l1 l2 h0 h1 h2).1 HT.out; omega) hr0.1)
    have JB1 := Lib.hid (jq_bd (l := l1) (h := h1) (by have := (armB_iff X Y n0 n1 n2 W l0 l1 l2 h0 h1 h2).1 HT.out; omega) hr1.1)
    have JB2 := Lib.hid (jq_bd (l := l2) (h := h2) (by have := (armB_iff X Y n0 n1 n2 W l0 l1 l2 h0 h1 h2).1 HT.out; omega) hr2.1)
    obtain ⟨q0, hq0⟩ : ∃ q, jq l0 h0 r0 = q := ⟨_, rfl⟩
    rw [hq0] at JB0
    have k0 : -1000 ≤ q0 ∧ q0 ≤ 1000 := by have := (armB_iff X Y n0 n1 n2 W l0 l1 l2 h0 h1 h2).1 HT.out; have := JB0.out; omega
    replace hq0 := Lib.hid hq0
    obtain ⟨q1, hq1⟩ : ∃ q, jq l1 h1 r1 = q := ⟨_, rfl⟩
    rw [hq1] at JB1
    have k1 : -1000 ≤ q1 ∧ q1 ≤ 1000 := by have := (armB_iff X Y n0 n1 n2 W l0 l1 l2 h0 h1 h2).1 HT.out; have := JB1.out; omega
    replace hq1 := Lib.hid hq1
    obtain ⟨q2, hq2⟩ : ∃ q, jq l2 h2 r2 = q := ⟨_, rfl⟩
    rw [hq2] at JB2
    have k2 : -1000 ≤ q2 ∧ q2 ≤ 1000 := by have := (armB_iff X Y n0 n1 n2 W l0 l1 l2 h0 h1 h2).1 HT.out; have := JB2.out; omega
    replace hq2 := Lib.hid hq2
    have JQ : Hid (∀ w : World, Calls Tryd.prog 15 #[.agg #[.int .i64 X, .int .i64 Y, .int .i64 n0, .int .i64 n1, .int .i64 n2, .int .i64 W, .int .i64 l0, .int .i64 l1, .int .i64 l2, .int .i64 h0, .int .i64 h1, .int .i64 h2], .agg #[.int .u8 r0, .int .u8 r1, .int .u8 r2]] w fun e w' => e = .returned (.agg #[.int .i64 q0, .int .i64 q1, .int .i64 q2]) ∧ Below w.heap.size w w') := Lib.hid (fun w => by have := joint_is X Y n0 n1 n2 W l0 l1 l2 h0 h1 h2 r0 r1 r2 w HT hr0 hr1 hr2; rwa [hq0.out, hq1.out, hq2.out] at this)
    obtain ⟨x1, x2, x3, y1, y2, y3, u1, u2, u3, v1, v2, v3, a1, a2, a3, b1, b2, b3, PP⟩ := pose_ex X Y n0 n1 n2 q0 q1 q2
    replace PP := Lib.hid PP
    have c0 := blk_cell HA.out 0 _ rfl
    have c1 := blk_cell HA.out 1 _ rfl
    have c2 := blk_cell HA.out 2 _ rfl
    have c3 := blk_cell HA.out 3 _ rfl
    have c4 := blk_cell HA.out 4 _ rfl
    have c5 := blk_cell HA.out 5 _ rfl
    have c6 := blk_cell HA.out 6 _ rfl
    have c7 := blk_cell HA.out 7 _ rfl
    have c8 := blk_cell HA.out 8 _ rfl
    have c9 := blk_cell HA.out 9 _ rfl
    have c10 := blk_cell HA.out 10 _ rfl
    have c11 := blk_cell HA.out 11 _ rfl
    have d0 := blk_cell HW.out 0 _ rfl
    have d1 := blk_cell HW.out 1 _ rfl
    have d2 := blk_cell HW.out 2 _ rfl
    go_wp2_with fail
    refine (JQ.out _).mono ?_
    rintro e w3 ⟨rfl, hb3⟩
    clear c0 c1 c2 c3 c4 c5 c6 c7 c8 c9 c10 c11 d0 d1 d2
    replace HA := Lib.hid (blk_call HA.out hb3)
    replace HP := Lib.hid (blk_call HP.out hb3)
    replace HW := Lib.hid (blk_call HW.out hb3)
    replace B := Lib.hid (belT B.out hb3)
    replace TT := Lib.hid (Tab.below TT.out hb3)
    clear hb3
    go_upto_region 7 with fail
    replace HA := Lib.hid (blk_alloc HA.out (.cells #[.int .i64 q0, .int .i64 q1, .int .i64 q2] 25))
    replace HP := Lib.hid (blk_alloc HP.out (.cells #[.int .i64 q0, .int .i64 q1, .int .i64 q2] 25))
    replace HW := Lib.hid (blk_alloc HW.out (.cells #[.int .i64 q0, .int .i64 q1, .int .i64 q2] 25))
    have HQ := Lib.hid (blk_new w3 (.cells #[.int .i64 q0, .int .i64 q1, .int .i64 q2] 25) (w3.heap.size) rfl)
    replace B := Lib.hid (belA B.out (.cells #[.int .i64 q0, .int .i64 q1, .int .i64 q2] 25))
    replace TT := Lib.hid (Tab.alloc TT.out (.cells #[.int .i64 q0, .int .i64 q1, .int .i64 q2] 25))
    generalize (w3.alloc (.cells #[.int .i64 q0, .int .i64 q1, .int .i64 q2] 25)) = W2 at *
    obtain ⟨r0_0, r0_1, r0_2, r0_3, r0_4, r0_5, r0_6, r0_7, hL0⟩ : ∃ r0_0 r0_1 r0_2 r0_3 r0_4 r0_5 r0_6 r0_7, bodL X Y a1 b1 (W * u1) (W * v1) = [(r0_0, r0_1), (r0_2, r0_3), (r0_4, r0_5), (r0_6, r0_7)] := ⟨_, _, _, _, _, _, _, _, rfl⟩
    replace hL0 := Lib.hid hL0
    obtain ⟨r1_0, r1_1, r1_2, r1_3, r1_4, r1_5, r1_6, r1_7, hL1⟩ : ∃ r1_0 r1_1 r1_2 r1_3 r1_4 r1_5 r1_6 r1_7, bodL a1 b1 a2 b2 (W * u2) (W * v2) = [(r1_0, r1_1), (r1_2, r1_3), (r1_4, r1_5), (r1_6, r1_7)] := ⟨_, _, _, _, _, _, _, _, rfl⟩
    replace hL1 := Lib.hid hL1
    obtain ⟨r2_0, r2_1, r2_2, r2_3, r2_4, r2_5, r2_6, r2_7, hL2⟩ : ∃ r2_0 r2_1 r2_2 r2_3 r2_4 r2_5 r2_6 r2_7, bodL a2 b2 a3 b3 (W * u3) (W * v3) = [(r2_0, r2_1), (r2_2, r2_3), (r2_4, r2_5), (r2_6, r2_7)] := ⟨_, _, _, _, _, _, _, _, rfl⟩
    replace hL2 := Lib.hid hL2
    obtain ⟨sp, hsp⟩ : ∃ sp : ToldS, sp = [none, none, none, none, none, none, none, none, none, none, none, none, none, some (newS W2.heap.size #[.slice none 0 0, .slice none 0 0, .slice none 0 0] 35), some (newS W2.heap.size #[.slice none 0 0, .slice none 0 0, .slice none 0 0] 35), none, none, none, none, none, none, none, none, none, none, none, none, none, none, none, none, none, none, none, none, none, none, none, none, none, none, none, some (eqS (.agg #[.int .i64 X, .int .i64 Y, .int .i64 n0, .int .i64 n1, .int .i64 n2, .int .i64 W, .int .i64 l0, .int .i64 l1, .int .i64 l2, .int .i64 h0, .int .i64 h1, .int .i64 h2])), some (eqS (.agg #[.int .i64 q0, .int .i64 q1, .int .i64 q2])), some (linkS [(r0_0, r0_1), (r0_2, r0_3), (r0_4, r0_5), (r0_6, r0_7)] [(r1_0, r1_1), (r1_2, r1_3), (r1_4, r1_5), (r1_6, r1_7)] [(r2_0, r2_1), (r2_2, r2_3), (r2_4, r2_5), (r2_6, r2_7)]), some (eqS (.agg #[.int .i64 X, .int .i64 Y, .int .i64 n0, .int .i64 n1, .int .i64 n2, .int .i64 W, .int .i64 l0, .int .i64 l1, .int .i64 l2, .int .i64 h0, .int .i64 h1, .int .i64 h2])), some (eqS (.agg #[.int .i64 q0, .int .i64 q1, .int .i64 q2])), some (linkS [(r0_0, r0_1), (r0_2, r0_3), (r0_4, r0_5), (r0_6, r0_7)] [(r1_0, r1_1), (r1_2, r1_3), (r1_4, r1_5), (r1_6, r1_7)] [(r2_0, r2_1), (r2_2, r2_3), (r2_4, r2_5), (r2_6, r2_7)])] := ⟨_, rfl⟩
    have s13 : sp.getD 13 none = some (newS W2.heap.size #[.slice none 0 0, .slice none 0 0, .slice none 0 0] 35) := by rw [hsp]; rfl
    have s14 : sp.getD 14 none = some (newS W2.heap.size #[.slice none 0 0, .slice none 0 0, .slice none 0 0] 35) := by rw [hsp]; rfl
    have s42 : sp.getD 42 none = some (eqS (.agg #[.int .i64 X, .int .i64 Y, .int .i64 n0, .int .i64 n1, .int .i64 n2, .int .i64 W, .int .i64 l0, .int .i64 l1, .int .i64 l2, .int .i64 h0, .int .i64 h1, .int .i64 h2])) := by rw [hsp]; rfl
    have s43 : sp.getD 43 none = some (eqS (.agg #[.int .i64 q0, .int .i64 q1, .int .i64 q2])) := by rw [hsp]; rfl
    have s44 : sp.getD 44 none = some (linkS [(r0_0, r0_1), (r0_2, r0_3), (r0_4, r0_5), (r0_6, r0_7)] [(r1_0, r1_1), (r1_2, r1_3), (r1_4, r1_5), (r1_6, r1_7)] [(r2_0, r2_1), (r2_2, r2_3), (r2_4, r2_5), (r2_6, r2_7)]) := by rw [hsp]; rfl
    have s45 : sp.getD 45 none = some (eqS (.agg #[.int .i64 X, .int .i64 Y, .int .i64 n0, .int .i64 n1, .int .i64 n2, .int .i64 W, .int .i64 l0, .int .i64 l1, .int .i64 l2, .int .i64 h0, .int .i64 h1, .int .i64 h2])) := by rw [hsp]; rfl
    have s46 : sp.getD 46 none = some (eqS (.agg #[.int .i64 q0, .int .i64 q1, .int .i64 q2])) := by rw [hsp]; rfl
    have s47 : sp.getD 47 none = some (linkS [(r0_0, r0_1), (r0_2, r0_3), (r0_4, r0_5), (r0_6, r0_7)] [(r1_0, r1_1), (r1_2, r1_3), (r1_4, r1_5), (r1_6, r1_7)] [(r2_0, r2_1), (r2_2, r2_3), (r2_4, r2_5), (r2_6, r2_7)]) := by rw [hsp]; rfl
    clear hsp
    refine (wpIn_wide (n := 0)).1 (region_headF (FS := [13, 14]) (RtS sp) (rtS_keep sp) (fun t v w ht h => by rcases (by simpa using ht : t = 13 ∨ t = 14) with rfl | rfl <;> first | exact newS_fresh s13 h | exact newS_fresh s14 h) 8 rfl rfl rfl (by kernel_rfl) (by decide) (by kernel_rfl) (by kernel_rfl) (by kernel_rfl) ?_ ?_)
    · intro Q'; show ObsF _ _ _ _ _ _ _ _ _ (List.take _ _); simp only [List.take_succ_cons, List.take_zero]
      refine obsF_cons (obF_of ?_ (by intro d e; cases e; decide)) ?_
      · intro T wx K hB hF hD hK
        have g5 : T[5]? = some (.pointer (some ⟨w.heap.size, 0, none⟩)) := hF 5 (freeM_of (by kernel_rfl))
        refine ob_yes (wanted_none rfl) ?_
        clear hF hD
        exact wp_load_row 27 (.tmp 5) rfl w.heap.size (eval_tmp g5) _ _ _ _ (blk_call HA.out hB) Tryd.underlying27 rfl (by kernel_rfl) (hK _ _ (Below.refl _ _) (rt_eqS s42))
      refine obsF_cons (obF_of ?_ (by intro d e; cases e; decide)) ?_
      · intro T wx K hB hF hD hK
        have g12 : T[12]? = some (.pointer (some ⟨w3.heap.size, 0, none⟩)) := hF 12 (freeM_of (by kernel_rfl))
        refine ob_yes (wanted_none rfl) ?_
        clear hF hD
        exact wp_load_row 25 (.tmp 12) rfl (w3.heap.size) (eval_tmp g12) _ _ _ _ (blk_call HQ.out hB) Tryd.underlying25 rfl (by kernel_rfl) (hK _ _ (Below.refl _ _) (rt_eqS s43))
      refine obsF_cons (obF_of ?_ (by intro d e; cases e; decide)) ?_
      · intro T wx K hB hF hD hK
        have g42 := get_eqS (hD 0 42 (by simp [Region.binds]) (by kernel_rfl)) s42
        have g43 := get_eqS (hD 1 43 (by simp [Region.binds]) (by kernel_rfl)) s43
        refine ob_yes (wanted_none rfl) ?_
        clear hF hD
        go_simp
        refine (links_is X Y n0 n1 n2 W l0 l1 l2 h0 h1 h2 q0 q1 q2 x1 x2 x3 y1 y2 y3 u1 u2 u3 v1 v2 v3 a1 a2 a3 b1 b2 b3 _ _ _ _ (TT.out.below hB) k0 k1 k2 HT PP hL0 hL1 hL2).mono ?_; rintro e w9 ⟨⟨g0, g1, g2, rfl, p0, p1, p2⟩, hb⟩
        exact hK _ _ hb (rt_S s44 ⟨g0, g1, g2, rfl, p0, p1, p2⟩)
      refine obsF_cons (obF_of ?_ (by intro d e; cases e; decide)) ?_
      · intro T wx K hB hF hD hK
        have g5 : T[5]? = some (.pointer (some ⟨w.heap.size, 0, none⟩)) := hF 5 (freeM_of (by kernel_rfl))
        refine ob_yes (wanted_none rfl) ?_
        clear hF hD
        exact wp_load_row 27 (.tmp 5) rfl w.heap.size (eval_tmp g5) _ _ _ _ (blk_call HA.out hB) Tryd.underlying27 rfl (by kernel_rfl) (hK _ _ (Below.refl _ _) (rt_eqS s45))
      refine obsF_cons (obF_of ?_ (by intro d e; cases e; decide)) ?_
      · intro T wx K hB hF hD hK
        have g12 : T[12]? = some (.pointer (some ⟨w3.heap.size, 0, none⟩)) := hF 12 (freeM_of (by kernel_rfl))
        refine ob_yes (wanted_none rfl) ?_
        clear hF hD
        exact wp_load_row 25 (.tmp 12) rfl (w3.heap.size) (eval_tmp g12) _ _ _ _ (blk_call HQ.out hB) Tryd.underlying25 rfl (by kernel_rfl) (hK _ _ (Below.refl _ _) (rt_eqS s46))
      refine obsF_cons (obF_of ?_ (by intro d e; cases e; decide)) ?_
      · intro T wx K hB hF hD hK
        have g45 := get_eqS (hD 3 45 (by simp [Region.binds]) (by kernel_rfl)) s45
        have g46 := get_eqS (hD 4 46 (by simp [Region.binds]) (by kernel_rfl)) s46
        refine ob_yes (wanted_none rfl) ?_
        clear hF hD
        go_simp
        refine (rlinks_is X Y n0 n1 n2 W l0 l1 l2 h0 h1 h2 q0 q1 q2 x1 x2 x3 y1 y2 y3 u1 u2 u3 v1 v2 v3 a1 a2 a3 b1 b2 b3 _ _ _ _ (TT.out.below hB) k0 k1 k2 HT PP hL0 hL1 hL2).mono ?_; rintro e w9 ⟨⟨g0, g1, g2, rfl, p0, p1, p2⟩, hb⟩
        exact hK _ _ hb (rt_S s47 ⟨g0, g1, g2, rfl, p0, p1, p2⟩)
      refine obsF_cons ?_ ?_
      · intro T wx K hB hF hD hK
        refine ob_yes (wanted_none rfl) ?_
        clear hF hD
        go_simp
        exact hK _ _ (belA (Below.refl _ _) _) (fun d e => by cases e; exact ⟨rt_S s13 ⟨_, rfl, hB.size, blk_new _ _ _ rfl⟩ _ rfl, fun _ => rfl⟩)
      refine obsF_cons ?_ ?_
      · intro T wx K hB hF hD hK
        refine ob_yes (wanted_none rfl) ?_
        clear hF hD
        go_simp
        exact hK _ _ (belA (Below.refl _ _) _) (fun d e => by cases e; exact ⟨rt_S s14 ⟨_, rfl, hB.size, blk_new _ _ _ rfl⟩ _ rfl, fun _ => rfl⟩)
      exact obsF_nil
    · intro T2 w8 hb8 hF hs hD hN
      have g42 := get_eqS (hD 0 42 (by decide) (by kernel_rfl)) s42
      have g43 := get_eqS (hD 1 43 (by decide) (by kernel_rfl)) s43
      obtain ⟨v44, g44, p44⟩ := getS (hD 2 44 (by decide) (by kernel_rfl)) s44
      have g45 := get_eqS (hD 3 45 (by decide) (by kernel_rfl)) s45
      have g46 := get_eqS (hD 4 46 (by decide) (by kernel_rfl)) s46
      obtain ⟨v47, g47, p47⟩ := getS (hD 5 47 (by decide) (by kernel_rfl)) s47
      obtain ⟨v13, g13, p13⟩ := getS (hD 6 13 (by decide) (by kernel_rfl)) s13
      obtain ⟨v14, g14, p14⟩ := getS (hD 7 14 (by decide) (by kernel_rfl)) s14
      have N13_14 := hN 13 14 (by decide) (by decide) (by decide) ⟨6, by decide, by kernel_rfl⟩ ⟨7, by decide, by kernel_rfl⟩
      rw [g13, g14] at N13_14
      have hT := conc [(42, .agg #[.int .i64 X, .int .i64 Y, .int .i64 n0, .int .i64 n1, .int .i64 n2, .int .i64 W, .int .i64 l0, .int .i64 l1, .int .i64 l2, .int .i64 h0, .int .i64 h1, .int .i64 h2]), (43, .agg #[.int .i64 q0, .int .i64 q1, .int .i64 q2]), (44, v44), (45, .agg #[.int .i64 X, .int .i64 Y, .int .i64 n0, .int .i64 n1, .int .i64 n2, .int .i64 W, .int .i64 l0, .int .i64 l1, .int .i64 l2, .int .i64 h0, .int .i64 h1, .int .i64 h2]), (46, .agg #[.int .i64 q0, .int .i64 q1, .int .i64 q2]), (47, v47), (13, v13), (14, v14)] hs hF (by simp only [List.forall_mem_cons]; exact ⟨g42, g43, g44, g45, g46, g47, g13, g14, fun p hp => absurd hp List.not_mem_nil⟩) (by kernel_rfl)
      simp only [List.foldl, List.setIfInBounds_toArray, List.set_cons_succ, List.set_cons_zero] at hT
      subst hT
      clear hF hD hs hN g42 g43 g44 g45 g46 g47 g13 g14 s13 s14 s42 s43 s44 s45 s46 s47
      show wpOpsIn _ _ _ _ _ [8, 9] _ _
      obtain ⟨b13, rfl, hs13, h13⟩ := p13
      obtain ⟨b14, rfl, hs14, h14⟩ := p14
      have ne : b13 ≠ b14 := fun e => N13_14 (by rw [e])
      obtain ⟨g0, g1, g2, rfl, P0, P1, P2⟩ := p44
      obtain ⟨m0, m1, m2, rfl, Q0, Q1, Q2⟩ := p47
      refine tail_store rfl rfl rfl rfl rfl 35 (.tmp 13) (.tmp 44) rfl rfl b13 #[.slice (some ⟨g0, 0, none⟩) 4 4, .slice (some ⟨g1, 0, none⟩) 4 4, .slice (some ⟨g2, 0, none⟩) 4 4] rfl rfl _ _ h13 (by kernel_rfl) rfl (by kernel_rfl) ?_
      have h14' := (setRow_other w8 b13 b14 #[.slice (some ⟨g0, 0, none⟩) 4 4, .slice (some ⟨g1, 0, none⟩) 4 4, .slice (some ⟨g2, 0, none⟩) 4 4] (fun h => ne h.symm)).trans h14
      refine tail_store rfl rfl rfl rfl rfl 35 (.tmp 14) (.tmp 47) rfl rfl b14 #[.slice (some ⟨m0, 0, none⟩) 4 4, .slice (some ⟨m1, 0, none⟩) 4 4, .slice (some ⟨m2, 0, none⟩) 4 4] rfl rfl _ _ h14' (by kernel_rfl) rfl (by kernel_rfl) ?_
      have la := blk_lt HA.out
      have lq := blk_lt HQ.out
      have R0 := Lib.hid (prow_setRowZ (prow_setRowZ P0 (fun h => prow_notslice P0 h13 h.symm) #[.slice (some ⟨g0, 0, none⟩) 4 4, .slice (some ⟨g1, 0, none⟩) 4 4, .slice (some ⟨g2, 0, none⟩) 4 4]) (fun h => prow_notslice P0 h14 h.symm) #[.slice (some ⟨m0, 0, none⟩) 4 4, .slice (some ⟨m1, 0, none⟩) 4 4, .slice (some ⟨m2, 0, none⟩) 4 4])
      have M0 := Lib.hid (prow_setRowZ (prow_setRowZ Q0 (fun h => prow_notslice Q0 h13 h.symm) #[.slice (some ⟨g0, 0, none⟩) 4 4, .slice (some ⟨g1, 0, none⟩) 4 4, .slice (some ⟨g2, 0, none⟩) 4 4]) (fun h => prow_notslice Q0 h14 h.symm) #[.slice (some ⟨m0, 0, none⟩) 4 4, .slice (some ⟨m1, 0, none⟩) 4 4, .slice (some ⟨m2, 0, none⟩) 4 4])
      have R1 := Lib.hid (prow_setRowZ (prow_setRowZ P1 (fun h => prow_notslice P1 h13 h.symm) #[.slice (some ⟨g0, 0, none⟩) 4 4, .slice (some ⟨g1, 0, none⟩) 4 4, .slice (some ⟨g2, 0, none⟩) 4 4]) (fun h => prow_notslice P1 h14 h.symm) #[.slice (some ⟨m0, 0, none⟩) 4 4, .slice (some ⟨m1, 0, none⟩) 4 4, .slice (some ⟨m2, 0, none⟩) 4 4])
      have M1 := Lib.hid (prow_setRowZ (prow_setRowZ Q1 (fun h => prow_notslice Q1 h13 h.symm) #[.slice (some ⟨g0, 0, none⟩) 4 4, .slice (some ⟨g1, 0, none⟩) 4 4, .slice (some ⟨g2, 0, none⟩) 4 4]) (fun h => prow_notslice Q1 h14 h.symm) #[.slice (some ⟨m0, 0, none⟩) 4 4, .slice (some ⟨m1, 0, none⟩) 4 4, .slice (some ⟨m2, 0, none⟩) 4 4])
      have R2 := Lib.hid (prow_setRowZ (prow_setRowZ P2 (fun h => prow_notslice P2 h13 h.symm) #[.slice (some ⟨g0, 0, none⟩) 4 4, .slice (some ⟨g1, 0, none⟩) 4 4, .slice (some ⟨g2, 0, none⟩) 4 4]) (fun h => prow_notslice P2 h14 h.symm) #[.slice (some ⟨m0, 0, none⟩) 4 4, .slice (some ⟨m1, 0, none⟩) 4 4, .slice (some ⟨m2, 0, none⟩) 4 4])
      have M2 := Lib.hid (prow_setRowZ (prow_setRowZ Q2 (fun h => prow_notslice Q2 h13 h.symm) #[.slice (some ⟨g0, 0, none⟩) 4 4, .slice (some ⟨g1, 0, none⟩) 4 4, .slice (some ⟨g2, 0, none⟩) 4 4]) (fun h => prow_notslice Q2 h14 h.symm) #[.slice (some ⟨m0, 0, none⟩) 4 4, .slice (some ⟨m1, 0, none⟩) 4 4, .slice (some ⟨m2, 0, none⟩) 4 4])
      have H13 := Lib.hid ((setRow_other _ b14 b13 #[.slice (some ⟨m0, 0, none⟩) 4 4, .slice (some ⟨m1, 0, none⟩) 4 4, .slice (some ⟨m2, 0, none⟩) 4 4] ne).trans (setRow_heap w8 b13 _ #[.slice (some ⟨g0, 0, none⟩) 4 4, .slice (some ⟨g1, 0, none⟩) 4 4, .slice (some ⟨g2, 0, none⟩) 4 4] _ _ h13))
      have H14 := Lib.hid (setRow_heap _ b14 _ #[.slice (some ⟨m0, 0, none⟩) 4 4, .slice (some ⟨m1, 0, none⟩) 4 4, .slice (some ⟨m2, 0, none⟩) 4 4] _ _ h14')
      replace HA := Lib.hid ((setRow_other _ b14 _ #[.slice (some ⟨m0, 0, none⟩) 4 4, .slice (some ⟨m1, 0, none⟩) 4 4, .slice (some ⟨m2, 0, none⟩) 4 4] (by omega)).trans ((setRow_other w8 b13 _ #[.slice (some ⟨g0, 0, none⟩) 4 4, .slice (some ⟨g1, 0, none⟩) 4 4, .slice (some ⟨g2, 0, none⟩) 4 4] (by omega)).trans (blk_call HA.out hb8)))
      replace HQ := Lib.hid ((setRow_other _ b14 _ #[.slice (some ⟨m0, 0, none⟩) 4 4, .slice (some ⟨m1, 0, none⟩) 4 4, .slice (some ⟨m2, 0, none⟩) 4 4] (by omega)).trans ((setRow_other w8 b13 _ #[.slice (some ⟨g0, 0, none⟩) 4 4, .slice (some ⟨g1, 0, none⟩) 4 4, .slice (some ⟨g2, 0, none⟩) 4 4] (by omega)).trans (blk_call HQ.out hb8)))
      have bw := below_setRow7 (below_setRow7 hb8 hs13 #[.slice (some ⟨g0, 0, none⟩) 4 4, .slice (some ⟨g1, 0, none⟩) 4 4, .slice (some ⟨g2, 0, none⟩) 4 4]) hs14 #[.slice (some ⟨m0, 0, none⟩) 4 4, .slice (some ⟨m1, 0, none⟩) 4 4, .slice (some ⟨m2, 0, none⟩) 4 4]
      replace B := Lib.hid (belT B.out bw)
      replace TT := Lib.hid (Tab.below TT.out bw)
      clear bw hb8 h13 h14 h14' hs13 hs14 N13_14 ne la lq P0 P1 P2 Q0 Q1 Q2 HW HP
      simp only [wpOpsIn]
      generalize ((w8.setRow b13 #[.slice (some ⟨g0, 0, none⟩) 4 4, .slice (some ⟨g1, 0, none⟩) 4 4, .slice (some ⟨g2, 0, none⟩) 4 4]).setRow b14 #[.slice (some ⟨m0, 0, none⟩) 4 4, .slice (some ⟨m1, 0, none⟩) 4 4, .slice (some ⟨m2, 0, none⟩) 4 4]) = W3 at *
      go_wp2_with fail
      refine wp_loop_rounds 4 ?_
      rw [rounds_succ]
      go_wp2_with fail
      obtain ⟨sp, hsp⟩ : ∃ sp : ToldS, sp = [none, none, none, none, none, none, none, none, none, none, none, none, none, none, none, none, none, none, none, none, none, none, none, none, none, none, none, none, none, none, none, none, none, none, none, none, none, none, none, none, none, none, none, none, none, none, none, none, none, none, none, none, some (eqS (.int .i64 0)), some (eqS (.pointer (some ⟨b13, 0, none⟩))), some (eqS (.slice (some ⟨g0, 0, none⟩) 4 4)), some (eqS (.int .i64 0)), some (eqS (.pointer (some ⟨b14, 0, none⟩))), some (eqS (.slice (some ⟨m0, 0, none⟩) 4 4)), some (eqS (.bool true)), some (eqS (.bool false))] := ⟨_, rfl⟩
      have s52 : sp.getD 52 none = some (eqS (.int .i64 0)) := by rw [hsp]; rfl
      have s53 : sp.getD 53 none = some (eqS (.pointer (some ⟨b13, 0, none⟩))) := by rw [hsp]; rfl
      have s54 : sp.getD 54 none = some (eqS (.slice (some ⟨g0, 0, none⟩) 4 4)) := by rw [hsp]; rfl
      have s55 : sp.getD 55 none = some (eqS (.int .i64 0)) := by rw [hsp]; rfl
      have s56 : sp.getD 56 none = some (eqS (.pointer (some ⟨b14, 0, none⟩))) := by rw [hsp]; rfl
      have s57 : sp.getD 57 none = some (eqS (.slice (some ⟨m0, 0, none⟩) 4 4)) := by rw [hsp]; rfl
      have s58 : sp.getD 58 none = some (eqS (.bool true)) := by rw [hsp]; rfl
      have s59 : sp.getD 59 none = some (eqS (.bool false)) := by rw [hsp]; rfl
      clear hsp
      refine (wpIn_wide (n := 0)).1 (region_allR (RtS sp) (rtS_keep sp) rfl rfl rfl (by kernel_rfl) (by kernel_rfl) (by kernel_rfl) ?_ ?_)
      · intro Q'
        refine obsR_cons ?_ ?_
        · intro T wx K hB hF hD hK
          have g15 : T[15]? = some (.int .i64 0) := hF 15 (freeM_of (by kernel_rfl))
          refine ob_yes (wanted_none rfl) ?_
          clear hF hD
          go_simp
          exact hK _ _ (Below.refl _ _) (rt_eqS s52)
        refine obsR_cons ?_ ?_
        · intro T wx K hB hF hD hK
          have g13 : T[13]? = some (.pointer (some ⟨b13, 0, none⟩)) := hF 13 (freeM_of (by kernel_rfl))
          have g52 := get_eqS (hD 0 52 (by simp [Region.binds]) (by kernel_rfl)) s52
          refine ob_yes (wanted_none rfl) ?_
          clear hF hD
          go_simp
          exact hK _ _ (Below.refl _ _) (rt_eqS s53)
        refine obsR_cons ?_ ?_
        · intro T wx K hB hF hD hK
          have g53 := get_eqS (hD 1 53 (by simp [Region.binds]) (by kernel_rfl)) s53
          refine ob_yes (wanted_none rfl) ?_
          clear hF hD
          have c0 := blk_cell (blk_call H13.out hB) 0 _ rfl
          go_simp
          exact hK _ _ (Below.refl _ _) (rt_eqS s54)
        refine obsR_cons ?_ ?_
        · intro T wx K hB hF hD hK
          have g15 : T[15]? = some (.int .i64 0) := hF 15 (freeM_of (by kernel_rfl))
          refine ob_yes (wanted_none rfl) ?_
          clear hF hD
          go_simp
          exact hK _ _ (Below.refl _ _) (rt_eqS s55)
        refine obsR_cons ?_ ?_
        · intro T wx K hB hF hD hK
          have g14 : T[14]? = some (.pointer (some ⟨b14, 0, none⟩)) := hF 14 (freeM_of (by kernel_rfl))
          have g55 := get_eqS (hD 3 55 (by simp [Region.binds]) (by kernel_rfl)) s55
          refine ob_yes (wanted_none rfl) ?_
          clear hF hD
          go_simp
          exact hK _ _ (Below.refl _ _) (rt_eqS s56)
        refine obsR_cons ?_ ?_
        · intro T wx K hB hF hD hK
          have g56 := get_eqS (hD 4 56 (by simp [Region.binds]) (by kernel_rfl)) s56
          refine ob_yes (wanted_none rfl) ?_
          clear hF hD
          have c0 := blk_cell (blk_call H14.out hB) 0 _ rfl
          go_simp
          exact hK _ _ (Below.refl _ _) (rt_eqS s57)
        refine obsR_cons ?_ ?_
        · intro T wx K hB hF hD hK
          have g54 := get_eqS (hD 2 54 (by simp [Region.binds]) (by kernel_rfl)) s54
          have g57 := get_eqS (hD 5 57 (by simp [Region.binds]) (by kernel_rfl)) s57
          refine ob_yes (wanted_none rfl) ?_
          clear hF hD
          go_simp
          refine (same4_is g0 m0 r0_0 r0_1 r0_2 r0_3 r0_4 r0_5 r0_6 r0_7 _ (prow_below R0.out hB) (prow_below M0.out hB)).mono ?_; rintro e w9 ⟨rfl, hb⟩
          exact hK _ _ hb (rt_eqS s58)
        refine obsR_cons ?_ ?_
        · intro T wx K hB hF hD hK
          have g58 := get_eqS (hD 6 58 (by simp [Region.binds]) (by kernel_rfl)) s58
          refine ob_yes (wanted_none rfl) ?_
          clear hF hD
          go_simp
          exact hK _ _ (Below.refl _ _) (rt_eqS s59)
        exact obsR_nil
      · intro S0 U0 hb8 hF hs hD
        have g52 := get_eqS (hD 0 52 (by decide) (by kernel_rfl)) s52
        have g53 := get_eqS (hD 1 53 (by decide) (by kernel_rfl)) s53
        have g54 := get_eqS (hD 2 54 (by decide) (by kernel_rfl)) s54
        have g55 := get_eqS (hD 3 55 (by decide) (by kernel_rfl)) s55
        have g56 := get_eqS (hD 4 56 (by decide) (by kernel_rfl)) s56
        have g57 := get_eqS (hD 5 57 (by decide) (by kernel_rfl)) s57
        have g58 := get_eqS (hD 6 58 (by decide) (by kernel_rfl)) s58
        have g59 := get_eqS (hD 7 59 (by decide) (by kernel_rfl)) s59
        have hT := conc [(52, .int .i64 0), (53, .pointer (some ⟨b13, 0, none⟩)), (54, .slice (some ⟨g0, 0, none⟩) 4 4), (55, .int .i64 0), (56, .pointer (some ⟨b14, 0, none⟩)), (57, .slice (some ⟨m0, 0, none⟩) 4 4), (58, .bool true), (59, .bool false)] hs hF (by simp only [List.forall_mem_cons]; exact ⟨g52, g53, g54, g55, g56, g57, g58, g59, fun p hp => absurd hp List.not_mem_nil⟩) (by kernel_rfl)
        simp only [List.foldl, List.setIfInBounds_toArray, List.set_cons_succ, List.set_cons_zero] at hT
        subst hT
        clear hF hD hs g52 g53 g54 g55 g56 g57 g58 g59 s52 s53 s54 s55 s56 s57 s58 s59
        replace HA := Lib.hid (blk_call HA.out hb8)
        replace HQ := Lib.hid (blk_call HQ.out hb8)
        replace H13 := Lib.hid (blk_call H13.out hb8)
        replace H14 := Lib.hid (blk_call H14.out hb8)
        replace R0 := Lib.hid (prow_below R0.out hb8)
        replace M0 := Lib.hid (prow_below M0.out hb8)
        replace R1 := Lib.hid (prow_below R1.out hb8)
        replace M1 := Lib.hid (prow_below M1.out hb8)
        replace R2 := Lib.hid (prow_below R2.out hb8)
        replace M2 := Lib.hid (prow_below M2.out hb8)
        replace B := Lib.hid (belT B.out hb8)
        replace TT := Lib.hid (Tab.below TT.out hb8)
        clear hb8
        go_wp2_with fail
        rw [rounds_succ]
        go_wp2_with fail
        obtain ⟨sp, hsp⟩ : ∃ sp : ToldS, sp = [none, none, none, none, none, none, none, none, none, none, none, none, none, none, none, none, none, none, none, none, none, none, none, none, none, none, none, none, none, none, none, none, none, none, none, none, none, none, none, none, none, none, none, none, none, none, none, none, none, none, none, none, some (eqS (.int .i64 1)), some (eqS (.pointer (some ⟨b13, 1, none⟩))), some (eqS (.slice (some ⟨g1, 0, none⟩) 4 4)), some (eqS (.int .i64 1)), some (eqS (.pointer (some ⟨b14, 1, none⟩))), some (eqS (.slice (some ⟨m1, 0, none⟩) 4 4)), some (eqS (.bool true)), some (eqS (.bool false))] := ⟨_, rfl⟩
        have s52 : sp.getD 52 none = some (eqS (.int .i64 1)) := by rw [hsp]; rfl
        have s53 : sp.getD 53 none = some (eqS (.pointer (some ⟨b13, 1, none⟩))) := by rw [hsp]; rfl
        have s54 : sp.getD 54 none = some (eqS (.slice (some ⟨g1, 0, none⟩) 4 4)) := by rw [hsp]; rfl
        have s55 : sp.getD 55 none = some (eqS (.int .i64 1)) := by rw [hsp]; rfl
        have s56 : sp.getD 56 none = some (eqS (.pointer (some ⟨b14, 1, none⟩))) := by rw [hsp]; rfl
        have s57 : sp.getD 57 none = some (eqS (.slice (some ⟨m1, 0, none⟩) 4 4)) := by rw [hsp]; rfl
        have s58 : sp.getD 58 none = some (eqS (.bool true)) := by rw [hsp]; rfl
        have s59 : sp.getD 59 none = some (eqS (.bool false)) := by rw [hsp]; rfl
        clear hsp
        refine (wpIn_wide (n := 0)).1 (region_allR (RtS sp) (rtS_keep sp) rfl rfl rfl (by kernel_rfl) (by kernel_rfl) (by kernel_rfl) ?_ ?_)
        · intro Q'
          refine obsR_cons ?_ ?_
          · intro T wx K hB hF hD hK
            have g15 : T[15]? = some (.int .i64 1) := hF 15 (freeM_of (by kernel_rfl))
            refine ob_yes (wanted_none rfl) ?_
            clear hF hD
            go_simp
            exact hK _ _ (Below.refl _ _) (rt_eqS s52)
          refine obsR_cons ?_ ?_
          · intro T wx K hB hF hD hK
            have g13 : T[13]? = some (.pointer (some ⟨b13, 0, none⟩)) := hF 13 (freeM_of (by kernel_rfl))
            have g52 := get_eqS (hD 0 52 (by simp [Region.binds]) (by kernel_rfl)) s52
            refine ob_yes (wanted_none rfl) ?_
            clear hF hD
            go_simp
            exact hK _ _ (Below.refl _ _) (rt_eqS s53)
          refine obsR_cons ?_ ?_
          · intro T wx K hB hF hD hK
            have g53 := get_eqS (hD 1 53 (by simp [Region.binds]) (by kernel_rfl)) s53
            refine ob_yes (wanted_none rfl) ?_
            clear hF hD
            have c0 := blk_cell (blk_call H13.out hB) 1 _ rfl
            go_simp
            exact hK _ _ (Below.refl _ _) (rt_eqS s54)
          refine obsR_cons ?_ ?_
          · intro T wx K hB hF hD hK
            have g15 : T[15]? = some (.int .i64 1) := hF 15 (freeM_of (by kernel_rfl))
            refine ob_yes (wanted_none rfl) ?_
            clear hF hD
            go_simp
            exact hK _ _ (Below.refl _ _) (rt_eqS s55)
          refine obsR_cons ?_ ?_
          · intro T wx K hB hF hD hK
            have g14 : T[14]? = some (.pointer (some ⟨b14, 0, none⟩)) := hF 14 (freeM_of (by kernel_rfl))
            have g55 := get_eqS (hD 3 55 (by simp [Region.binds]) (by kernel_rfl)) s55
            refine ob_yes (wanted_none rfl) ?_
            clear hF hD
            go_simp
            exact hK _ _ (Below.refl _ _) (rt_eqS s56)
          refine obsR_cons ?_ ?_
          · intro T wx K hB hF hD hK
            have g56 := get_eqS (hD 4 56 (by simp [Region.binds]) (by kernel_rfl)) s56
            refine ob_yes (wanted_none rfl) ?_
            clear hF hD
            have c0 := blk_cell (blk_call H14.out hB) 1 _ rfl
            go_simp
            exact hK _ _ (Below.refl _ _) (rt_eqS s57)
          refine obsR_cons ?_ ?_
          · intro T wx K hB hF hD hK
            have g54 := get_eqS (hD 2 54 (by simp [Region.binds]) (by kernel_rfl)) s54
            have g57 := get_eqS (hD 5 57 (by simp [Region.binds]) (by kernel_rfl)) s57
            refine ob_yes (wanted_none rfl) ?_
            clear hF hD
            go_simp
            refine (same4_is g1 m1 r1_0 r1_1 r1_2 r1_3 r1_4 r1_5 r1_6 r1_7 _ (prow_below R1.out hB) (prow_below M1.out hB)).mono ?_; rintro e w9 ⟨rfl, hb⟩
            exact hK _ _ hb (rt_eqS s58)
          refine obsR_cons ?_ ?_
          · intro T wx K hB hF hD hK
            have g58 := get_eqS (hD 6 58 (by simp [Region.binds]) (by kernel_rfl)) s58
            refine ob_yes (wanted_none rfl) ?_
            clear hF hD
            go_simp
            exact hK _ _ (Below.refl _ _) (rt_eqS s59)
          exact obsR_nil
        · intro S1 U1 hb8 hF hs hD
          have g52 := get_eqS (hD 0 52 (by decide) (by kernel_rfl)) s52
          have g53 := get_eqS (hD 1 53 (by decide) (by kernel_rfl)) s53
          have g54 := get_eqS (hD 2 54 (by decide) (by kernel_rfl)) s54
          have g55 := get_eqS (hD 3 55 (by decide) (by kernel_rfl)) s55
          have g56 := get_eqS (hD 4 56 (by decide) (by kernel_rfl)) s56
          have g57 := get_eqS (hD 5 57 (by decide) (by kernel_rfl)) s57
          have g58 := get_eqS (hD 6 58 (by decide) (by kernel_rfl)) s58
          have g59 := get_eqS (hD 7 59 (by decide) (by kernel_rfl)) s59
          have hT := conc [(52, .int .i64 1), (53, .pointer (some ⟨b13, 1, none⟩)), (54, .slice (some ⟨g1, 0, none⟩) 4 4), (55, .int .i64 1), (56, .pointer (some ⟨b14, 1, none⟩)), (57, .slice (some ⟨m1, 0, none⟩) 4 4), (58, .bool true), (59, .bool false)] hs hF (by simp only [List.forall_mem_cons]; exact ⟨g52, g53, g54, g55, g56, g57, g58, g59, fun p hp => absurd hp List.not_mem_nil⟩) (by kernel_rfl)
          simp only [List.foldl, List.setIfInBounds_toArray, List.set_cons_succ, List.set_cons_zero] at hT
          subst hT
          clear hF hD hs g52 g53 g54 g55 g56 g57 g58 g59 s52 s53 s54 s55 s56 s57 s58 s59
          replace HA := Lib.hid (blk_call HA.out hb8)
          replace HQ := Lib.hid (blk_call HQ.out hb8)
          replace H13 := Lib.hid (blk_call H13.out hb8)
          replace H14 := Lib.hid (blk_call H14.out hb8)
          replace R0 := Lib.hid (prow_below R0.out hb8)
          replace M0 := Lib.hid (prow_below M0.out hb8)
          replace R1 := Lib.hid (prow_below R1.out hb8)
          replace M1 := Lib.hid (prow_below M1.out hb8)
          replace R2 := Lib.hid (prow_below R2.out hb8)
          replace M2 := Lib.hid (prow_below M2.out hb8)
          replace B := Lib.hid (belT B.out hb8)
          replace TT := Lib.hid (Tab.below TT.out hb8)
          clear hb8
          go_wp2_with fail
          rw [rounds_succ]
          go_wp2_with fail
          obtain ⟨sp, hsp⟩ : ∃ sp : ToldS, sp = [none, none, none, none, none, none, none, none, none, none, none, none, none, none, none, none, none, none, none, none, none, none, none, none, none, none, none, none, none, none, none, none, none, none, none, none, none, none, none, none, none, none, none, none, none, none, none, none, none, none, none, none, some (eqS (.int .i64 2)), some (eqS (.pointer (some ⟨b13, 2, none⟩))), some (eqS (.slice (some ⟨g2, 0, none⟩) 4 4)), some (eqS (.int .i64 2)), some (eqS (.pointer (some ⟨b14, 2, none⟩))), some (eqS (.slice (some ⟨m2, 0, none⟩) 4 4)), some (eqS (.bool true)), some (eqS (.bool false))] := ⟨_, rfl⟩
          have s52 : sp.getD 52 none = some (eqS (.int .i64 2)) := by rw [hsp]; rfl
          have s53 : sp.getD 53 none = some (eqS (.pointer (some ⟨b13, 2, none⟩))) := by rw [hsp]; rfl
          have s54 : sp.getD 54 none = some (eqS (.slice (some ⟨g2, 0, none⟩) 4 4)) := by rw [hsp]; rfl
          have s55 : sp.getD 55 none = some (eqS (.int .i64 2)) := by rw [hsp]; rfl
          have s56 : sp.getD 56 none = some (eqS (.pointer (some ⟨b14, 2, none⟩))) := by rw [hsp]; rfl
          have s57 : sp.getD 57 none = some (eqS (.slice (some ⟨m2, 0, none⟩) 4 4)) := by rw [hsp]; rfl
          have s58 : sp.getD 58 none = some (eqS (.bool true)) := by rw [hsp]; rfl
          have s59 : sp.getD 59 none = some (eqS (.bool false)) := by rw [hsp]; rfl
          clear hsp
          refine (wpIn_wide (n := 0)).1 (region_allR (RtS sp) (rtS_keep sp) rfl rfl rfl (by kernel_rfl) (by kernel_rfl) (by kernel_rfl) ?_ ?_)
          · intro Q'
            refine obsR_cons ?_ ?_
            · intro T wx K hB hF hD hK
              have g15 : T[15]? = some (.int .i64 2) := hF 15 (freeM_of (by kernel_rfl))
              refine ob_yes (wanted_none rfl) ?_
              clear hF hD
              go_simp
              exact hK _ _ (Below.refl _ _) (rt_eqS s52)
            refine obsR_cons ?_ ?_
            · intro T wx K hB hF hD hK
              have g13 : T[13]? = some (.pointer (some ⟨b13, 0, none⟩)) := hF 13 (freeM_of (by kernel_rfl))
              have g52 := get_eqS (hD 0 52 (by simp [Region.binds]) (by kernel_rfl)) s52
              refine ob_yes (wanted_none rfl) ?_
              clear hF hD
              go_simp
              exact hK _ _ (Below.refl _ _) (rt_eqS s53)
            refine obsR_cons ?_ ?_
            · intro T wx K hB hF hD hK
              have g53 := get_eqS (hD 1 53 (by simp [Region.binds]) (by kernel_rfl)) s53
              refine ob_yes (wanted_none rfl) ?_
              clear hF hD
              have c0 := blk_cell (blk_call H13.out hB) 2 _ rfl
              go_simp
              exact hK _ _ (Below.refl _ _) (rt_eqS s54)
            refine obsR_cons ?_ ?_
            · intro T wx K hB hF hD hK
              have g15 : T[15]? = some (.int .i64 2) := hF 15 (freeM_of (by kernel_rfl))
              refine ob_yes (wanted_none rfl) ?_
              clear hF hD
              go_simp
              exact hK _ _ (Below.refl _ _) (rt_eqS s55)
            refine obsR_cons ?_ ?_
            · intro T wx K hB hF hD hK
              have g14 : T[14]? = some (.pointer (some ⟨b14, 0, none⟩)) := hF 14 (freeM_of (by kernel_rfl))
              have g55 := get_eqS (hD 3 55 (by simp [Region.binds]) (by kernel_rfl)) s55
              refine ob_yes (wanted_none rfl) ?_
              clear hF hD
              go_simp
              exact hK _ _ (Below.refl _ _) (rt_eqS s56)
            refine obsR_cons ?_ ?_
            · intro T wx K hB hF hD hK
              have g56 := get_eqS (hD 4 56 (by simp [Region.binds]) (by kernel_rfl)) s56
              refine ob_yes (wanted_none rfl) ?_
              clear hF hD
              have c0 := blk_cell (blk_call H14.out hB) 2 _ rfl
              go_simp
              exact hK _ _ (Below.refl _ _) (rt_eqS s57)
            refine obsR_cons ?_ ?_
            · intro T wx K hB hF hD hK
              have g54 := get_eqS (hD 2 54 (by simp [Region.binds]) (by kernel_rfl)) s54
              have g57 := get_eqS (hD 5 57 (by simp [Region.binds]) (by kernel_rfl)) s57
              refine ob_yes (wanted_none rfl) ?_
              clear hF hD
              go_simp
              refine (same4_is g2 m2 r2_0 r2_1 r2_2 r2_3 r2_4 r2_5 r2_6 r2_7 _ (prow_below R2.out hB) (prow_below M2.out hB)).mono ?_; rintro e w9 ⟨rfl, hb⟩
              exact hK _ _ hb (rt_eqS s58)
            refine obsR_cons ?_ ?_
            · intro T wx K hB hF hD hK
              have g58 := get_eqS (hD 6 58 (by simp [Region.binds]) (by kernel_rfl)) s58
              refine ob_yes (wanted_none rfl) ?_
              clear hF hD
              go_simp
              exact hK _ _ (Below.refl _ _) (rt_eqS s59)
            exact obsR_nil
          · intro S2 U2 hb8 hF hs hD
            have g52 := get_eqS (hD 0 52 (by decide) (by kernel_rfl)) s52
            have g53 := get_eqS (hD 1 53 (by decide) (by kernel_rfl)) s53
            have g54 := get_eqS (hD 2 54 (by decide) (by kernel_rfl)) s54
            have g55 := get_eqS (hD 3 55 (by decide) (by kernel_rfl)) s55
            have g56 := get_eqS (hD 4 56 (by decide) (by kernel_rfl)) s56
            have g57 := get_eqS (hD 5 57 (by decide) (by kernel_rfl)) s57
            have g58 := get_eqS (hD 6 58 (by decide) (by kernel_rfl)) s58
            have g59 := get_eqS (hD 7 59 (by decide) (by kernel_rfl)) s59
            have hT := conc [(52, .int .i64 2), (53, .pointer (some ⟨b13, 2, none⟩)), (54, .slice (some ⟨g2, 0, none⟩) 4 4), (55, .int .i64 2), (56, .pointer (some ⟨b14, 2, none⟩)), (57, .slice (some ⟨m2, 0, none⟩) 4 4), (58, .bool true), (59, .bool false)] hs hF (by simp only [List.forall_mem_cons]; exact ⟨g52, g53, g54, g55, g56, g57, g58, g59, fun p hp => absurd hp List.not_mem_nil⟩) (by kernel_rfl)
            simp only [List.foldl, List.setIfInBounds_toArray, List.set_cons_succ, List.set_cons_zero] at hT
            subst hT
            clear hF hD hs g52 g53 g54 g55 g56 g57 g58 g59 s52 s53 s54 s55 s56 s57 s58 s59
            replace HA := Lib.hid (blk_call HA.out hb8)
            replace HQ := Lib.hid (blk_call HQ.out hb8)
            replace H13 := Lib.hid (blk_call H13.out hb8)
            replace H14 := Lib.hid (blk_call H14.out hb8)
            replace R0 := Lib.hid (prow_below R0.out hb8)
            replace M0 := Lib.hid (prow_below M0.out hb8)
            replace R1 := Lib.hid (prow_below R1.out hb8)
            replace M1 := Lib.hid (prow_below M1.out hb8)
            replace R2 := Lib.hid (prow_below R2.out hb8)
            replace M2 := Lib.hid (prow_below M2.out hb8)
            replace B := Lib.hid (belT B.out hb8)
            replace TT := Lib.hid (Tab.below TT.out hb8)
            clear hb8
            go_wp2_with fail
            rw [rounds_succ]
            obtain ⟨z0, z1, z2, s, SB⟩ := step_both X Y n0 n1 n2 W l0 l1 l2 h0 h1 h2 q0 q1 q2 k0 k1 k2 j by_
            replace SB := Lib.hid SB
            have c0 := blk_cell HA.out 0 _ rfl
            have c1 := blk_cell HA.out 1 _ rfl
            have c2 := blk_cell HA.out 2 _ rfl
            have c3 := blk_cell HA.out 3 _ rfl
            have c4 := blk_cell HA.out 4 _ rfl
            have c5 := blk_cell HA.out 5 _ rfl
            have c6 := blk_cell HA.out 6 _ rfl
            have c7 := blk_cell HA.out 7 _ rfl
            have c8 := blk_cell HA.out 8 _ rfl
            have c9 := blk_cell HA.out 9 _ rfl
            have c10 := blk_cell HA.out 10 _ rfl
            have c11 := blk_cell HA.out 11 _ rfl
            have d0 := blk_cell HQ.out 0 _ rfl
            have d1 := blk_cell HQ.out 1 _ rfl
            have d2 := blk_cell HQ.out 2 _ rfl
            go_wp2_with fail
            refine ((SB.out _).1).mono ?_
            rintro e w4 ⟨rfl, hb4⟩
            clear c0 c1 c2 c3 c4 c5 c6 c7 c8 c9 c10 c11 d0 d1 d2
            replace HA := Lib.hid (blk_call HA.out hb4)
            replace HQ := Lib.hid (blk_call HQ.out hb4)
            replace B := Lib.hid (belT B.out hb4)
            replace TT := Lib.hid (Tab.below TT.out hb4)
            clear hb4
            have c0 := blk_cell (blk_alloc HA.out (.cells #[.int .i64 z0, .int .i64 z1, .int .i64 z2] 25)) 0 _ rfl
            have c1 := blk_cell (blk_alloc HA.out (.cells #[.int .i64 z0, .int .i64 z1, .int .i64 z2] 25)) 1 _ rfl
            have c2 := blk_cell (blk_alloc HA.out (.cells #[.int .i64 z0, .int .i64 z1, .int .i64 z2] 25)) 2 _ rfl
            have c3 := blk_cell (blk_alloc HA.out (.cells #[.int .i64 z0, .int .i64 z1, .int .i64 z2] 25)) 3 _ rfl
            have c4 := blk_cell (blk_alloc HA.out (.cells #[.int .i64 z0, .int .i64 z1, .int .i64 z2] 25)) 4 _ rfl
            have c5 := blk_cell (blk_alloc HA.out (.cells #[.int .i64 z0, .int .i64 z1, .int .i64 z2] 25)) 5 _ rfl
            have c6 := blk_cell (blk_alloc HA.out (.cells #[.int .i64 z0, .int .i64 z1, .int .i64 z2] 25)) 6 _ rfl
            have c7 := blk_cell (blk_alloc HA.out (.cells #[.int .i64 z0, .int .i64 z1, .int .i64 z2] 25)) 7 _ rfl
            have c8 := blk_cell (blk_alloc HA.out (.cells #[.int .i64 z0, .int .i64 z1, .int .i64 z2] 25)) 8 _ rfl
            have c9 := blk_cell (blk_alloc HA.out (.cells #[.int .i64 z0, .int .i64 z1, .int .i64 z2] 25)) 9 _ rfl
            have c10 := blk_cell (blk_alloc HA.out (.cells #[.int .i64 z0, .int .i64 z1, .int .i64 z2] 25)) 10 _ rfl
            have c11 := blk_cell (blk_alloc HA.out (.cells #[.int .i64 z0, .int .i64 z1, .int .i64 z2] 25)) 11 _ rfl
            have d0 := blk_cell (blk_alloc HQ.out (.cells #[.int .i64 z0, .int .i64 z1, .int .i64 z2] 25)) 0 _ rfl
            have d1 := blk_cell (blk_alloc HQ.out (.cells #[.int .i64 z0, .int .i64 z1, .int .i64 z2] 25)) 1 _ rfl
            have d2 := blk_cell (blk_alloc HQ.out (.cells #[.int .i64 z0, .int .i64 z1, .int .i64 z2] 25)) 2 _ rfl
            go_wp2_with fail
            refine ((SB.out _).2).mono ?_
            rintro e w5 ⟨rfl, hb5⟩
            clear c0 c1 c2 c3 c4 c5 c6 c7 c8 c9 c10 c11 d0 d1 d2
            replace HA := Lib.hid (blk_call (blk_alloc HA.out (.cells #[.int .i64 z0, .int .i64 z1, .int .i64 z2] 25)) hb5)
            replace HQ := Lib.hid (blk_call (blk_alloc HQ.out (.cells #[.int .i64 z0, .int .i64 z1, .int .i64 z2] 25)) hb5)
            have HX := Lib.hid (blk_call (blk_new w4 (.cells #[.int .i64 z0, .int .i64 z1, .int .i64 z2] 25) (w4.heap.size) rfl) hb5)
            replace B := Lib.hid (belT (belA B.out (.cells #[.int .i64 z0, .int .i64 z1, .int .i64 z2] 25)) hb5)
            replace TT := Lib.hid (Tab.below (Tab.alloc TT.out (.cells #[.int .i64 z0, .int .i64 z1, .int .i64 z2] 25)) hb5)
            clear hb5
            go_upto_region 15 with fail
            replace HA := Lib.hid (blk_alloc HA.out (.cells #[.int .i64 z0, .int .i64 z1, .int .i64 z2] 25))
            replace HQ := Lib.hid (blk_alloc HQ.out (.cells #[.int .i64 z0, .int .i64 z1, .int .i64 z2] 25))
            replace HX := Lib.hid (blk_alloc HX.out (.cells #[.int .i64 z0, .int .i64 z1, .int .i64 z2] 25))
            have HY := Lib.hid (blk_new w5 (.cells #[.int .i64 z0, .int .i64 z1, .int .i64 z2] 25) (w5.heap.size) rfl)
            replace B := Lib.hid (belA B.out (.cells #[.int .i64 z0, .int .i64 z1, .int .i64 z2] 25))
            replace TT := Lib.hid (Tab.alloc TT.out (.cells #[.int .i64 z0, .int .i64 z1, .int .i64 z2] 25))
            generalize (w5.alloc (.cells #[.int .i64 z0, .int .i64 z1, .int .i64 z2] 25)) = W9 at *
            obtain ⟨sp, hsp⟩ : ∃ sp : ToldS, sp = [none, none, none, none, none, none, none, none, none, none, some (eqS (.bool true)), none, none, none, none, none, none, none, none, none, none, none, none, none, none, none, none, none, none, none, none, none, none, none, none, none, none, none, none, none, none, none, none, none, none, none, none, none, none, none, none, none, none, none, none, none, none, none, none, none, none, none, none, none, none, none, none, none, none, none, none, none, none, none, none, none, some (eqS (.bool true)), some (eqS (.bool true)), some (eqS (.agg #[.int .i64 X, .int .i64 Y, .int .i64 n0, .int .i64 n1, .int .i64 n2, .int .i64 W, .int .i64 l0, .int .i64 l1, .int .i64 l2, .int .i64 h0, .int .i64 h1, .int .i64 h2])), some (eqS (.agg #[.int .i64 q0, .int .i64 q1, .int .i64 q2])), some (eqS (.agg #[.int .i64 x1, .int .i64 y1, .int .i64 1, .int .i64 x2, .int .i64 y2, .int .i64 2, .int .i64 x3, .int .i64 y3, .int .i64 3])), some (eqS (.agg #[.int .i64 X, .int .i64 Y, .int .i64 n0, .int .i64 n1, .int .i64 n2, .int .i64 W, .int .i64 l0, .int .i64 l1, .int .i64 l2, .int .i64 h0, .int .i64 h1, .int .i64 h2])), some (eqS (.agg #[.int .i64 q0, .int .i64 q1, .int .i64 q2])), some (eqS (.agg #[.int .i64 x1, .int .i64 y1, .int .i64 1, .int .i64 x2, .int .i64 y2, .int .i64 2, .int .i64 x3, .int .i64 y3, .int .i64 3])), some (eqS (.bool true)), some (eqS (.bool true)), some (eqS (.bool true)), some (eqS (.agg #[.int .i64 X, .int .i64 Y, .int .i64 n0, .int .i64 n1, .int .i64 n2, .int .i64 W, .int .i64 l0, .int .i64 l1, .int .i64 l2, .int .i64 h0, .int .i64 h1, .int .i64 h2])), some (eqS (.agg #[.int .i64 q0, .int .i64 q1, .int .i64 q2])), some (eqS (.agg #[.int .i64 X, .int .i64 Y, .int .i64 a1, .int .i64 b1, .int .i64 a2, .int .i64 b2, .int .i64 a3, .int .i64 b3])), some (eqS (.agg #[.int .i64 X, .int .i64 Y, .int .i64 n0, .int .i64 n1, .int .i64 n2, .int .i64 W, .int .i64 l0, .int .i64 l1, .int .i64 l2, .int .i64 h0, .int .i64 h1, .int .i64 h2])), some (eqS (.agg #[.int .i64 q0, .int .i64 q1, .int .i64 q2])), some (eqS (.agg #[.int .i64 X, .int .i64 Y, .int .i64 a1, .int .i64 b1, .int .i64 a2, .int .i64 b2, .int .i64 a3, .int .i64 b3])), some (eqS (.bool true)), some (eqS (.bool true)), some (eqS (.bool true)), some (eqS (.agg #[.int .i64 z0, .int .i64 z1, .int .i64 z2])), some (eqS (.agg #[.int .i64 z0, .int .i64 z1, .int .i64 z2])), some (eqS (.bool true)), some (eqS (.bool true)), some (eqS (.bool true)), some (eqS (.bool s)), some (eqS (.bool s)), some (eqS (.bool true)), some (eqS (.bool true))] := ⟨_, rfl⟩
            have s10 : sp.getD 10 none = some (eqS (.bool true)) := by rw [hsp]; rfl
            have s76 : sp.getD 76 none = some (eqS (.bool true)) := by rw [hsp]; rfl
            have s77 : sp.getD 77 none = some (eqS (.bool true)) := by rw [hsp]; rfl
            have s78 : sp.getD 78 none = some (eqS (.agg #[.int .i64 X, .int .i64 Y, .int .i64 n0, .int .i64 n1, .int .i64 n2, .int .i64 W, .int .i64 l0, .int .i64 l1, .int .i64 l2, .int .i64 h0, .int .i64 h1, .int .i64 h2])) := by rw [hsp]; rfl
            have s79 : sp.getD 79 none = some (eqS (.agg #[.int .i64 q0, .int .i64 q1, .int .i64 q2])) := by rw [hsp]; rfl
            have s80 : sp.getD 80 none = some (eqS (.agg #[.int .i64 x1, .int .i64 y1, .int .i64 1, .int .i64 x2, .int .i64 y2, .int .i64 2, .int .i64 x3, .int .i64 y3, .int .i64 3])) := by rw [hsp]; rfl
            have s81 : sp.getD 81 none = some (eqS (.agg #[.int .i64 X, .int .i64 Y, .int .i64 n0, .int .i64 n1, .int .i64 n2, .int .i64 W, .int .i64 l0, .int .i64 l1, .int .i64 l2, .int .i64 h0, .int .i64 h1, .int .i64 h2])) := by rw [hsp]; rfl
            have s82 : sp.getD 82 none = some (eqS (.agg #[.int .i64 q0, .int .i64 q1, .int .i64 q2])) := by rw [hsp]; rfl
            have s83 : sp.getD 83 none = some (eqS (.agg #[.int .i64 x1, .int .i64 y1, .int .i64 1, .int .i64 x2, .int .i64 y2, .int .i64 2, .int .i64 x3, .int .i64 y3, .int .i64 3])) := by rw [hsp]; rfl
            have s84 : sp.getD 84 none = some (eqS (.bool true)) := by rw [hsp]; rfl
            have s85 : sp.getD 85 none = some (eqS (.bool true)) := by rw [hsp]; rfl
            have s86 : sp.getD 86 none = some (eqS (.bool true)) := by rw [hsp]; rfl
            have s87 : sp.getD 87 none = some (eqS (.agg #[.int .i64 X, .int .i64 Y, .int .i64 n0, .int .i64 n1, .int .i64 n2, .int .i64 W, .int .i64 l0, .int .i64 l1, .int .i64 l2, .int .i64 h0, .int .i64 h1, .int .i64 h2])) := by rw [hsp]; rfl
            have s88 : sp.getD 88 none = some (eqS (.agg #[.int .i64 q0, .int .i64 q1, .int .i64 q2])) := by rw [hsp]; rfl
            have s89 : sp.getD 89 none = some (eqS (.agg #[.int .i64 X, .int .i64 Y, .int .i64 a1, .int .i64 b1, .int .i64 a2, .int .i64 b2, .int .i64 a3, .int .i64 b3])) := by rw [hsp]; rfl
            have s90 : sp.getD 90 none = some (eqS (.agg #[.int .i64 X, .int .i64 Y, .int .i64 n0, .int .i64 n1, .int .i64 n2, .int .i64 W, .int .i64 l0, .int .i64 l1, .int .i64 l2, .int .i64 h0, .int .i64 h1, .int .i64 h2])) := by rw [hsp]; rfl
            have s91 : sp.getD 91 none = some (eqS (.agg #[.int .i64 q0, .int .i64 q1, .int .i64 q2])) := by rw [hsp]; rfl
            have s92 : sp.getD 92 none = some (eqS (.agg #[.int .i64 X, .int .i64 Y, .int .i64 a1, .int .i64 b1, .int .i64 a2, .int .i64 b2, .int .i64 a3, .int .i64 b3])) := by rw [hsp]; rfl
            have s93 : sp.getD 93 none = some (eqS (.bool true)) := by rw [hsp]; rfl
            have s94 : sp.getD 94 none = some (eqS (.bool true)) := by rw [hsp]; rfl
            have s95 : sp.getD 95 none = some (eqS (.bool true)) := by rw [hsp]; rfl
            have s96 : sp.getD 96 none = some (eqS (.agg #[.int .i64 z0, .int .i64 z1, .int .i64 z2])) := by rw [hsp]; rfl
            have s97 : sp.getD 97 none = some (eqS (.agg #[.int .i64 z0, .int .i64 z1, .int .i64 z2])) := by rw [hsp]; rfl
            have s98 : sp.getD 98 none = some (eqS (.bool true)) := by rw [hsp]; rfl
            have s99 : sp.getD 99 none = some (eqS (.bool true)) := by rw [hsp]; rfl
            have s100 : sp.getD 100 none = some (eqS (.bool true)) := by rw [hsp]; rfl
            have s101 : sp.getD 101 none = some (eqS (.bool s)) := by rw [hsp]; rfl
            have s102 : sp.getD 102 none = some (eqS (.bool s)) := by rw [hsp]; rfl
            have s103 : sp.getD 103 none = some (eqS (.bool true)) := by rw [hsp]; rfl
            have s104 : sp.getD 104 none = some (eqS (.bool true)) := by rw [hsp]; rfl
            clear hsp
            refine (wpIn_wide (n := 0)).1 (region_allR (RtS sp) (rtS_keep sp) rfl rfl rfl (by kernel_rfl) (by kernel_rfl) (by kernel_rfl) ?_ ?_)
            · intro Q'
              refine obsR_cons ?_ ?_
              · intro T wx K hB hF hD hK
                have g11 : T[11]? = some (.bool true) := hF 11 (freeM_of (by kernel_rfl))
                refine ob_yes (wanted_none rfl) ?_
                clear hF hD
                go_simp
                exact hK _ _ (Below.refl _ _) (rt_eqS s76)
              refine obsR_cons ?_ ?_
              · intro T wx K hB hF hD hK
                have g76 := get_eqS (hD 0 76 (by simp [Region.binds]) (by kernel_rfl)) s76
                refine ob_yes (wanted_none rfl) ?_
                clear hF hD
                go_simp
                exact hK _ _ (Below.refl _ _) (rt_eqS s77)
              refine obsR_cons ?_ ?_
              · intro T wx K hB hF hD hK
                have g77 := get_eqS (hD 1 77 (by simp [Region.binds]) (by kernel_rfl)) s77
                have g5 : T[5]? = some (.pointer (some ⟨w.heap.size, 0, none⟩)) := hF 5 (freeM_of (by kernel_rfl))
                refine ob_yes (wanted_yes rfl (by kernel_rfl) g77) ?_
                clear hF hD
                exact wp_load_row 27 (.tmp 5) rfl w.heap.size (eval_tmp g5) _ _ _ _ (blk_call HA.out hB) Tryd.underlying27 rfl (by kernel_rfl) (hK _ _ (Below.refl _ _) (rt_eqS s78))
              refine obsR_cons ?_ ?_
              · intro T wx K hB hF hD hK
                have g77 := get_eqS (hD 1 77 (by simp [Region.binds]) (by kernel_rfl)) s77
                have g12 : T[12]? = some (.pointer (some ⟨w3.heap.size, 0, none⟩)) := hF 12 (freeM_of (by kernel_rfl))
                refine ob_yes (wanted_yes rfl (by kernel_rfl) g77) ?_
                clear hF hD
                exact wp_load_row 25 (.tmp 12) rfl (w3.heap.size) (eval_tmp g12) _ _ _ _ (blk_call HQ.out hB) Tryd.underlying25 rfl (by kernel_rfl) (hK _ _ (Below.refl _ _) (rt_eqS s79))
              refine obsR_cons ?_ ?_
              · intro T wx K hB hF hD hK
                have g77 := get_eqS (hD 1 77 (by simp [Region.binds]) (by kernel_rfl)) s77
                have g78 := get_eqS (hD 2 78 (by simp [Region.binds]) (by kernel_rfl)) s78
                have g79 := get_eqS (hD 3 79 (by simp [Region.binds]) (by kernel_rfl)) s79
                refine ob_yes (wanted_yes rfl (by kernel_rfl) g77) ?_
                clear hF hD
                go_simp
                refine (ldirs_is X Y n0 n1 n2 W l0 l1 l2 h0 h1 h2 q0 q1 q2 x1 y1 x2 y2 x3 y3 _ (TT.out.below hB) k0 k1 k2 (Lib.hid PP.out.e1) (Lib.hid PP.out.e2) (Lib.hid PP.out.e3)).mono ?_; rintro e w9 ⟨rfl, hb⟩
                exact hK _ _ hb (rt_eqS s80)
              refine obsR_cons ?_ ?_
              · intro T wx K hB hF hD hK
                have g77 := get_eqS (hD 1 77 (by simp [Region.binds]) (by kernel_rfl)) s77
                have g5 : T[5]? = some (.pointer (some ⟨w.heap.size, 0, none⟩)) := hF 5 (freeM_of (by kernel_rfl))
                refine ob_yes (wanted_yes rfl (by kernel_rfl) g77) ?_
                clear hF hD
                exact wp_load_row 27 (.tmp 5) rfl w.heap.size (eval_tmp g5) _ _ _ _ (blk_call HA.out hB) Tryd.underlying27 rfl (by kernel_rfl) (hK _ _ (Below.refl _ _) (rt_eqS s81))
              refine obsR_cons ?_ ?_
              · intro T wx K hB hF hD hK
                have g77 := get_eqS (hD 1 77 (by simp [Region.binds]) (by kernel_rfl)) s77
                have g12 : T[12]? = some (.pointer (some ⟨w3.heap.size, 0, none⟩)) := hF 12 (freeM_of (by kernel_rfl))
                refine ob_yes (wanted_yes rfl (by kernel_rfl) g77) ?_
                clear hF hD
                exact wp_load_row 25 (.tmp 12) rfl (w3.heap.size) (eval_tmp g12) _ _ _ _ (blk_call HQ.out hB) Tryd.underlying25 rfl (by kernel_rfl) (hK _ _ (Below.refl _ _) (rt_eqS s82))
              refine obsR_cons ?_ ?_
              · intro T wx K hB hF hD hK
                have g77 := get_eqS (hD 1 77 (by simp [Region.binds]) (by kernel_rfl)) s77
                have g81 := get_eqS (hD 5 81 (by simp [Region.binds]) (by kernel_rfl)) s81
                have g82 := get_eqS (hD 6 82 (by simp [Region.binds]) (by kernel_rfl)) s82
                refine ob_yes (wanted_yes rfl (by kernel_rfl) g77) ?_
                clear hF hD
                go_simp
                refine (dirsP_is X Y n0 n1 n2 W l0 l1 l2 h0 h1 h2 q0 q1 q2 x1 x2 x3 y1 y2 y3 u1 u2 u3 v1 v2 v3 a1 a2 a3 b1 b2 b3 _ (TT.out.below hB) k0 k1 k2 PP).mono ?_; rintro e w9 ⟨rfl, hb⟩
                exact hK _ _ hb (rt_eqS s83)
              refine obsR_cons ?_ ?_
              · intro T wx K hB hF hD hK
                have g77 := get_eqS (hD 1 77 (by simp [Region.binds]) (by kernel_rfl)) s77
                have g80 := get_eqS (hD 4 80 (by simp [Region.binds]) (by kernel_rfl)) s80
                have g83 := get_eqS (hD 7 83 (by simp [Region.binds]) (by kernel_rfl)) s83
                refine ob_yes (wanted_yes rfl (by kernel_rfl) g77) ?_
                clear hF hD
                have nd := fun w => eql_dirs x1 y1 1 x2 y2 2 x3 y3 3 w
                go_simp
                exact hK _ _ (Below.refl _ _) (rt_eqS s84)
              refine obsR_cons ?_ ?_
              · intro T wx K hB hF hD hK
                have g77 := get_eqS (hD 1 77 (by simp [Region.binds]) (by kernel_rfl)) s77
                have g84 := get_eqS (hD 8 84 (by simp [Region.binds]) (by kernel_rfl)) s84
                refine ob_yes (wanted_none rfl) ?_
                clear hF hD
                go_simp
                exact hK _ _ (Below.refl _ _) (rt_eqS s85)
              refine obsR_cons ?_ ?_
              · intro T wx K hB hF hD hK
                have g85 := get_eqS (hD 9 85 (by simp [Region.binds]) (by kernel_rfl)) s85
                refine ob_yes (wanted_none rfl) ?_
                clear hF hD
                go_simp
                exact hK _ _ (Below.refl _ _) (rt_eqS s86)
              refine obsR_cons ?_ ?_
              · intro T wx K hB hF hD hK
                have g86 := get_eqS (hD 10 86 (by simp [Region.binds]) (by kernel_rfl)) s86
                have g5 : T[5]? = some (.pointer (some ⟨w.heap.size, 0, none⟩)) := hF 5 (freeM_of (by kernel_rfl))
                refine ob_yes (wanted_yes rfl (by kernel_rfl) g86) ?_
                clear hF hD
                exact wp_load_row 27 (.tmp 5) rfl w.heap.size (eval_tmp g5) _ _ _ _ (blk_call HA.out hB) Tryd.underlying27 rfl (by kernel_rfl) (hK _ _ (Below.refl _ _) (rt_eqS s87))
              refine obsR_cons ?_ ?_
              · intro T wx K hB hF hD hK
                have g86 := get_eqS (hD 10 86 (by simp [Region.binds]) (by kernel_rfl)) s86
                have g12 : T[12]? = some (.pointer (some ⟨w3.heap.size, 0, none⟩)) := hF 12 (freeM_of (by kernel_rfl))
                refine ob_yes (wanted_yes rfl (by kernel_rfl) g86) ?_
                clear hF hD
                exact wp_load_row 25 (.tmp 12) rfl (w3.heap.size) (eval_tmp g12) _ _ _ _ (blk_call HQ.out hB) Tryd.underlying25 rfl (by kernel_rfl) (hK _ _ (Below.refl _ _) (rt_eqS s88))
              refine obsR_cons ?_ ?_
              · intro T wx K hB hF hD hK
                have g86 := get_eqS (hD 10 86 (by simp [Region.binds]) (by kernel_rfl)) s86
                have g87 := get_eqS (hD 11 87 (by simp [Region.binds]) (by kernel_rfl)) s87
                have g88 := get_eqS (hD 12 88 (by simp [Region.binds]) (by kernel_rfl)) s88
                refine ob_yes (wanted_yes rfl (by kernel_rfl) g86) ?_
                clear hF hD
                go_simp
                refine (jpts_is X Y n0 n1 n2 W l0 l1 l2 h0 h1 h2 q0 q1 q2 x1 x2 x3 y1 y2 y3 u1 u2 u3 v1 v2 v3 a1 a2 a3 b1 b2 b3 _ (TT.out.below hB) k0 k1 k2 HT PP).mono ?_; rintro e w9 ⟨rfl, hb⟩
                exact hK _ _ hb (rt_eqS s89)
              refine obsR_cons ?_ ?_
              · intro T wx K hB hF hD hK
                have g86 := get_eqS (hD 10 86 (by simp [Region.binds]) (by kernel_rfl)) s86
                have g5 : T[5]? = some (.pointer (some ⟨w.heap.size, 0, none⟩)) := hF 5 (freeM_of (by kernel_rfl))
                refine ob_yes (wanted_yes rfl (by kernel_rfl) g86) ?_
                clear hF hD
                exact wp_load_row 27 (.tmp 5) rfl w.heap.size (eval_tmp g5) _ _ _ _ (blk_call HA.out hB) Tryd.underlying27 rfl (by kernel_rfl) (hK _ _ (Below.refl _ _) (rt_eqS s90))
              refine obsR_cons ?_ ?_
              · intro T wx K hB hF hD hK
                have g86 := get_eqS (hD 10 86 (by simp [Region.binds]) (by kernel_rfl)) s86
                have g12 : T[12]? = some (.pointer (some ⟨w3.heap.size, 0, none⟩)) := hF 12 (freeM_of (by kernel_rfl))
                refine ob_yes (wanted_yes rfl (by kernel_rfl) g86) ?_
                clear hF hD
                exact wp_load_row 25 (.tmp 12) rfl (w3.heap.size) (eval_tmp g12) _ _ _ _ (blk_call HQ.out hB) Tryd.underlying25 rfl (by kernel_rfl) (hK _ _ (Below.refl _ _) (rt_eqS s91))
              refine obsR_cons ?_ ?_
              · intro T wx K hB hF hD hK
                have g86 := get_eqS (hD 10 86 (by simp [Region.binds]) (by kernel_rfl)) s86
                have g90 := get_eqS (hD 14 90 (by simp [Region.binds]) (by kernel_rfl)) s90
                have g91 := get_eqS (hD 15 91 (by simp [Region.binds]) (by kernel_rfl)) s91
                refine ob_yes (wanted_yes rfl (by kernel_rfl) g86) ?_
                clear hF hD
                go_simp
                refine (points_is X Y n0 n1 n2 W l0 l1 l2 h0 h1 h2 q0 q1 q2 x1 x2 x3 y1 y2 y3 u1 u2 u3 v1 v2 v3 a1 a2 a3 b1 b2 b3 _ (TT.out.below hB) k0 k1 k2 HT PP).mono ?_; rintro e w9 ⟨rfl, hb⟩
                exact hK _ _ hb (rt_eqS s92)
              refine obsR_cons ?_ ?_
              · intro T wx K hB hF hD hK
                have g86 := get_eqS (hD 10 86 (by simp [Region.binds]) (by kernel_rfl)) s86
                have g89 := get_eqS (hD 13 89 (by simp [Region.binds]) (by kernel_rfl)) s89
                have g92 := get_eqS (hD 16 92 (by simp [Region.binds]) (by kernel_rfl)) s92
                refine ob_yes (wanted_yes rfl (by kernel_rfl) g86) ?_
                clear hF hD
                have nd := fun w => eql_pts X Y a1 b1 a2 b2 a3 b3 w
                go_simp
                exact hK _ _ (Below.refl _ _) (rt_eqS s93)
              refine obsR_cons ?_ ?_
              · intro T wx K hB hF hD hK
                have g86 := get_eqS (hD 10 86 (by simp [Region.binds]) (by kernel_rfl)) s86
                have g93 := get_eqS (hD 17 93 (by simp [Region.binds]) (by kernel_rfl)) s93
                refine ob_yes (wanted_none rfl) ?_
                clear hF hD
                go_simp
                exact hK _ _ (Below.refl _ _) (rt_eqS s94)
              refine obsR_cons ?_ ?_
              · intro T wx K hB hF hD hK
                have g94 := get_eqS (hD 18 94 (by simp [Region.binds]) (by kernel_rfl)) s94
                refine ob_yes (wanted_none rfl) ?_
                clear hF hD
                go_simp
                exact hK _ _ (Below.refl _ _) (rt_eqS s95)
              refine obsR_cons ?_ ?_
              · intro T wx K hB hF hD hK
                have g95 := get_eqS (hD 19 95 (by simp [Region.binds]) (by kernel_rfl)) s95
                have g16 : T[16]? = some (.pointer (some ⟨w4.heap.size, 0, none⟩)) := hF 16 (freeM_of (by kernel_rfl))
                refine ob_yes (wanted_yes rfl (by kernel_rfl) g95) ?_
                clear hF hD
                exact wp_load_row 25 (.tmp 16) rfl (w4.heap.size) (eval_tmp g16) _ _ _ _ (blk_call HX.out hB) Tryd.underlying25 rfl (by kernel_rfl) (hK _ _ (Below.refl _ _) (rt_eqS s96))
              refine obsR_cons ?_ ?_
              · intro T wx K hB hF hD hK
                have g95 := get_eqS (hD 19 95 (by simp [Region.binds]) (by kernel_rfl)) s95
                have g18 : T[18]? = some (.pointer (some ⟨w5.heap.size, 0, none⟩)) := hF 18 (freeM_of (by kernel_rfl))
                refine ob_yes (wanted_yes rfl (by kernel_rfl) g95) ?_
                clear hF hD
                exact wp_load_row 25 (.tmp 18) rfl (w5.heap.size) (eval_tmp g18) _ _ _ _ (blk_call HY.out hB) Tryd.underlying25 rfl (by kernel_rfl) (hK _ _ (Below.refl _ _) (rt_eqS s97))
              refine obsR_cons ?_ ?_
              · intro T wx K hB hF hD hK
                have g95 := get_eqS (hD 19 95 (by simp [Region.binds]) (by kernel_rfl)) s95
                have g96 := get_eqS (hD 20 96 (by simp [Region.binds]) (by kernel_rfl)) s96
                have g97 := get_eqS (hD 21 97 (by simp [Region.binds]) (by kernel_rfl)) s97
                refine ob_yes (wanted_yes rfl (by kernel_rfl) g95) ?_
                clear hF hD
                have nd := fun w => eql_joints z0 z1 z2 w
                go_simp
                exact hK _ _ (Below.refl _ _) (rt_eqS s98)
              refine obsR_cons ?_ ?_
              · intro T wx K hB hF hD hK
                have g95 := get_eqS (hD 19 95 (by simp [Region.binds]) (by kernel_rfl)) s95
                have g98 := get_eqS (hD 22 98 (by simp [Region.binds]) (by kernel_rfl)) s98
                refine ob_yes (wanted_none rfl) ?_
                clear hF hD
                go_simp
                exact hK _ _ (Below.refl _ _) (rt_eqS s99)
              refine obsR_cons ?_ ?_
              · intro T wx K hB hF hD hK
                have g99 := get_eqS (hD 23 99 (by simp [Region.binds]) (by kernel_rfl)) s99
                refine ob_yes (wanted_none rfl) ?_
                clear hF hD
                go_simp
                exact hK _ _ (Below.refl _ _) (rt_eqS s100)
              refine obsR_cons ?_ ?_
              · intro T wx K hB hF hD hK
                have g100 := get_eqS (hD 24 100 (by simp [Region.binds]) (by kernel_rfl)) s100
                have g17 : T[17]? = some (.bool s) := hF 17 (freeM_of (by kernel_rfl))
                refine ob_yes (wanted_yes rfl (by kernel_rfl) g100) ?_
                clear hF hD
                go_simp
                exact hK _ _ (Below.refl _ _) (rt_eqS s101)
              refine obsR_cons ?_ ?_
              · intro T wx K hB hF hD hK
                have g100 := get_eqS (hD 24 100 (by simp [Region.binds]) (by kernel_rfl)) s100
                have g19 : T[19]? = some (.bool s) := hF 19 (freeM_of (by kernel_rfl))
                refine ob_yes (wanted_yes rfl (by kernel_rfl) g100) ?_
                clear hF hD
                go_simp
                exact hK _ _ (Below.refl _ _) (rt_eqS s102)
              refine obsR_cons ?_ ?_
              · intro T wx K hB hF hD hK
                have g100 := get_eqS (hD 24 100 (by simp [Region.binds]) (by kernel_rfl)) s100
                have g101 := get_eqS (hD 25 101 (by simp [Region.binds]) (by kernel_rfl)) s101
                have g102 := get_eqS (hD 26 102 (by simp [Region.binds]) (by kernel_rfl)) s102
                refine ob_yes (wanted_yes rfl (by kernel_rfl) g100) ?_
                clear hF hD
                have bb : (s == s) = true := by cases s <;> rfl
                go_simp
                exact hK _ _ (Below.refl _ _) (rt_eqS s103)
              refine obsR_cons ?_ ?_
              · intro T wx K hB hF hD hK
                have g100 := get_eqS (hD 24 100 (by simp [Region.binds]) (by kernel_rfl)) s100
                have g103 := get_eqS (hD 27 103 (by simp [Region.binds]) (by kernel_rfl)) s103
                refine ob_yes (wanted_none rfl) ?_
                clear hF hD
                go_simp
                exact hK _ _ (Below.refl _ _) (rt_eqS s104)
              refine obsR_cons ?_ ?_
              · intro T wx K hB hF hD hK
                have g104 := get_eqS (hD 28 104 (by simp [Region.binds]) (by kernel_rfl)) s104
                refine ob_yes (wanted_none rfl) ?_
                clear hF hD
                go_simp
                exact hK _ _ (Below.refl _ _) (rt_eqS s10)
              exact obsR_nil
            · intro S9 W10 hb8 hF hs hD
              have g76 := get_eqS (hD 0 76 (by decide) (by kernel_rfl)) s76
              have g77 := get_eqS (hD 1 77 (by decide) (by kernel_rfl)) s77
              have g78 := get_eqS (hD 2 78 (by decide) (by kernel_rfl)) s78
              have g79 := get_eqS (hD 3 79 (by decide) (by kernel_rfl)) s79
              have g80 := get_eqS (hD 4 80 (by decide) (by kernel_rfl)) s80
              have g81 := get_eqS (hD 5 81 (by decide) (by kernel_rfl)) s81
              have g82 := get_eqS (hD 6 82 (by decide) (by kernel_rfl)) s82
              have g83 := get_eqS (hD 7 83 (by decide) (by kernel_rfl)) s83
              have g84 := get_eqS (hD 8 84 (by decide) (by kernel_rfl)) s84
              have g85 := get_eqS (hD 9 85 (by decide) (by kernel_rfl)) s85
              have g86 := get_eqS (hD 10 86 (by decide) (by kernel_rfl)) s86
              have g87 := get_eqS (hD 11 87 (by decide) (by kernel_rfl)) s87
              have g88 := get_eqS (hD 12 88 (by decide) (by kernel_rfl)) s88
              have g89 := get_eqS (hD 13 89 (by decide) (by kernel_rfl)) s89
              have g90 := get_eqS (hD 14 90 (by decide) (by kernel_rfl)) s90
              have g91 := get_eqS (hD 15 91 (by decide) (by kernel_rfl)) s91
              have g92 := get_eqS (hD 16 92 (by decide) (by kernel_rfl)) s92
              have g93 := get_eqS (hD 17 93 (by decide) (by kernel_rfl)) s93
              have g94 := get_eqS (hD 18 94 (by decide) (by kernel_rfl)) s94
              have g95 := get_eqS (hD 19 95 (by decide) (by kernel_rfl)) s95
              have g96 := get_eqS (hD 20 96 (by decide) (by kernel_rfl)) s96
              have g97 := get_eqS (hD 21 97 (by decide) (by kernel_rfl)) s97
              have g98 := get_eqS (hD 22 98 (by decide) (by kernel_rfl)) s98
              have g99 := get_eqS (hD 23 99 (by decide) (by kernel_rfl)) s99
              have g100 := get_eqS (hD 24 100 (by decide) (by kernel_rfl)) s100
              have g101 := get_eqS (hD 25 101 (by decide) (by kernel_rfl)) s101
              have g102 := get_eqS (hD 26 102 (by decide) (by kernel_rfl)) s102
              have g103 := get_eqS (hD 27 103 (by decide) (by kernel_rfl)) s103
              have g104 := get_eqS (hD 28 104 (by decide) (by kernel_rfl)) s104
              have g10 := get_eqS (hD 29 10 (by decide) (by kernel_rfl)) s10
              have hT := conc [(76, .bool true), (77, .bool true), (78, .agg #[.int .i64 X, .int .i64 Y, .int .i64 n0, .int .i64 n1, .int .i64 n2, .int .i64 W, .int .i64 l0, .int .i64 l1, .int .i64 l2, .int .i64 h0, .int .i64 h1, .int .i64 h2]), (79, .agg #[.int .i64 q0, .int .i64 q1, .int .i64 q2]), (80, .agg #[.int .i64 x1, .int .i64 y1, .int .i64 1, .int .i64 x2, .int .i64 y2, .int .i64 2, .int .i64 x3, .int .i64 y3, .int .i64 3]), (81, .agg #[.int .i64 X, .int .i64 Y, .int .i64 n0, .int .i64 n1, .int .i64 n2, .int .i64 W, .int .i64 l0, .int .i64 l1, .int .i64 l2, .int .i64 h0, .int .i64 h1, .int .i64 h2]), (82, .agg #[.int .i64 q0, .int .i64 q1, .int .i64 q2]), (83, .agg #[.int .i64 x1, .int .i64 y1, .int .i64 1, .int .i64 x2, .int .i64 y2, .int .i64 2, .int .i64 x3, .int .i64 y3, .int .i64 3]), (84, .bool true), (85, .bool true), (86, .bool true), (87, .agg #[.int .i64 X, .int .i64 Y, .int .i64 n0, .int .i64 n1, .int .i64 n2, .int .i64 W, .int .i64 l0, .int .i64 l1, .int .i64 l2, .int .i64 h0, .int .i64 h1, .int .i64 h2]), (88, .agg #[.int .i64 q0, .int .i64 q1, .int .i64 q2]), (89, .agg #[.int .i64 X, .int .i64 Y, .int .i64 a1, .int .i64 b1, .int .i64 a2, .int .i64 b2, .int .i64 a3, .int .i64 b3]), (90, .agg #[.int .i64 X, .int .i64 Y, .int .i64 n0, .int .i64 n1, .int .i64 n2, .int .i64 W, .int .i64 l0, .int .i64 l1, .int .i64 l2, .int .i64 h0, .int .i64 h1, .int .i64 h2]), (91, .agg #[.int .i64 q0, .int .i64 q1, .int .i64 q2]), (92, .agg #[.int .i64 X, .int .i64 Y, .int .i64 a1, .int .i64 b1, .int .i64 a2, .int .i64 b2, .int .i64 a3, .int .i64 b3]), (93, .bool true), (94, .bool true), (95, .bool true), (96, .agg #[.int .i64 z0, .int .i64 z1, .int .i64 z2]), (97, .agg #[.int .i64 z0, .int .i64 z1, .int .i64 z2]), (98, .bool true), (99, .bool true), (100, .bool true), (101, .bool s), (102, .bool s), (103, .bool true), (104, .bool true), (10, .bool true)] hs hF (by simp only [List.forall_mem_cons]; exact ⟨g76, g77, g78, g79, g80, g81, g82, g83, g84, g85, g86, g87, g88, g89, g90, g91, g92, g93, g94, g95, g96, g97, g98, g99, g100, g101, g102, g103, g104, g10, fun p hp => absurd hp List.not_mem_nil⟩) (by kernel_rfl)
              simp only [List.foldl, List.setIfInBounds_toArray, List.set_cons_succ, List.set_cons_zero] at hT
              subst hT
              clear hF hD hs g76 g77 g78 g79 g80 g81 g82 g83 g84 g85 g86 g87 g88 g89 g90 g91 g92 g93 g94 g95 g96 g97 g98 g99 g100 g101 g102 g103 g104 g10 s10 s76 s77 s78 s79 s80 s81 s82 s83 s84 s85 s86 s87 s88 s89 s90 s91 s92 s93 s94 s95 s96 s97 s98 s99 s100 s101 s102 s103 s104
              replace HA := Lib.hid (blk_call HA.out hb8)
              replace HQ := Lib.hid (blk_call HQ.out hb8)
              replace HX := Lib.hid (blk_call HX.out hb8)
              replace HY := Lib.hid (blk_call HY.out hb8)
              replace B := Lib.hid (belT B.out hb8)
              replace TT := Lib.hid (Tab.below TT.out hb8)
              clear hb8
              go_wp2_with fail
              go_ret
              exact ⟨rfl, B.out⟩

set_option maxRecDepth 100000 in
theorem lifted (os : Os) (started : os.Started) (H : Type) (enc : TypeId × Value → H) :
    ReturnsInHanded {} Tryd.checked os 3 .any (fun w args => (Rows.armMatchesReferenceSpec.pre enc Tryd.prog Tryd.f3 [] false w args ∧ laidMetH Tryd.prog Rows.armMatchesReferenceRow.laid w) ∧ sizedMet enc Tryd.prog Tryd.f3 (OpenSpec.ofChange Rows.armMatchesReferenceSpec) false w args)
      (Rows.armMatchesReferenceSpec.post enc Tryd.prog Tryd.f3 false true false false) := by
  refine returnsInHanded_of_change_and (C := Tryd.checked) (X := fun w _ => laidMetH Tryd.prog Rows.armMatchesReferenceRow.laid w) (fun _ _ _ hh h => h.of_heap hh) own started (by kernel_rfl) Tryd.func3
    (ChangeSpec.witness_shaped (enc := enc) (C := Tryd.checked) (os := os) (X := fun w _ => laidMetH Tryd.prog Rows.armMatchesReferenceRow.laid w) false (World.doorLaid Tryd.prog 600 os) #[.agg #[.int .i64 0, .int .i64 0, .int .i64 0, .int .i64 0, .int .i64 0, .int .i64 0, .int .i64 0, .int .i64 0, .int .i64 0, .int .i64 0, .int .i64 0, .int .i64 0], .agg #[.int .i64 0, .int .i64 0, .int .i64 0], .agg #[.int .u8 0, .int .u8 0, .int .u8 0], .int .i64 0, .int .i64 0] 8 rfl (World.shaped_of_RefB (by kernel_rfl) (by kernel_rfl)) (by kernel_rfl) (by kernel_rfl) (by kernel_rfl) (show laidMetH Tryd.prog [(qn, Rows.laid_ambidexter_rotation_quadrant)] _ from door_met os _)) ?_
  intro W base args ds gs before hval0 hW _ _ hL _
  have hval : ∀ (j : Nat) t v, Tryd.f3.params[j]? = some t → args[j]? = some v → Value.okWide Tryd.prog W .any base t v := hval0
  have hW' := hW
  obtain ⟨p, q, hA0, hV, rfl, hfz, hnd⟩ := hW
  have hA : DataW.TrodAll enc Tryd.prog W 0 (fun _ => true) true Tryd.f3.params.toList args.toList ds p := hA0
  rw [Tryd.params3] at hA hval
  obtain ⟨v0, vs0, d0, ds0, p0, q0, hargs, rfl, rfl, h0, r0⟩ := trodAll_cons hA
  obtain ⟨v1, vs1, d1, ds1, p1, q1, rfl, rfl, rfl, h1, r1⟩ := trodAll_cons r0
  obtain ⟨v2, vs2, d2, ds2, p2, q2, rfl, rfl, rfl, h2, r2⟩ := trodAll_cons r1
  obtain ⟨v3, vs3, d3, ds3, p3, q3, rfl, rfl, rfl, h3, r3⟩ := trodAll_cons r2
  obtain ⟨v4, vs4, d4, ds4, p4, q4, rfl, rfl, rfl, h4, r4⟩ := trodAll_cons r3
  obtain ⟨rfl, rfl, rfl⟩ := trodAll_nil r4
  obtain rfl : args = #[v0, v1, v2, v3, v4] := by cases args; simp_all
  obtain ⟨rfl, rfl⟩ := trodVars_none hV
  have k0 := h0
  have lt0 : ∀ x ∈ p0, x.block < W.heap.size := by obtain ⟨m, hm⟩ := k0; exact DataW.trod_lt m _ _ _ hm
  obtain ⟨c0_0, c0_1, c0_2, c0_3, c0_4, c0_5, c0_6, c0_7, c0_8, c0_9, c0_10, c0_11, rfl⟩ := AFr.open_arm (hval 0 27 v0 rfl rfl) h0
  have k1 := h1
  have lt1 : ∀ x ∈ p1, x.block < W.heap.size := by obtain ⟨m, hm⟩ := k1; exact DataW.trod_lt m _ _ _ hm
  obtain ⟨c1_0, c1_1, c1_2, rfl, b1_0, b1_1, b1_2⟩ := AFr.open_joints (hval 1 25 v1 rfl rfl) h1
  have k2 := h2
  have lt2 : ∀ x ∈ p2, x.block < W.heap.size := by obtain ⟨m, hm⟩ := k2; exact DataW.trod_lt m _ _ _ hm
  obtain ⟨c2_0, c2_1, c2_2, rfl, b2_0, b2_1, b2_2⟩ := AFr.open_raw (hval 2 28 v2 rfl rfl) h2
  obtain ⟨a3, rfl, rfl, rfl, w3⟩ := open_int Tryd.underlying3 (hval 3 3 v3 rfl rfl) h3
  obtain ⟨a4, rfl, rfl, rfl, w4⟩ := open_int Tryd.underlying3 (hval 4 3 v4 rfl rfl) h4
  clear hA0 hval0
  simp only [List.append_nil] at hW'
  refine (walk c0_0 c0_1 c0_2 c0_3 c0_4 c0_5 c0_6 c0_7 c0_8 c0_9 c0_10 c0_11 c1_0 c1_1 c1_2 b1_0 b1_1 b1_2 c2_0 c2_1 c2_2 b2_0 b2_1 b2_2 a3 w3 a4 w4 W (tab_of_laid hL)).mono fun e W' ⟨he, bel⟩ => ?_
  subst he
  exact ⟨_, rfl, _, _, _, [], _, [], hW', trodAll_mk1 (shut_bool Tryd.underlying4 _), (trodAll_cons_mk (Below.trod HFr.laidOut (by kernel_rfl) (of_decide_eq_true (by kernel_rfl)) k0 bel lt0) (trodAll_cons_mk (Below.trod HFr.laidOut (by kernel_rfl) (of_decide_eq_true (by kernel_rfl)) k1 bel lt1) (trodAll_cons_mk (Below.trod HFr.laidOut (by kernel_rfl) (of_decide_eq_true (by kernel_rfl)) k2 bel lt2) (trodAll_cons_mk (shut_int Tryd.underlying3 w3) (trodAll_cons_mk (shut_int Tryd.underlying3 w4) trodAll_mk0))))), rfl, bel.frame _, fun h => by cases h⟩

theorem holds : Rows.ArmMatchesReferenceSaid :=
  OpenClaim.holds_of_wide 3 Tryd.f3 rfl rfl rfl rfl rfl rfl rfl ⟨rfl, rfl, rfl, rfl, rfl⟩ rfl rfl rfl rfl rfl (by kernel_rfl) Tryd.func3 (by kernel_rfl)
    (of_decide_eq_true (by kernel_rfl)) (by unfold Func.isWrapper; first | (rw [if_pos (by decide +kernel)]; kernel_rfl) | (rw [if_neg (by decide +kernel)]; exact ⟨rfl, rfl⟩))
    (fun os started H enc _ => lifted os started H enc)

/-- THE STATEMENT: the tied card. -/
theorem card_holds : Rows.ArmMatchesReferenceCardSaid :=
  Claim7.holds_tied_plain_at .later [] [.data] true Rows.armMatchesReferenceCard.stood.harness false
    holds (fun _ h => by cases h) (by kernel_rfl) (fun _ h => by cases h) armMatchesReference_row_tie rfl ⟨rfl, rfl⟩ (by kernel_rfl) rfl
    (fun f fn hf hfn => by
      obtain rfl : f = 3 := Option.some.inj ((show Tryd.prog.funcNamed Rows.armMatchesReferenceRow.func = some 3 by kernel_rfl).symm.trans hf) |>.symm
      obtain rfl : fn = Tryd.f3 := (Option.some.inj (Tryd.func3.symm.trans hfn)).symm
      exact ⟨by kernel_rfl, fun j t ht => by
        rw [Tryd.params3] at ht
        have hm : t ∈ [27, 25, 28, 3] := by have := Array.mem_of_getElem? ht; simp only [List.mem_toArray, List.mem_cons, List.not_mem_nil, or_false] at this ⊢; grind
        have hall : ([27, 25, 28, 3].all fun u => !Tryd.prog.wantsStandIn u) = true := by kernel_rfl
        exact (show Tryd.prog.wantsStandIn t = false by simpa using List.all_eq_true.1 hall t hm)⟩)
    (by kernel_rfl)
#print axioms card_holds
end Go.Proofs.YtalhkcmlacppjaaDoor.armMatchesReference
