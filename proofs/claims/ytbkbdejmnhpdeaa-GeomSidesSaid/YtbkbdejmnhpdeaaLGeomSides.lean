/- Proved: the orientation of three points keeps under cyclic rotation, translation and a quarter turn, and turns its sign under a swap (the law GeomSides returns true).
Conditions: none on the arguments: for all four points and both values of the flag. -/
import Derived.Test.YtbkbdejmnhpdeaaGeoL
import Derived.Test.YtbkbdejmnhpdeaaGeoReg
import Derived.Test.YtbkbdejmnhpdeaaGeoFr
namespace Go.Proofs.Ytbkbdejmnhpdeaa.geomSides
open Go.ChangeShapes Go.WideShapes Go.ChangeAt Go.RowKit
set_option linter.unusedVariables false

set_option maxRecDepth 100000 in
set_option maxHeartbeats 16000000 in
theorem walk_y (x0 x1 x2 x3 x4 x5 x6 x7 : Int) (s : Bool) (w : World) (y0 y1 y2 y3 y4 y5 y6 y7 : Int) (by0 : InY y0) (by1 : InY y1) (by2 : InY y2) (by3 : InY y3) (by4 : InY y4) (by5 : InY y5) (by6 : InY y6) (by7 : InY y7) (HP : Hid (∀ w : World, Calls Try.prog 11 #[.agg #[.int .i64 x0, .int .i64 x1, .int .i64 x2, .int .i64 x3, .int .i64 x4, .int .i64 x5, .int .i64 x6, .int .i64 x7], .bool s] w fun e w' => e = .returned (.agg #[.int .i64 y0, .int .i64 y1, .int .i64 y2, .int .i64 y3, .int .i64 y4, .int .i64 y5, .int .i64 y6, .int .i64 y7]) ∧ Below w.heap.size w w')) :
    Calls Try.prog 4 #[.agg #[.int .i64 x0, .int .i64 x1, .int .i64 x2, .int .i64 x3, .int .i64 x4, .int .i64 x5, .int .i64 x6, .int .i64 x7], .bool s] w fun e w' => e = .returned (.bool true) ∧ Below w.heap.size w w' := by
  obtain ⟨a, ha⟩ : ∃ z, y0.tdiv 2 = z := ⟨_, rfl⟩
  have ja : -219700000 ≤ a ∧ a ≤ 219700000 := by rw [← ha]; exact half_bd by0
  obtain ⟨b, hb⟩ : ∃ z, y1.tdiv 2 = z := ⟨_, rfl⟩
  have jb : -219700000 ≤ b ∧ b ≤ 219700000 := by rw [← hb]; exact half_bd by1
  obtain ⟨c, hc⟩ : ∃ z, y2.tdiv 2 = z := ⟨_, rfl⟩
  have jc : -219700000 ≤ c ∧ c ≤ 219700000 := by rw [← hc]; exact half_bd by2
  obtain ⟨d, hd⟩ : ∃ z, y3.tdiv 2 = z := ⟨_, rfl⟩
  have jd : -219700000 ≤ d ∧ d ≤ 219700000 := by rw [← hd]; exact half_bd by3
  obtain ⟨p, hp⟩ : ∃ z, y4.tdiv 2 = z := ⟨_, rfl⟩
  have jp : -219700000 ≤ p ∧ p ≤ 219700000 := by rw [← hp]; exact half_bd by4
  obtain ⟨q, hq⟩ : ∃ z, y5.tdiv 2 = z := ⟨_, rfl⟩
  have jq : -219700000 ≤ q ∧ q ≤ 219700000 := by rw [← hq]; exact half_bd by5
  obtain ⟨u, hu⟩ : ∃ z, x6.tmod 1000 = z := ⟨_, rfl⟩
  obtain ⟨v, hv⟩ : ∃ z, x7.tmod 1000 = z := ⟨_, rfl⟩
  have ju : -999 ≤ u ∧ u ≤ 999 := by rw [← hu]; have a := Int.tmod_eq_emod (a := x6) (b := 1000); split at a <;> omega
  have jv : -999 ≤ v ∧ v ≤ 999 := by rw [← hv]; have a := Int.tmod_eq_emod (a := x7) (b := 1000); split at a <;> omega
  obtain ⟨o, ho⟩ : ∃ z, ori a b c d p q = z := ⟨_, rfl⟩
  have jo : -1 ≤ o ∧ o ≤ 1 := by rw [← ho]; exact cmpI_bd _ _
  have Ha := Lib.hid ha
  have Hb := Lib.hid hb
  have Hc := Lib.hid hc
  have Hd := Lib.hid hd
  have Hp := Lib.hid hp
  have Hq := Lib.hid hq
  have Hu := Lib.hid hu
  have Hv := Lib.hid hv
  have Ho := Lib.hid ho
  have Ebac : Hid (ori c d a b p q = -o) := Lib.hid (by rw [← ho]; exact cmpI_neg (by grind))
  have Eacb : Hid (ori a b p q c d = -o) := Lib.hid (by rw [← ho]; exact cmpI_neg (by grind))
  have Ebca : Hid (ori c d p q a b = o) := Lib.hid (by rw [← ho]; exact cmpI_same (by grind))
  have Ecab : Hid (ori p q a b c d = o) := Lib.hid (by rw [← ho]; exact cmpI_same (by grind))
  obtain ⟨aU, haU⟩ : ∃ z, a + u = z := ⟨_, rfl⟩
  have jaU : InR aU := by unfold InR; omega
  obtain ⟨cU, hcU⟩ : ∃ z, c + u = z := ⟨_, rfl⟩
  have jcU : InR cU := by unfold InR; omega
  obtain ⟨pU, hpU⟩ : ∃ z, p + u = z := ⟨_, rfl⟩
  have jpU : InR pU := by unfold InR; omega
  obtain ⟨bU, hbU⟩ : ∃ z, b + v = z := ⟨_, rfl⟩
  have jbU : InR bU := by unfold InR; omega
  obtain ⟨dU, hdU⟩ : ∃ z, d + v = z := ⟨_, rfl⟩
  have jdU : InR dU := by unfold InR; omega
  obtain ⟨qU, hqU⟩ : ∃ z, q + v = z := ⟨_, rfl⟩
  have jqU : InR qU := by unfold InR; omega
  have EU : Hid (ori aU bU cU dU pU qU = o) := Lib.hid (by rw [← ho]; subst haU hbU hcU hdU hpU hqU; exact cmpI_same (by grind))
  have HaU := Lib.hid haU
  have HbU := Lib.hid hbU
  have HcU := Lib.hid hcU
  have HdU := Lib.hid hdU
  have HpU := Lib.hid hpU
  have HqU := Lib.hid hqU
  obtain ⟨aM, haM⟩ : ∃ z, a - u = z := ⟨_, rfl⟩
  have jaM : InR aM := by unfold InR; omega
  obtain ⟨cM, hcM⟩ : ∃ z, c - u = z := ⟨_, rfl⟩
  have jcM : InR cM := by unfold InR; omega
  obtain ⟨pM, hpM⟩ : ∃ z, p - u = z := ⟨_, rfl⟩
  have jpM : InR pM := by unfold InR; omega
  obtain ⟨bM, hbM⟩ : ∃ z, b - v = z := ⟨_, rfl⟩
  have jbM : InR bM := by unfold InR; omega
  obtain ⟨dM, hdM⟩ : ∃ z, d - v = z := ⟨_, rfl⟩
  have jdM : InR dM := by unfold InR; omega
  obtain ⟨qM, hqM⟩ : ∃ z, q - v = z := ⟨_, rfl⟩
  have jqM : InR qM := by unfold InR; omega
  have EM : Hid (ori aM bM cM dM pM qM = o) := Lib.hid (by rw [← ho]; subst haM hbM hcM hdM hpM hqM; exact cmpI_same (by grind))
  have HaM := Lib.hid haM
  have HbM := Lib.hid hbM
  have HcM := Lib.hid hcM
  have HdM := Lib.hid hdM
  have HpM := Lib.hid hpM
  have HqM := Lib.hid hqM
  obtain ⟨bn, hbn⟩ : ∃ z, -b = z := ⟨_, rfl⟩
  have jbn : InR bn := by unfold InR; omega
  have Hbn := Lib.hid hbn
  obtain ⟨dn, hdn⟩ : ∃ z, -d = z := ⟨_, rfl⟩
  have jdn : InR dn := by unfold InR; omega
  have Hdn := Lib.hid hdn
  obtain ⟨qn, hqn⟩ : ∃ z, -q = z := ⟨_, rfl⟩
  have jqn : InR qn := by unfold InR; omega
  have Hqn := Lib.hid hqn
  have En : Hid (ori bn a dn c qn p = o) := Lib.hid (by rw [← ho]; subst hbn hdn hqn; exact cmpI_same (by grind))
  have Eaa : Hid (ori a b a b p q = 0) := Lib.hid (cmpI_zero (by grind))
  have Ebb : Hid (ori a b c d c d = 0) := Lib.hid (cmpI_zero (by grind))
  have ia : InR a := by unfold InR; omega
  have ib : InR b := by unfold InR; omega
  have ic : InR c := by unfold InR; omega
  have id : InR d := by unfold InR; omega
  have ip : InR p := by unfold InR; omega
  have iq : InR q := by unfold InR; omega
  have iu : InR u := by unfold InR; omega
  have iv : InR v := by unfold InR; omega
  have M1 : IntKind.i64.wrap (0 - o) = -o := by rw [Int.zero_sub]; exact IntWalk.i64_in _ (by omega)
  have M2 : IntKind.i64.wrap (-o) = -o := IntWalk.i64_in _ (by omega)
  clear ha hb hc hd hp hq hu hv ho haU haM hbU hbM hcU hcM hdU hdM hpU hpM hqU hqM hbn hdn hqn
  unfold InY at by0
  unfold InY at by1
  unfold InY at by2
  unfold InY at by3
  unfold InY at by4
  unfold InY at by5
  unfold InY at by6
  unfold InY at by7
  have hB : Below w.heap.size w w := Below.refl _ _
  go_enter Try.func4, Try.ntmps4
  go_wp2_with fail
  refine (head_any _).mono ?_; rintro e w1 ⟨rfl, hb⟩
  have k1 : w1.cell? ⟨w.heap.size, 0, none⟩ = some (.int .i64 x0) := cell_call (cbx w #[.int .i64 x0, .int .i64 x1, .int .i64 x2, .int .i64 x3, .int .i64 x4, .int .i64 x5, .int .i64 x6, .int .i64 x7] 24 (w.heap.size) 0 (.int .i64 x0) (by simp) rfl) hb
  have k2 : w1.cell? ⟨w.heap.size, 1, none⟩ = some (.int .i64 x1) := cell_call (cbx w #[.int .i64 x0, .int .i64 x1, .int .i64 x2, .int .i64 x3, .int .i64 x4, .int .i64 x5, .int .i64 x6, .int .i64 x7] 24 (w.heap.size) 1 (.int .i64 x1) (by simp) rfl) hb
  have k3 : w1.cell? ⟨w.heap.size, 2, none⟩ = some (.int .i64 x2) := cell_call (cbx w #[.int .i64 x0, .int .i64 x1, .int .i64 x2, .int .i64 x3, .int .i64 x4, .int .i64 x5, .int .i64 x6, .int .i64 x7] 24 (w.heap.size) 2 (.int .i64 x2) (by simp) rfl) hb
  have k4 : w1.cell? ⟨w.heap.size, 3, none⟩ = some (.int .i64 x3) := cell_call (cbx w #[.int .i64 x0, .int .i64 x1, .int .i64 x2, .int .i64 x3, .int .i64 x4, .int .i64 x5, .int .i64 x6, .int .i64 x7] 24 (w.heap.size) 3 (.int .i64 x3) (by simp) rfl) hb
  have k5 : w1.cell? ⟨w.heap.size, 4, none⟩ = some (.int .i64 x4) := cell_call (cbx w #[.int .i64 x0, .int .i64 x1, .int .i64 x2, .int .i64 x3, .int .i64 x4, .int .i64 x5, .int .i64 x6, .int .i64 x7] 24 (w.heap.size) 4 (.int .i64 x4) (by simp) rfl) hb
  have k6 : w1.cell? ⟨w.heap.size, 5, none⟩ = some (.int .i64 x5) := cell_call (cbx w #[.int .i64 x0, .int .i64 x1, .int .i64 x2, .int .i64 x3, .int .i64 x4, .int .i64 x5, .int .i64 x6, .int .i64 x7] 24 (w.heap.size) 5 (.int .i64 x5) (by simp) rfl) hb
  have k7 : w1.cell? ⟨w.heap.size, 6, none⟩ = some (.int .i64 x6) := cell_call (cbx w #[.int .i64 x0, .int .i64 x1, .int .i64 x2, .int .i64 x3, .int .i64 x4, .int .i64 x5, .int .i64 x6, .int .i64 x7] 24 (w.heap.size) 6 (.int .i64 x6) (by simp) rfl) hb
  have k8 : w1.cell? ⟨w.heap.size, 7, none⟩ = some (.int .i64 x7) := cell_call (cbx w #[.int .i64 x0, .int .i64 x1, .int .i64 x2, .int .i64 x3, .int .i64 x4, .int .i64 x5, .int .i64 x6, .int .i64 x7] 24 (w.heap.size) 7 (.int .i64 x7) (by simp) rfl) hb
  replace hB := belT (belA hB _) hb
  clear hb
  have zk1 : w.heap.size < w1.heap.size := World.block_lt_of_cell? w1 _ k1
  go_wp2_with fail
  refine (HP.out _).mono ?_; rintro e w2 ⟨rfl, hb⟩
  replace k1 : w2.cell? ⟨w.heap.size, 0, none⟩ = some (.int .i64 x0) := cell_call k1 hb
  replace k2 : w2.cell? ⟨w.heap.size, 1, none⟩ = some (.int .i64 x1) := cell_call k2 hb
  replace k3 : w2.cell? ⟨w.heap.size, 2, none⟩ = some (.int .i64 x2) := cell_call k3 hb
  replace k4 : w2.cell? ⟨w.heap.size, 3, none⟩ = some (.int .i64 x3) := cell_call k4 hb
  replace k5 : w2.cell? ⟨w.heap.size, 4, none⟩ = some (.int .i64 x4) := cell_call k5 hb
  replace k6 : w2.cell? ⟨w.heap.size, 5, none⟩ = some (.int .i64 x5) := cell_call k6 hb
  replace k7 : w2.cell? ⟨w.heap.size, 6, none⟩ = some (.int .i64 x6) := cell_call k7 hb
  replace k8 : w2.cell? ⟨w.heap.size, 7, none⟩ = some (.int .i64 x7) := cell_call k8 hb
  replace hB := belT hB hb
  clear hb
  replace zk1 : w.heap.size < w2.heap.size := World.block_lt_of_cell? w2 _ k1
  go_wp2_with fail
  refine (at_is _ _ a b _ Ha Hb).mono ?_; rintro e w3 ⟨rfl, hb⟩
  replace k1 : w3.cell? ⟨w.heap.size, 0, none⟩ = some (.int .i64 x0) := cell_call (cell_alloc k1 _) hb
  replace k2 : w3.cell? ⟨w.heap.size, 1, none⟩ = some (.int .i64 x1) := cell_call (cell_alloc k2 _) hb
  replace k3 : w3.cell? ⟨w.heap.size, 2, none⟩ = some (.int .i64 x2) := cell_call (cell_alloc k3 _) hb
  replace k4 : w3.cell? ⟨w.heap.size, 3, none⟩ = some (.int .i64 x3) := cell_call (cell_alloc k4 _) hb
  replace k5 : w3.cell? ⟨w.heap.size, 4, none⟩ = some (.int .i64 x4) := cell_call (cell_alloc k5 _) hb
  replace k6 : w3.cell? ⟨w.heap.size, 5, none⟩ = some (.int .i64 x5) := cell_call (cell_alloc k6 _) hb
  replace k7 : w3.cell? ⟨w.heap.size, 6, none⟩ = some (.int .i64 x6) := cell_call (cell_alloc k7 _) hb
  replace k8 : w3.cell? ⟨w.heap.size, 7, none⟩ = some (.int .i64 x7) := cell_call (cell_alloc k8 _) hb
  have k9 : w3.cell? ⟨w2.heap.size, 0, none⟩ = some (.int .i64 y0) := cell_call (cbx w2 #[.int .i64 y0, .int .i64 y1, .int .i64 y2, .int .i64 y3, .int .i64 y4, .int .i64 y5, .int .i64 y6, .int .i64 y7] 24 (w2.heap.size) 0 (.int .i64 y0) (by simp) rfl) hb
  have k10 : w3.cell? ⟨w2.heap.size, 1, none⟩ = some (.int .i64 y1) := cell_call (cbx w2 #[.int .i64 y0, .int .i64 y1, .int .i64 y2, .int .i64 y3, .int .i64 y4, .int .i64 y5, .int .i64 y6, .int .i64 y7] 24 (w2.heap.size) 1 (.int .i64 y1) (by simp) rfl) hb
  have k11 : w3.cell? ⟨w2.heap.size, 2, none⟩ = some (.int .i64 y2) := cell_call (cbx w2 #[.int .i64 y0, .int .i64 y1, .int .i64 y2, .int .i64 y3, .int .i64 y4, .int .i64 y5, .int .i64 y6, .int .i64 y7] 24 (w2.heap.size) 2 (.int .i64 y2) (by simp) rfl) hb
  have k12 : w3.cell? ⟨w2.heap.size, 3, none⟩ = some (.int .i64 y3) := cell_call (cbx w2 #[.int .i64 y0, .int .i64 y1, .int .i64 y2, .int .i64 y3, .int .i64 y4, .int .i64 y5, .int .i64 y6, .int .i64 y7] 24 (w2.heap.size) 3 (.int .i64 y3) (by simp) rfl) hb
  have k13 : w3.cell? ⟨w2.heap.size, 4, none⟩ = some (.int .i64 y4) := cell_call (cbx w2 #[.int .i64 y0, .int .i64 y1, .int .i64 y2, .int .i64 y3, .int .i64 y4, .int .i64 y5, .int .i64 y6, .int .i64 y7] 24 (w2.heap.size) 4 (.int .i64 y4) (by simp) rfl) hb
  have k14 : w3.cell? ⟨w2.heap.size, 5, none⟩ = some (.int .i64 y5) := cell_call (cbx w2 #[.int .i64 y0, .int .i64 y1, .int .i64 y2, .int .i64 y3, .int .i64 y4, .int .i64 y5, .int .i64 y6, .int .i64 y7] 24 (w2.heap.size) 5 (.int .i64 y5) (by simp) rfl) hb
  have k15 : w3.cell? ⟨w2.heap.size, 6, none⟩ = some (.int .i64 y6) := cell_call (cbx w2 #[.int .i64 y0, .int .i64 y1, .int .i64 y2, .int .i64 y3, .int .i64 y4, .int .i64 y5, .int .i64 y6, .int .i64 y7] 24 (w2.heap.size) 6 (.int .i64 y6) (by simp) rfl) hb
  have k16 : w3.cell? ⟨w2.heap.size, 7, none⟩ = some (.int .i64 y7) := cell_call (cbx w2 #[.int .i64 y0, .int .i64 y1, .int .i64 y2, .int .i64 y3, .int .i64 y4, .int .i64 y5, .int .i64 y6, .int .i64 y7] 24 (w2.heap.size) 7 (.int .i64 y7) (by simp) rfl) hb
  replace hB := belT (belA hB _) hb
  clear hb
  replace zk1 : w.heap.size < w3.heap.size := World.block_lt_of_cell? w3 _ k1
  have zk9 : w2.heap.size < w3.heap.size := World.block_lt_of_cell? w3 _ k9
  go_wp2_with fail
  refine (at_is _ _ c d _ Hc Hd).mono ?_; rintro e w4 ⟨rfl, hb⟩
  replace k1 : w4.cell? ⟨w.heap.size, 0, none⟩ = some (.int .i64 x0) := cell_call (cell_alloc k1 _) hb
  replace k2 : w4.cell? ⟨w.heap.size, 1, none⟩ = some (.int .i64 x1) := cell_call (cell_alloc k2 _) hb
  replace k3 : w4.cell? ⟨w.heap.size, 2, none⟩ = some (.int .i64 x2) := cell_call (cell_alloc k3 _) hb
  replace k4 : w4.cell? ⟨w.heap.size, 3, none⟩ = some (.int .i64 x3) := cell_call (cell_alloc k4 _) hb
  replace k5 : w4.cell? ⟨w.heap.size, 4, none⟩ = some (.int .i64 x4) := cell_call (cell_alloc k5 _) hb
  replace k6 : w4.cell? ⟨w.heap.size, 5, none⟩ = some (.int .i64 x5) := cell_call (cell_alloc k6 _) hb
  replace k7 : w4.cell? ⟨w.heap.size, 6, none⟩ = some (.int .i64 x6) := cell_call (cell_alloc k7 _) hb
  replace k8 : w4.cell? ⟨w.heap.size, 7, none⟩ = some (.int .i64 x7) := cell_call (cell_alloc k8 _) hb
  replace k9 : w4.cell? ⟨w2.heap.size, 0, none⟩ = some (.int .i64 y0) := cell_call (cell_alloc k9 _) hb
  replace k10 : w4.cell? ⟨w2.heap.size, 1, none⟩ = some (.int .i64 y1) := cell_call (cell_alloc k10 _) hb
  replace k11 : w4.cell? ⟨w2.heap.size, 2, none⟩ = some (.int .i64 y2) := cell_call (cell_alloc k11 _) hb
  replace k12 : w4.cell? ⟨w2.heap.size, 3, none⟩ = some (.int .i64 y3) := cell_call (cell_alloc k12 _) hb
  replace k13 : w4.cell? ⟨w2.heap.size, 4, none⟩ = some (.int .i64 y4) := cell_call (cell_alloc k13 _) hb
  replace k14 : w4.cell? ⟨w2.heap.size, 5, none⟩ = some (.int .i64 y5) := cell_call (cell_alloc k14 _) hb
  replace k15 : w4.cell? ⟨w2.heap.size, 6, none⟩ = some (.int .i64 y6) := cell_call (cell_alloc k15 _) hb
  replace k16 : w4.cell? ⟨w2.heap.size, 7, none⟩ = some (.int .i64 y7) := cell_call (cell_alloc k16 _) hb
  have k17 : w4.cell? ⟨w3.heap.size, 0, none⟩ = some (.int .i64 a) := cell_call (cbx w3 #[.int .i64 a, .int .i64 b] 23 (w3.heap.size) 0 (.int .i64 a) (by simp) rfl) hb
  have k18 : w4.cell? ⟨w3.heap.size, 1, none⟩ = some (.int .i64 b) := cell_call (cbx w3 #[.int .i64 a, .int .i64 b] 23 (w3.heap.size) 1 (.int .i64 b) (by simp) rfl) hb
  replace hB := belT (belA hB _) hb
  clear hb
  replace zk1 : w.heap.size < w4.heap.size := World.block_lt_of_cell? w4 _ k1
  replace zk9 : w2.heap.size < w4.heap.size := World.block_lt_of_cell? w4 _ k9
  have zk17 : w3.heap.size < w4.heap.size := World.block_lt_of_cell? w4 _ k17
  go_wp2_with fail
  refine (at_is _ _ p q _ Hp Hq).mono ?_; rintro e w5 ⟨rfl, hb⟩
  replace k1 : w5.cell? ⟨w.heap.size, 0, none⟩ = some (.int .i64 x0) := cell_call (cell_alloc k1 _) hb
  replace k2 : w5.cell? ⟨w.heap.size, 1, none⟩ = some (.int .i64 x1) := cell_call (cell_alloc k2 _) hb
  replace k3 : w5.cell? ⟨w.heap.size, 2, none⟩ = some (.int .i64 x2) := cell_call (cell_alloc k3 _) hb
  replace k4 : w5.cell? ⟨w.heap.size, 3, none⟩ = some (.int .i64 x3) := cell_call (cell_alloc k4 _) hb
  replace k5 : w5.cell? ⟨w.heap.size, 4, none⟩ = some (.int .i64 x4) := cell_call (cell_alloc k5 _) hb
  replace k6 : w5.cell? ⟨w.heap.size, 5, none⟩ = some (.int .i64 x5) := cell_call (cell_alloc k6 _) hb
  replace k7 : w5.cell? ⟨w.heap.size, 6, none⟩ = some (.int .i64 x6) := cell_call (cell_alloc k7 _) hb
  replace k8 : w5.cell? ⟨w.heap.size, 7, none⟩ = some (.int .i64 x7) := cell_call (cell_alloc k8 _) hb
  replace k9 : w5.cell? ⟨w2.heap.size, 0, none⟩ = some (.int .i64 y0) := cell_call (cell_alloc k9 _) hb
  replace k10 : w5.cell? ⟨w2.heap.size, 1, none⟩ = some (.int .i64 y1) := cell_call (cell_alloc k10 _) hb
  replace k11 : w5.cell? ⟨w2.heap.size, 2, none⟩ = some (.int .i64 y2) := cell_call (cell_alloc k11 _) hb
  replace k12 : w5.cell? ⟨w2.heap.size, 3, none⟩ = some (.int .i64 y3) := cell_call (cell_alloc k12 _) hb
  replace k13 : w5.cell? ⟨w2.heap.size, 4, none⟩ = some (.int .i64 y4) := cell_call (cell_alloc k13 _) hb
  replace k14 : w5.cell? ⟨w2.heap.size, 5, none⟩ = some (.int .i64 y5) := cell_call (cell_alloc k14 _) hb
  replace k15 : w5.cell? ⟨w2.heap.size, 6, none⟩ = some (.int .i64 y6) := cell_call (cell_alloc k15 _) hb
  replace k16 : w5.cell? ⟨w2.heap.size, 7, none⟩ = some (.int .i64 y7) := cell_call (cell_alloc k16 _) hb
  replace k17 : w5.cell? ⟨w3.heap.size, 0, none⟩ = some (.int .i64 a) := cell_call (cell_alloc k17 _) hb
  replace k18 : w5.cell? ⟨w3.heap.size, 1, none⟩ = some (.int .i64 b) := cell_call (cell_alloc k18 _) hb
  have k19 : w5.cell? ⟨w4.heap.size, 0, none⟩ = some (.int .i64 c) := cell_call (cbx w4 #[.int .i64 c, .int .i64 d] 23 (w4.heap.size) 0 (.int .i64 c) (by simp) rfl) hb
  have k20 : w5.cell? ⟨w4.heap.size, 1, none⟩ = some (.int .i64 d) := cell_call (cbx w4 #[.int .i64 c, .int .i64 d] 23 (w4.heap.size) 1 (.int .i64 d) (by simp) rfl) hb
  replace hB := belT (belA hB _) hb
  clear hb
  replace zk1 : w.heap.size < w5.heap.size := World.block_lt_of_cell? w5 _ k1
  replace zk9 : w2.heap.size < w5.heap.size := World.block_lt_of_cell? w5 _ k9
  replace zk17 : w3.heap.size < w5.heap.size := World.block_lt_of_cell? w5 _ k17
  have zk19 : w4.heap.size < w5.heap.size := World.block_lt_of_cell? w5 _ k19
  go_wp2_with fail
  refine (at_is _ _ u v _ Hu Hv).mono ?_; rintro e w6 ⟨rfl, hb⟩
  replace k1 : w6.cell? ⟨w.heap.size, 0, none⟩ = some (.int .i64 x0) := cell_call (cell_alloc k1 _) hb
  replace k2 : w6.cell? ⟨w.heap.size, 1, none⟩ = some (.int .i64 x1) := cell_call (cell_alloc k2 _) hb
  replace k3 : w6.cell? ⟨w.heap.size, 2, none⟩ = some (.int .i64 x2) := cell_call (cell_alloc k3 _) hb
  replace k4 : w6.cell? ⟨w.heap.size, 3, none⟩ = some (.int .i64 x3) := cell_call (cell_alloc k4 _) hb
  replace k5 : w6.cell? ⟨w.heap.size, 4, none⟩ = some (.int .i64 x4) := cell_call (cell_alloc k5 _) hb
  replace k6 : w6.cell? ⟨w.heap.size, 5, none⟩ = some (.int .i64 x5) := cell_call (cell_alloc k6 _) hb
  replace k7 : w6.cell? ⟨w.heap.size, 6, none⟩ = some (.int .i64 x6) := cell_call (cell_alloc k7 _) hb
  replace k8 : w6.cell? ⟨w.heap.size, 7, none⟩ = some (.int .i64 x7) := cell_call (cell_alloc k8 _) hb
  replace k9 : w6.cell? ⟨w2.heap.size, 0, none⟩ = some (.int .i64 y0) := cell_call (cell_alloc k9 _) hb
  replace k10 : w6.cell? ⟨w2.heap.size, 1, none⟩ = some (.int .i64 y1) := cell_call (cell_alloc k10 _) hb
  replace k11 : w6.cell? ⟨w2.heap.size, 2, none⟩ = some (.int .i64 y2) := cell_call (cell_alloc k11 _) hb
  replace k12 : w6.cell? ⟨w2.heap.size, 3, none⟩ = some (.int .i64 y3) := cell_call (cell_alloc k12 _) hb
  replace k13 : w6.cell? ⟨w2.heap.size, 4, none⟩ = some (.int .i64 y4) := cell_call (cell_alloc k13 _) hb
  replace k14 : w6.cell? ⟨w2.heap.size, 5, none⟩ = some (.int .i64 y5) := cell_call (cell_alloc k14 _) hb
  replace k15 : w6.cell? ⟨w2.heap.size, 6, none⟩ = some (.int .i64 y6) := cell_call (cell_alloc k15 _) hb
  replace k16 : w6.cell? ⟨w2.heap.size, 7, none⟩ = some (.int .i64 y7) := cell_call (cell_alloc k16 _) hb
  replace k17 : w6.cell? ⟨w3.heap.size, 0, none⟩ = some (.int .i64 a) := cell_call (cell_alloc k17 _) hb
  replace k18 : w6.cell? ⟨w3.heap.size, 1, none⟩ = some (.int .i64 b) := cell_call (cell_alloc k18 _) hb
  replace k19 : w6.cell? ⟨w4.heap.size, 0, none⟩ = some (.int .i64 c) := cell_call (cell_alloc k19 _) hb
  replace k20 : w6.cell? ⟨w4.heap.size, 1, none⟩ = some (.int .i64 d) := cell_call (cell_alloc k20 _) hb
  have k21 : w6.cell? ⟨w5.heap.size, 0, none⟩ = some (.int .i64 p) := cell_call (cbx w5 #[.int .i64 p, .int .i64 q] 23 (w5.heap.size) 0 (.int .i64 p) (by simp) rfl) hb
  have k22 : w6.cell? ⟨w5.heap.size, 1, none⟩ = some (.int .i64 q) := cell_call (cbx w5 #[.int .i64 p, .int .i64 q] 23 (w5.heap.size) 1 (.int .i64 q) (by simp) rfl) hb
  replace hB := belT (belA hB _) hb
  clear hb
  replace zk1 : w.heap.size < w6.heap.size := World.block_lt_of_cell? w6 _ k1
  replace zk9 : w2.heap.size < w6.heap.size := World.block_lt_of_cell? w6 _ k9
  replace zk17 : w3.heap.size < w6.heap.size := World.block_lt_of_cell? w6 _ k17
  replace zk19 : w4.heap.size < w6.heap.size := World.block_lt_of_cell? w6 _ k19
  have zk21 : w5.heap.size < w6.heap.size := World.block_lt_of_cell? w6 _ k21
  go_wp2_with fail
  refine (orient_is a b c d p q o _ ia ib ic id ip iq Ho).mono ?_; rintro e w7 ⟨rfl, hb⟩
  replace k1 : w7.cell? ⟨w.heap.size, 0, none⟩ = some (.int .i64 x0) := cell_call (cell_alloc k1 _) hb
  replace k2 : w7.cell? ⟨w.heap.size, 1, none⟩ = some (.int .i64 x1) := cell_call (cell_alloc k2 _) hb
  replace k3 : w7.cell? ⟨w.heap.size, 2, none⟩ = some (.int .i64 x2) := cell_call (cell_alloc k3 _) hb
  replace k4 : w7.cell? ⟨w.heap.size, 3, none⟩ = some (.int .i64 x3) := cell_call (cell_alloc k4 _) hb
  replace k5 : w7.cell? ⟨w.heap.size, 4, none⟩ = some (.int .i64 x4) := cell_call (cell_alloc k5 _) hb
  replace k6 : w7.cell? ⟨w.heap.size, 5, none⟩ = some (.int .i64 x5) := cell_call (cell_alloc k6 _) hb
  replace k7 : w7.cell? ⟨w.heap.size, 6, none⟩ = some (.int .i64 x6) := cell_call (cell_alloc k7 _) hb
  replace k8 : w7.cell? ⟨w.heap.size, 7, none⟩ = some (.int .i64 x7) := cell_call (cell_alloc k8 _) hb
  replace k9 : w7.cell? ⟨w2.heap.size, 0, none⟩ = some (.int .i64 y0) := cell_call (cell_alloc k9 _) hb
  replace k10 : w7.cell? ⟨w2.heap.size, 1, none⟩ = some (.int .i64 y1) := cell_call (cell_alloc k10 _) hb
  replace k11 : w7.cell? ⟨w2.heap.size, 2, none⟩ = some (.int .i64 y2) := cell_call (cell_alloc k11 _) hb
  replace k12 : w7.cell? ⟨w2.heap.size, 3, none⟩ = some (.int .i64 y3) := cell_call (cell_alloc k12 _) hb
  replace k13 : w7.cell? ⟨w2.heap.size, 4, none⟩ = some (.int .i64 y4) := cell_call (cell_alloc k13 _) hb
  replace k14 : w7.cell? ⟨w2.heap.size, 5, none⟩ = some (.int .i64 y5) := cell_call (cell_alloc k14 _) hb
  replace k15 : w7.cell? ⟨w2.heap.size, 6, none⟩ = some (.int .i64 y6) := cell_call (cell_alloc k15 _) hb
  replace k16 : w7.cell? ⟨w2.heap.size, 7, none⟩ = some (.int .i64 y7) := cell_call (cell_alloc k16 _) hb
  replace k17 : w7.cell? ⟨w3.heap.size, 0, none⟩ = some (.int .i64 a) := cell_call (cell_alloc k17 _) hb
  replace k18 : w7.cell? ⟨w3.heap.size, 1, none⟩ = some (.int .i64 b) := cell_call (cell_alloc k18 _) hb
  replace k19 : w7.cell? ⟨w4.heap.size, 0, none⟩ = some (.int .i64 c) := cell_call (cell_alloc k19 _) hb
  replace k20 : w7.cell? ⟨w4.heap.size, 1, none⟩ = some (.int .i64 d) := cell_call (cell_alloc k20 _) hb
  replace k21 : w7.cell? ⟨w5.heap.size, 0, none⟩ = some (.int .i64 p) := cell_call (cell_alloc k21 _) hb
  replace k22 : w7.cell? ⟨w5.heap.size, 1, none⟩ = some (.int .i64 q) := cell_call (cell_alloc k22 _) hb
  have k23 : w7.cell? ⟨w6.heap.size, 0, none⟩ = some (.int .i64 u) := cell_call (cbx w6 #[.int .i64 u, .int .i64 v] 23 (w6.heap.size) 0 (.int .i64 u) (by simp) rfl) hb
  have k24 : w7.cell? ⟨w6.heap.size, 1, none⟩ = some (.int .i64 v) := cell_call (cbx w6 #[.int .i64 u, .int .i64 v] 23 (w6.heap.size) 1 (.int .i64 v) (by simp) rfl) hb
  replace hB := belT (belA hB _) hb
  clear hb
  replace zk1 : w.heap.size < w7.heap.size := World.block_lt_of_cell? w7 _ k1
  replace zk9 : w2.heap.size < w7.heap.size := World.block_lt_of_cell? w7 _ k9
  replace zk17 : w3.heap.size < w7.heap.size := World.block_lt_of_cell? w7 _ k17
  replace zk19 : w4.heap.size < w7.heap.size := World.block_lt_of_cell? w7 _ k19
  replace zk21 : w5.heap.size < w7.heap.size := World.block_lt_of_cell? w7 _ k21
  have zk23 : w6.heap.size < w7.heap.size := World.block_lt_of_cell? w7 _ k23
  go_wp2_with fail
  simp only [List.append_eq, List.cons_append, List.nil_append]
  clear k1 k2 k3 k4 k5 k6 k7 k8 k9 k10 k11 k12 k13 k14 k15 k16 HP Ha Hb Hc Hd Hp Hq Hu Hv Ho ja jb jc jd jp jq ju jv jo by0 by1 by2 by3 by4 by5 by6 by7 zk1 zk9
  replace k17 : w7.cell? ⟨w3.heap.size, 0, none⟩ = some (.int .i64 a) := k17
  replace k18 : w7.cell? ⟨w3.heap.size, 1, none⟩ = some (.int .i64 b) := k18
  replace k19 : w7.cell? ⟨w4.heap.size, 0, none⟩ = some (.int .i64 c) := k19
  replace k20 : w7.cell? ⟨w4.heap.size, 1, none⟩ = some (.int .i64 d) := k20
  replace k21 : w7.cell? ⟨w5.heap.size, 0, none⟩ = some (.int .i64 p) := k21
  replace k22 : w7.cell? ⟨w5.heap.size, 1, none⟩ = some (.int .i64 q) := k22
  replace k23 : w7.cell? ⟨w6.heap.size, 0, none⟩ = some (.int .i64 u) := k23
  replace k24 : w7.cell? ⟨w6.heap.size, 1, none⟩ = some (.int .i64 v) := k24
  replace hB : Below w.heap.size w w7 := hB
  have zk17 : w3.heap.size < w7.heap.size := World.block_lt_of_cell? w7 _ k17
  have zk19 : w4.heap.size < w7.heap.size := World.block_lt_of_cell? w7 _ k19
  have zk21 : w5.heap.size < w7.heap.size := World.block_lt_of_cell? w7 _ k21
  have zk23 : w6.heap.size < w7.heap.size := World.block_lt_of_cell? w7 _ k23
  obtain ⟨sp, hsp⟩ : ∃ sp : Told, sp = [none, none, none, none, some (.inl (.bool true)), none, none, none, none, none, none, none, none, none, none, none, none, none, none, none, none, none, none, none, none, none, none, none, none, none, none, none, none, none, none, none, none, none, none, none, none, none, none, none, none, none, none, none, none, none, none, none, none, none, none, none, some (.inl (.bool true)), some (.inl (.bool true)), some (.inl (.agg #[.int .i64 c, .int .i64 d])), some (.inl (.agg #[.int .i64 a, .int .i64 b])), some (.inl (.agg #[.int .i64 p, .int .i64 q])), some (.inl (.int .i64 (-o))), some (.inl (.int .i64 o)), some (.inl (.int .i64 (-o))), some (.inl (.bool true)), some (.inl (.bool true)), some (.inl (.bool true)), some (.inl (.agg #[.int .i64 a, .int .i64 b])), some (.inl (.agg #[.int .i64 p, .int .i64 q])), some (.inl (.agg #[.int .i64 c, .int .i64 d])), some (.inl (.int .i64 (-o))), some (.inl (.int .i64 o)), some (.inl (.int .i64 (-o))), some (.inl (.bool true)), some (.inl (.bool true)), some (.inl (.bool true)), some (.inl (.agg #[.int .i64 c, .int .i64 d])), some (.inl (.agg #[.int .i64 p, .int .i64 q])), some (.inl (.agg #[.int .i64 a, .int .i64 b])), some (.inl (.int .i64 o)), some (.inl (.int .i64 o)), some (.inl (.bool true)), some (.inl (.bool true)), some (.inl (.bool true)), some (.inl (.agg #[.int .i64 p, .int .i64 q])), some (.inl (.agg #[.int .i64 a, .int .i64 b])), some (.inl (.agg #[.int .i64 c, .int .i64 d])), some (.inl (.int .i64 o)), some (.inl (.int .i64 o)), some (.inl (.bool true)), some (.inl (.bool true)), some (.inl (.bool true)), some (.inl (.agg #[.int .i64 a, .int .i64 b])), some (.inl (.agg #[.int .i64 u, .int .i64 v])), some (.inl (.agg #[.int .i64 aU, .int .i64 bU])), some (.inl (.agg #[.int .i64 c, .int .i64 d])), some (.inl (.agg #[.int .i64 u, .int .i64 v])), some (.inl (.agg #[.int .i64 cU, .int .i64 dU])), some (.inl (.agg #[.int .i64 p, .int .i64 q])), some (.inl (.agg #[.int .i64 u, .int .i64 v])), some (.inl (.agg #[.int .i64 pU, .int .i64 qU])), some (.inl (.int .i64 o)), some (.inl (.int .i64 o)), some (.inl (.bool true)), some (.inl (.bool true)), some (.inl (.bool true)), some (.inl (.agg #[.int .i64 a, .int .i64 b])), some (.inl (.agg #[.int .i64 u, .int .i64 v])), some (.inl (.agg #[.int .i64 aM, .int .i64 bM])), some (.inl (.agg #[.int .i64 c, .int .i64 d])), some (.inl (.agg #[.int .i64 u, .int .i64 v])), some (.inl (.agg #[.int .i64 cM, .int .i64 dM])), some (.inl (.agg #[.int .i64 p, .int .i64 q])), some (.inl (.agg #[.int .i64 u, .int .i64 v])), some (.inl (.agg #[.int .i64 pM, .int .i64 qM])), some (.inl (.int .i64 o)), some (.inl (.int .i64 o)), some (.inl (.bool true)), some (.inl (.bool true)), some (.inl (.bool true)), some (.inl (.agg #[.int .i64 a, .int .i64 b])), some (.inl (.agg #[.int .i64 bn, .int .i64 a])), some (.inl (.agg #[.int .i64 c, .int .i64 d])), some (.inl (.agg #[.int .i64 dn, .int .i64 c])), some (.inl (.agg #[.int .i64 p, .int .i64 q])), some (.inl (.agg #[.int .i64 qn, .int .i64 p])), some (.inl (.int .i64 o)), some (.inl (.int .i64 o)), some (.inl (.bool true)), some (.inl (.bool true)), some (.inl (.bool true)), some (.inl (.agg #[.int .i64 a, .int .i64 b])), some (.inl (.agg #[.int .i64 a, .int .i64 b])), some (.inl (.agg #[.int .i64 p, .int .i64 q])), some (.inl (.int .i64 0)), some (.inl (.bool true)), some (.inl (.bool true)), some (.inl (.bool true)), some (.inl (.agg #[.int .i64 a, .int .i64 b])), some (.inl (.agg #[.int .i64 c, .int .i64 d])), some (.inl (.agg #[.int .i64 c, .int .i64 d])), some (.inl (.int .i64 0)), some (.inl (.bool true)), some (.inl (.bool true))] := ⟨_, rfl⟩
  have s4 : sp.getD 4 none = some (.inl (.bool true)) := by rw [hsp]; rfl
  have s56 : sp.getD 56 none = some (.inl (.bool true)) := by rw [hsp]; rfl
  have s57 : sp.getD 57 none = some (.inl (.bool true)) := by rw [hsp]; rfl
  have s58 : sp.getD 58 none = some (.inl (.agg #[.int .i64 c, .int .i64 d])) := by rw [hsp]; rfl
  have s59 : sp.getD 59 none = some (.inl (.agg #[.int .i64 a, .int .i64 b])) := by rw [hsp]; rfl
  have s60 : sp.getD 60 none = some (.inl (.agg #[.int .i64 p, .int .i64 q])) := by rw [hsp]; rfl
  have s61 : sp.getD 61 none = some (.inl (.int .i64 (-o))) := by rw [hsp]; rfl
  have s62 : sp.getD 62 none = some (.inl (.int .i64 o)) := by rw [hsp]; rfl
  have s63 : sp.getD 63 none = some (.inl (.int .i64 (-o))) := by rw [hsp]; rfl
  have s64 : sp.getD 64 none = some (.inl (.bool true)) := by rw [hsp]; rfl
  have s65 : sp.getD 65 none = some (.inl (.bool true)) := by rw [hsp]; rfl
  have s66 : sp.getD 66 none = some (.inl (.bool true)) := by rw [hsp]; rfl
  have s67 : sp.getD 67 none = some (.inl (.agg #[.int .i64 a, .int .i64 b])) := by rw [hsp]; rfl
  have s68 : sp.getD 68 none = some (.inl (.agg #[.int .i64 p, .int .i64 q])) := by rw [hsp]; rfl
  have s69 : sp.getD 69 none = some (.inl (.agg #[.int .i64 c, .int .i64 d])) := by rw [hsp]; rfl
  have s70 : sp.getD 70 none = some (.inl (.int .i64 (-o))) := by rw [hsp]; rfl
  have s71 : sp.getD 71 none = some (.inl (.int .i64 o)) := by rw [hsp]; rfl
  have s72 : sp.getD 72 none = some (.inl (.int .i64 (-o))) := by rw [hsp]; rfl
  have s73 : sp.getD 73 none = some (.inl (.bool true)) := by rw [hsp]; rfl
  have s74 : sp.getD 74 none = some (.inl (.bool true)) := by rw [hsp]; rfl
  have s75 : sp.getD 75 none = some (.inl (.bool true)) := by rw [hsp]; rfl
  have s76 : sp.getD 76 none = some (.inl (.agg #[.int .i64 c, .int .i64 d])) := by rw [hsp]; rfl
  have s77 : sp.getD 77 none = some (.inl (.agg #[.int .i64 p, .int .i64 q])) := by rw [hsp]; rfl
  have s78 : sp.getD 78 none = some (.inl (.agg #[.int .i64 a, .int .i64 b])) := by rw [hsp]; rfl
  have s79 : sp.getD 79 none = some (.inl (.int .i64 o)) := by rw [hsp]; rfl
  have s80 : sp.getD 80 none = some (.inl (.int .i64 o)) := by rw [hsp]; rfl
  have s81 : sp.getD 81 none = some (.inl (.bool true)) := by rw [hsp]; rfl
  have s82 : sp.getD 82 none = some (.inl (.bool true)) := by rw [hsp]; rfl
  have s83 : sp.getD 83 none = some (.inl (.bool true)) := by rw [hsp]; rfl
  have s84 : sp.getD 84 none = some (.inl (.agg #[.int .i64 p, .int .i64 q])) := by rw [hsp]; rfl
  have s85 : sp.getD 85 none = some (.inl (.agg #[.int .i64 a, .int .i64 b])) := by rw [hsp]; rfl
  have s86 : sp.getD 86 none = some (.inl (.agg #[.int .i64 c, .int .i64 d])) := by rw [hsp]; rfl
  have s87 : sp.getD 87 none = some (.inl (.int .i64 o)) := by rw [hsp]; rfl
  have s88 : sp.getD 88 none = some (.inl (.int .i64 o)) := by rw [hsp]; rfl
  have s89 : sp.getD 89 none = some (.inl (.bool true)) := by rw [hsp]; rfl
  have s90 : sp.getD 90 none = some (.inl (.bool true)) := by rw [hsp]; rfl
  have s91 : sp.getD 91 none = some (.inl (.bool true)) := by rw [hsp]; rfl
  have s92 : sp.getD 92 none = some (.inl (.agg #[.int .i64 a, .int .i64 b])) := by rw [hsp]; rfl
  have s93 : sp.getD 93 none = some (.inl (.agg #[.int .i64 u, .int .i64 v])) := by rw [hsp]; rfl
  have s94 : sp.getD 94 none = some (.inl (.agg #[.int .i64 aU, .int .i64 bU])) := by rw [hsp]; rfl
  have s95 : sp.getD 95 none = some (.inl (.agg #[.int .i64 c, .int .i64 d])) := by rw [hsp]; rfl
  have s96 : sp.getD 96 none = some (.inl (.agg #[.int .i64 u, .int .i64 v])) := by rw [hsp]; rfl
  have s97 : sp.getD 97 none = some (.inl (.agg #[.int .i64 cU, .int .i64 dU])) := by rw [hsp]; rfl
  have s98 : sp.getD 98 none = some (.inl (.agg #[.int .i64 p, .int .i64 q])) := by rw [hsp]; rfl
  have s99 : sp.getD 99 none = some (.inl (.agg #[.int .i64 u, .int .i64 v])) := by rw [hsp]; rfl
  have s100 : sp.getD 100 none = some (.inl (.agg #[.int .i64 pU, .int .i64 qU])) := by rw [hsp]; rfl
  have s101 : sp.getD 101 none = some (.inl (.int .i64 o)) := by rw [hsp]; rfl
  have s102 : sp.getD 102 none = some (.inl (.int .i64 o)) := by rw [hsp]; rfl
  have s103 : sp.getD 103 none = some (.inl (.bool true)) := by rw [hsp]; rfl
  have s104 : sp.getD 104 none = some (.inl (.bool true)) := by rw [hsp]; rfl
  have s105 : sp.getD 105 none = some (.inl (.bool true)) := by rw [hsp]; rfl
  have s106 : sp.getD 106 none = some (.inl (.agg #[.int .i64 a, .int .i64 b])) := by rw [hsp]; rfl
  have s107 : sp.getD 107 none = some (.inl (.agg #[.int .i64 u, .int .i64 v])) := by rw [hsp]; rfl
  have s108 : sp.getD 108 none = some (.inl (.agg #[.int .i64 aM, .int .i64 bM])) := by rw [hsp]; rfl
  have s109 : sp.getD 109 none = some (.inl (.agg #[.int .i64 c, .int .i64 d])) := by rw [hsp]; rfl
  have s110 : sp.getD 110 none = some (.inl (.agg #[.int .i64 u, .int .i64 v])) := by rw [hsp]; rfl
  have s111 : sp.getD 111 none = some (.inl (.agg #[.int .i64 cM, .int .i64 dM])) := by rw [hsp]; rfl
  have s112 : sp.getD 112 none = some (.inl (.agg #[.int .i64 p, .int .i64 q])) := by rw [hsp]; rfl
  have s113 : sp.getD 113 none = some (.inl (.agg #[.int .i64 u, .int .i64 v])) := by rw [hsp]; rfl
  have s114 : sp.getD 114 none = some (.inl (.agg #[.int .i64 pM, .int .i64 qM])) := by rw [hsp]; rfl
  have s115 : sp.getD 115 none = some (.inl (.int .i64 o)) := by rw [hsp]; rfl
  have s116 : sp.getD 116 none = some (.inl (.int .i64 o)) := by rw [hsp]; rfl
  have s117 : sp.getD 117 none = some (.inl (.bool true)) := by rw [hsp]; rfl
  have s118 : sp.getD 118 none = some (.inl (.bool true)) := by rw [hsp]; rfl
  have s119 : sp.getD 119 none = some (.inl (.bool true)) := by rw [hsp]; rfl
  have s120 : sp.getD 120 none = some (.inl (.agg #[.int .i64 a, .int .i64 b])) := by rw [hsp]; rfl
  have s121 : sp.getD 121 none = some (.inl (.agg #[.int .i64 bn, .int .i64 a])) := by rw [hsp]; rfl
  have s122 : sp.getD 122 none = some (.inl (.agg #[.int .i64 c, .int .i64 d])) := by rw [hsp]; rfl
  have s123 : sp.getD 123 none = some (.inl (.agg #[.int .i64 dn, .int .i64 c])) := by rw [hsp]; rfl
  have s124 : sp.getD 124 none = some (.inl (.agg #[.int .i64 p, .int .i64 q])) := by rw [hsp]; rfl
  have s125 : sp.getD 125 none = some (.inl (.agg #[.int .i64 qn, .int .i64 p])) := by rw [hsp]; rfl
  have s126 : sp.getD 126 none = some (.inl (.int .i64 o)) := by rw [hsp]; rfl
  have s127 : sp.getD 127 none = some (.inl (.int .i64 o)) := by rw [hsp]; rfl
  have s128 : sp.getD 128 none = some (.inl (.bool true)) := by rw [hsp]; rfl
  have s129 : sp.getD 129 none = some (.inl (.bool true)) := by rw [hsp]; rfl
  have s130 : sp.getD 130 none = some (.inl (.bool true)) := by rw [hsp]; rfl
  have s131 : sp.getD 131 none = some (.inl (.agg #[.int .i64 a, .int .i64 b])) := by rw [hsp]; rfl
  have s132 : sp.getD 132 none = some (.inl (.agg #[.int .i64 a, .int .i64 b])) := by rw [hsp]; rfl
  have s133 : sp.getD 133 none = some (.inl (.agg #[.int .i64 p, .int .i64 q])) := by rw [hsp]; rfl
  have s134 : sp.getD 134 none = some (.inl (.int .i64 0)) := by rw [hsp]; rfl
  have s135 : sp.getD 135 none = some (.inl (.bool true)) := by rw [hsp]; rfl
  have s136 : sp.getD 136 none = some (.inl (.bool true)) := by rw [hsp]; rfl
  have s137 : sp.getD 137 none = some (.inl (.bool true)) := by rw [hsp]; rfl
  have s138 : sp.getD 138 none = some (.inl (.agg #[.int .i64 a, .int .i64 b])) := by rw [hsp]; rfl
  have s139 : sp.getD 139 none = some (.inl (.agg #[.int .i64 c, .int .i64 d])) := by rw [hsp]; rfl
  have s140 : sp.getD 140 none = some (.inl (.agg #[.int .i64 c, .int .i64 d])) := by rw [hsp]; rfl
  have s141 : sp.getD 141 none = some (.inl (.int .i64 0)) := by rw [hsp]; rfl
  have s142 : sp.getD 142 none = some (.inl (.bool true)) := by rw [hsp]; rfl
  have s143 : sp.getD 143 none = some (.inl (.bool true)) := by rw [hsp]; rfl
  clear hsp
  refine region_obs sp (by kernel_rfl) (by kernel_rfl) ?_ ?_
  · rw [List.toList_toArray]
    refine obs_cons ?_ ?_
    · intro T w K hB hF hD hK
      have g5 : T[5]? = some (.bool true) := hF 5 (free_of (by kernel_rfl))
      refine ob_yes (wanted_none rfl) ?_
      clear hF hD
      go_simp
      exact hK _ _ (Below.refl _ _) (rt_eq s56)
    refine obs_cons ?_ ?_
    · intro T w K hB hF hD hK
      have g56 := get_eq (hD 0 56 (by simp [Region.binds]) (by kernel_rfl)) s56
      refine ob_yes (wanted_none rfl) ?_
      clear hF hD
      go_simp
      exact hK _ _ (Below.refl _ _) (rt_eq s57)
    refine obs_cons ?_ ?_
    · intro T w K hB hF hD hK
      have g57 := get_eq (hD 1 57 (by simp [Region.binds]) (by kernel_rfl)) s57
      have g8 : T[8]? = some (.pointer (some ⟨w4.heap.size, 0, none⟩)) := hF 8 (free_of (by kernel_rfl))
      refine ob_yes (wanted_yes rfl (by kernel_rfl) g57) ?_
      clear hF hD
      have c0 := cell_call k19 hB
      have c1 := cell_call k20 hB
      go_simp
      exact hK _ _ (Below.refl _ _) (rt_eq s58)
    refine obs_cons ?_ ?_
    · intro T w K hB hF hD hK
      have g57 := get_eq (hD 1 57 (by simp [Region.binds]) (by kernel_rfl)) s57
      have g7 : T[7]? = some (.pointer (some ⟨w3.heap.size, 0, none⟩)) := hF 7 (free_of (by kernel_rfl))
      refine ob_yes (wanted_yes rfl (by kernel_rfl) g57) ?_
      clear hF hD
      have c0 := cell_call k17 hB
      have c1 := cell_call k18 hB
      go_simp
      exact hK _ _ (Below.refl _ _) (rt_eq s59)
    refine obs_cons ?_ ?_
    · intro T w K hB hF hD hK
      have g57 := get_eq (hD 1 57 (by simp [Region.binds]) (by kernel_rfl)) s57
      have g9 : T[9]? = some (.pointer (some ⟨w5.heap.size, 0, none⟩)) := hF 9 (free_of (by kernel_rfl))
      refine ob_yes (wanted_yes rfl (by kernel_rfl) g57) ?_
      clear hF hD
      have c0 := cell_call k21 hB
      have c1 := cell_call k22 hB
      go_simp
      exact hK _ _ (Below.refl _ _) (rt_eq s60)
    refine obs_cons ?_ ?_
    · intro T w K hB hF hD hK
      have g57 := get_eq (hD 1 57 (by simp [Region.binds]) (by kernel_rfl)) s57
      have g58 := get_eq (hD 2 58 (by simp [Region.binds]) (by kernel_rfl)) s58
      have g59 := get_eq (hD 3 59 (by simp [Region.binds]) (by kernel_rfl)) s59
      have g60 := get_eq (hD 4 60 (by simp [Region.binds]) (by kernel_rfl)) s60
      refine ob_yes (wanted_yes rfl (by kernel_rfl) g57) ?_
      clear hF hD
      go_simp
      refine (orient_is c d a b p q (-o) _ ic id ia ib ip iq Ebac).mono ?_; rintro e w9 ⟨rfl, hb⟩
      exact hK _ _ hb (rt_eq s61)
    refine obs_cons ?_ ?_
    · intro T w K hB hF hD hK
      have g57 := get_eq (hD 1 57 (by simp [Region.binds]) (by kernel_rfl)) s57
      have g11 : T[11]? = some (.int .i64 o) := hF 11 (free_of (by kernel_rfl))
      refine ob_yes (wanted_yes rfl (by kernel_rfl) g57) ?_
      clear hF hD
      go_simp
      exact hK _ _ (Below.refl _ _) (rt_eq s62)
    refine obs_cons ?_ ?_
    · intro T w K hB hF hD hK
      have g57 := get_eq (hD 1 57 (by simp [Region.binds]) (by kernel_rfl)) s57
      have g62 := get_eq (hD 6 62 (by simp [Region.binds]) (by kernel_rfl)) s62
      refine ob_yes (wanted_yes rfl (by kernel_rfl) g57) ?_
      clear hF hD
      go_simp
      exact hK _ _ (Below.refl _ _) (rt_eq s63)
    refine obs_cons ?_ ?_
    · intro T w K hB hF hD hK
      have g57 := get_eq (hD 1 57 (by simp [Region.binds]) (by kernel_rfl)) s57
      have g61 := get_eq (hD 5 61 (by simp [Region.binds]) (by kernel_rfl)) s61
      have g63 := get_eq (hD 7 63 (by simp [Region.binds]) (by kernel_rfl)) s63
      refine ob_yes (wanted_yes rfl (by kernel_rfl) g57) ?_
      clear hF hD
      go_simp
      exact hK _ _ (Below.refl _ _) (rt_eq s64)
    refine obs_cons ?_ ?_
    · intro T w K hB hF hD hK
      have g57 := get_eq (hD 1 57 (by simp [Region.binds]) (by kernel_rfl)) s57
      have g64 := get_eq (hD 8 64 (by simp [Region.binds]) (by kernel_rfl)) s64
      refine ob_yes (wanted_none rfl) ?_
      clear hF hD
      go_simp
      exact hK _ _ (Below.refl _ _) (rt_eq s65)
    refine obs_cons ?_ ?_
    · intro T w K hB hF hD hK
      have g65 := get_eq (hD 9 65 (by simp [Region.binds]) (by kernel_rfl)) s65
      refine ob_yes (wanted_none rfl) ?_
      clear hF hD
      go_simp
      exact hK _ _ (Below.refl _ _) (rt_eq s66)
    refine obs_cons ?_ ?_
    · intro T w K hB hF hD hK
      have g66 := get_eq (hD 10 66 (by simp [Region.binds]) (by kernel_rfl)) s66
      have g7 : T[7]? = some (.pointer (some ⟨w3.heap.size, 0, none⟩)) := hF 7 (free_of (by kernel_rfl))
      refine ob_yes (wanted_yes rfl (by kernel_rfl) g66) ?_
      clear hF hD
      have c0 := cell_call k17 hB
      have c1 := cell_call k18 hB
      go_simp
      exact hK _ _ (Below.refl _ _) (rt_eq s67)
    refine obs_cons ?_ ?_
    · intro T w K hB hF hD hK
      have g66 := get_eq (hD 10 66 (by simp [Region.binds]) (by kernel_rfl)) s66
      have g9 : T[9]? = some (.pointer (some ⟨w5.heap.size, 0, none⟩)) := hF 9 (free_of (by kernel_rfl))
      refine ob_yes (wanted_yes rfl (by kernel_rfl) g66) ?_
      clear hF hD
      have c0 := cell_call k21 hB
      have c1 := cell_call k22 hB
      go_simp
      exact hK _ _ (Below.refl _ _) (rt_eq s68)
    refine obs_cons ?_ ?_
    · intro T w K hB hF hD hK
      have g66 := get_eq (hD 10 66 (by simp [Region.binds]) (by kernel_rfl)) s66
      have g8 : T[8]? = some (.pointer (some ⟨w4.heap.size, 0, none⟩)) := hF 8 (free_of (by kernel_rfl))
      refine ob_yes (wanted_yes rfl (by kernel_rfl) g66) ?_
      clear hF hD
      have c0 := cell_call k19 hB
      have c1 := cell_call k20 hB
      go_simp
      exact hK _ _ (Below.refl _ _) (rt_eq s69)
    refine obs_cons ?_ ?_
    · intro T w K hB hF hD hK
      have g66 := get_eq (hD 10 66 (by simp [Region.binds]) (by kernel_rfl)) s66
      have g67 := get_eq (hD 11 67 (by simp [Region.binds]) (by kernel_rfl)) s67
      have g68 := get_eq (hD 12 68 (by simp [Region.binds]) (by kernel_rfl)) s68
      have g69 := get_eq (hD 13 69 (by simp [Region.binds]) (by kernel_rfl)) s69
      refine ob_yes (wanted_yes rfl (by kernel_rfl) g66) ?_
      clear hF hD
      go_simp
      refine (orient_is a b p q c d (-o) _ ia ib ip iq ic id Eacb).mono ?_; rintro e w9 ⟨rfl, hb⟩
      exact hK _ _ hb (rt_eq s70)
    refine obs_cons ?_ ?_
    · intro T w K hB hF hD hK
      have g66 := get_eq (hD 10 66 (by simp [Region.binds]) (by kernel_rfl)) s66
      have g11 : T[11]? = some (.int .i64 o) := hF 11 (free_of (by kernel_rfl))
      refine ob_yes (wanted_yes rfl (by kernel_rfl) g66) ?_
      clear hF hD
      go_simp
      exact hK _ _ (Below.refl _ _) (rt_eq s71)
    refine obs_cons ?_ ?_
    · intro T w K hB hF hD hK
      have g66 := get_eq (hD 10 66 (by simp [Region.binds]) (by kernel_rfl)) s66
      have g71 := get_eq (hD 15 71 (by simp [Region.binds]) (by kernel_rfl)) s71
      refine ob_yes (wanted_yes rfl (by kernel_rfl) g66) ?_
      clear hF hD
      go_simp
      exact hK _ _ (Below.refl _ _) (rt_eq s72)
    refine obs_cons ?_ ?_
    · intro T w K hB hF hD hK
      have g66 := get_eq (hD 10 66 (by simp [Region.binds]) (by kernel_rfl)) s66
      have g70 := get_eq (hD 14 70 (by simp [Region.binds]) (by kernel_rfl)) s70
      have g72 := get_eq (hD 16 72 (by simp [Region.binds]) (by kernel_rfl)) s72
      refine ob_yes (wanted_yes rfl (by kernel_rfl) g66) ?_
      clear hF hD
      go_simp
      exact hK _ _ (Below.refl _ _) (rt_eq s73)
    refine obs_cons ?_ ?_
    · intro T w K hB hF hD hK
      have g66 := get_eq (hD 10 66 (by simp [Region.binds]) (by kernel_rfl)) s66
      have g73 := get_eq (hD 17 73 (by simp [Region.binds]) (by kernel_rfl)) s73
      refine ob_yes (wanted_none rfl) ?_
      clear hF hD
      go_simp
      exact hK _ _ (Below.refl _ _) (rt_eq s74)
    refine obs_cons ?_ ?_
    · intro T w K hB hF hD hK
      have g74 := get_eq (hD 18 74 (by simp [Region.binds]) (by kernel_rfl)) s74
      refine ob_yes (wanted_none rfl) ?_
      clear hF hD
      go_simp
      exact hK _ _ (Below.refl _ _) (rt_eq s75)
    refine obs_cons ?_ ?_
    · intro T w K hB hF hD hK
      have g75 := get_eq (hD 19 75 (by simp [Region.binds]) (by kernel_rfl)) s75
      have g8 : T[8]? = some (.pointer (some ⟨w4.heap.size, 0, none⟩)) := hF 8 (free_of (by kernel_rfl))
      refine ob_yes (wanted_yes rfl (by kernel_rfl) g75) ?_
      clear hF hD
      have c0 := cell_call k19 hB
      have c1 := cell_call k20 hB
      go_simp
      exact hK _ _ (Below.refl _ _) (rt_eq s76)
    refine obs_cons ?_ ?_
    · intro T w K hB hF hD hK
      have g75 := get_eq (hD 19 75 (by simp [Region.binds]) (by kernel_rfl)) s75
      have g9 : T[9]? = some (.pointer (some ⟨w5.heap.size, 0, none⟩)) := hF 9 (free_of (by kernel_rfl))
      refine ob_yes (wanted_yes rfl (by kernel_rfl) g75) ?_
      clear hF hD
      have c0 := cell_call k21 hB
      have c1 := cell_call k22 hB
      go_simp
      exact hK _ _ (Below.refl _ _) (rt_eq s77)
    refine obs_cons ?_ ?_
    · intro T w K hB hF hD hK
      have g75 := get_eq (hD 19 75 (by simp [Region.binds]) (by kernel_rfl)) s75
      have g7 : T[7]? = some (.pointer (some ⟨w3.heap.size, 0, none⟩)) := hF 7 (free_of (by kernel_rfl))
      refine ob_yes (wanted_yes rfl (by kernel_rfl) g75) ?_
      clear hF hD
      have c0 := cell_call k17 hB
      have c1 := cell_call k18 hB
      go_simp
      exact hK _ _ (Below.refl _ _) (rt_eq s78)
    refine obs_cons ?_ ?_
    · intro T w K hB hF hD hK
      have g75 := get_eq (hD 19 75 (by simp [Region.binds]) (by kernel_rfl)) s75
      have g76 := get_eq (hD 20 76 (by simp [Region.binds]) (by kernel_rfl)) s76
      have g77 := get_eq (hD 21 77 (by simp [Region.binds]) (by kernel_rfl)) s77
      have g78 := get_eq (hD 22 78 (by simp [Region.binds]) (by kernel_rfl)) s78
      refine ob_yes (wanted_yes rfl (by kernel_rfl) g75) ?_
      clear hF hD
      go_simp
      refine (orient_is c d p q a b o _ ic id ip iq ia ib Ebca).mono ?_; rintro e w9 ⟨rfl, hb⟩
      exact hK _ _ hb (rt_eq s79)
    refine obs_cons ?_ ?_
    · intro T w K hB hF hD hK
      have g75 := get_eq (hD 19 75 (by simp [Region.binds]) (by kernel_rfl)) s75
      have g11 : T[11]? = some (.int .i64 o) := hF 11 (free_of (by kernel_rfl))
      refine ob_yes (wanted_yes rfl (by kernel_rfl) g75) ?_
      clear hF hD
      go_simp
      exact hK _ _ (Below.refl _ _) (rt_eq s80)
    refine obs_cons ?_ ?_
    · intro T w K hB hF hD hK
      have g75 := get_eq (hD 19 75 (by simp [Region.binds]) (by kernel_rfl)) s75
      have g79 := get_eq (hD 23 79 (by simp [Region.binds]) (by kernel_rfl)) s79
      have g80 := get_eq (hD 24 80 (by simp [Region.binds]) (by kernel_rfl)) s80
      refine ob_yes (wanted_yes rfl (by kernel_rfl) g75) ?_
      clear hF hD
      go_simp
      exact hK _ _ (Below.refl _ _) (rt_eq s81)
    refine obs_cons ?_ ?_
    · intro T w K hB hF hD hK
      have g75 := get_eq (hD 19 75 (by simp [Region.binds]) (by kernel_rfl)) s75
      have g81 := get_eq (hD 25 81 (by simp [Region.binds]) (by kernel_rfl)) s81
      refine ob_yes (wanted_none rfl) ?_
      clear hF hD
      go_simp
      exact hK _ _ (Below.refl _ _) (rt_eq s82)
    refine obs_cons ?_ ?_
    · intro T w K hB hF hD hK
      have g82 := get_eq (hD 26 82 (by simp [Region.binds]) (by kernel_rfl)) s82
      refine ob_yes (wanted_none rfl) ?_
      clear hF hD
      go_simp
      exact hK _ _ (Below.refl _ _) (rt_eq s83)
    refine obs_cons ?_ ?_
    · intro T w K hB hF hD hK
      have g83 := get_eq (hD 27 83 (by simp [Region.binds]) (by kernel_rfl)) s83
      have g9 : T[9]? = some (.pointer (some ⟨w5.heap.size, 0, none⟩)) := hF 9 (free_of (by kernel_rfl))
      refine ob_yes (wanted_yes rfl (by kernel_rfl) g83) ?_
      clear hF hD
      have c0 := cell_call k21 hB
      have c1 := cell_call k22 hB
      go_simp
      exact hK _ _ (Below.refl _ _) (rt_eq s84)
    refine obs_cons ?_ ?_
    · intro T w K hB hF hD hK
      have g83 := get_eq (hD 27 83 (by simp [Region.binds]) (by kernel_rfl)) s83
      have g7 : T[7]? = some (.pointer (some ⟨w3.heap.size, 0, none⟩)) := hF 7 (free_of (by kernel_rfl))
      refine ob_yes (wanted_yes rfl (by kernel_rfl) g83) ?_
      clear hF hD
      have c0 := cell_call k17 hB
      have c1 := cell_call k18 hB
      go_simp
      exact hK _ _ (Below.refl _ _) (rt_eq s85)
    refine obs_cons ?_ ?_
    · intro T w K hB hF hD hK
      have g83 := get_eq (hD 27 83 (by simp [Region.binds]) (by kernel_rfl)) s83
      have g8 : T[8]? = some (.pointer (some ⟨w4.heap.size, 0, none⟩)) := hF 8 (free_of (by kernel_rfl))
      refine ob_yes (wanted_yes rfl (by kernel_rfl) g83) ?_
      clear hF hD
      have c0 := cell_call k19 hB
      have c1 := cell_call k20 hB
      go_simp
      exact hK _ _ (Below.refl _ _) (rt_eq s86)
    refine obs_cons ?_ ?_
    · intro T w K hB hF hD hK
      have g83 := get_eq (hD 27 83 (by simp [Region.binds]) (by kernel_rfl)) s83
      have g84 := get_eq (hD 28 84 (by simp [Region.binds]) (by kernel_rfl)) s84
      have g85 := get_eq (hD 29 85 (by simp [Region.binds]) (by kernel_rfl)) s85
      have g86 := get_eq (hD 30 86 (by simp [Region.binds]) (by kernel_rfl)) s86
      refine ob_yes (wanted_yes rfl (by kernel_rfl) g83) ?_
      clear hF hD
      go_simp
      refine (orient_is p q a b c d o _ ip iq ia ib ic id Ecab).mono ?_; rintro e w9 ⟨rfl, hb⟩
      exact hK _ _ hb (rt_eq s87)
    refine obs_cons ?_ ?_
    · intro T w K hB hF hD hK
      have g83 := get_eq (hD 27 83 (by simp [Region.binds]) (by kernel_rfl)) s83
      have g11 : T[11]? = some (.int .i64 o) := hF 11 (free_of (by kernel_rfl))
      refine ob_yes (wanted_yes rfl (by kernel_rfl) g83) ?_
      clear hF hD
      go_simp
      exact hK _ _ (Below.refl _ _) (rt_eq s88)
    refine obs_cons ?_ ?_
    · intro T w K hB hF hD hK
      have g83 := get_eq (hD 27 83 (by simp [Region.binds]) (by kernel_rfl)) s83
      have g87 := get_eq (hD 31 87 (by simp [Region.binds]) (by kernel_rfl)) s87
      have g88 := get_eq (hD 32 88 (by simp [Region.binds]) (by kernel_rfl)) s88
      refine ob_yes (wanted_yes rfl (by kernel_rfl) g83) ?_
      clear hF hD
      go_simp
      exact hK _ _ (Below.refl _ _) (rt_eq s89)
    refine obs_cons ?_ ?_
    · intro T w K hB hF hD hK
      have g83 := get_eq (hD 27 83 (by simp [Region.binds]) (by kernel_rfl)) s83
      have g89 := get_eq (hD 33 89 (by simp [Region.binds]) (by kernel_rfl)) s89
      refine ob_yes (wanted_none rfl) ?_
      clear hF hD
      go_simp
      exact hK _ _ (Below.refl _ _) (rt_eq s90)
    refine obs_cons ?_ ?_
    · intro T w K hB hF hD hK
      have g90 := get_eq (hD 34 90 (by simp [Region.binds]) (by kernel_rfl)) s90
      refine ob_yes (wanted_none rfl) ?_
      clear hF hD
      go_simp
      exact hK _ _ (Below.refl _ _) (rt_eq s91)
    refine obs_cons ?_ ?_
    · intro T w K hB hF hD hK
      have g91 := get_eq (hD 35 91 (by simp [Region.binds]) (by kernel_rfl)) s91
      have g7 : T[7]? = some (.pointer (some ⟨w3.heap.size, 0, none⟩)) := hF 7 (free_of (by kernel_rfl))
      refine ob_yes (wanted_yes rfl (by kernel_rfl) g91) ?_
      clear hF hD
      have c0 := cell_call k17 hB
      have c1 := cell_call k18 hB
      go_simp
      exact hK _ _ (Below.refl _ _) (rt_eq s92)
    refine obs_cons ?_ ?_
    · intro T w K hB hF hD hK
      have g91 := get_eq (hD 35 91 (by simp [Region.binds]) (by kernel_rfl)) s91
      have g10 : T[10]? = some (.pointer (some ⟨w6.heap.size, 0, none⟩)) := hF 10 (free_of (by kernel_rfl))
      refine ob_yes (wanted_yes rfl (by kernel_rfl) g91) ?_
      clear hF hD
      have c0 := cell_call k23 hB
      have c1 := cell_call k24 hB
      go_simp
      exact hK _ _ (Below.refl _ _) (rt_eq s93)
    refine obs_cons ?_ ?_
    · intro T w K hB hF hD hK
      have g91 := get_eq (hD 35 91 (by simp [Region.binds]) (by kernel_rfl)) s91
      have g92 := get_eq (hD 36 92 (by simp [Region.binds]) (by kernel_rfl)) s92
      have g93 := get_eq (hD 37 93 (by simp [Region.binds]) (by kernel_rfl)) s93
      refine ob_yes (wanted_yes rfl (by kernel_rfl) g91) ?_
      clear hF hD
      go_simp
      refine (add_is a b u v aU bU _ ia ib iu iv HaU HbU).mono ?_; rintro e w9 ⟨rfl, hb⟩
      exact hK _ _ hb (rt_eq s94)
    refine obs_cons ?_ ?_
    · intro T w K hB hF hD hK
      have g91 := get_eq (hD 35 91 (by simp [Region.binds]) (by kernel_rfl)) s91
      have g8 : T[8]? = some (.pointer (some ⟨w4.heap.size, 0, none⟩)) := hF 8 (free_of (by kernel_rfl))
      refine ob_yes (wanted_yes rfl (by kernel_rfl) g91) ?_
      clear hF hD
      have c0 := cell_call k19 hB
      have c1 := cell_call k20 hB
      go_simp
      exact hK _ _ (Below.refl _ _) (rt_eq s95)
    refine obs_cons ?_ ?_
    · intro T w K hB hF hD hK
      have g91 := get_eq (hD 35 91 (by simp [Region.binds]) (by kernel_rfl)) s91
      have g10 : T[10]? = some (.pointer (some ⟨w6.heap.size, 0, none⟩)) := hF 10 (free_of (by kernel_rfl))
      refine ob_yes (wanted_yes rfl (by kernel_rfl) g91) ?_
      clear hF hD
      have c0 := cell_call k23 hB
      have c1 := cell_call k24 hB
      go_simp
      exact hK _ _ (Below.refl _ _) (rt_eq s96)
    refine obs_cons ?_ ?_
    · intro T w K hB hF hD hK
      have g91 := get_eq (hD 35 91 (by simp [Region.binds]) (by kernel_rfl)) s91
      have g95 := get_eq (hD 39 95 (by simp [Region.binds]) (by kernel_rfl)) s95
      have g96 := get_eq (hD 40 96 (by simp [Region.binds]) (by kernel_rfl)) s96
      refine ob_yes (wanted_yes rfl (by kernel_rfl) g91) ?_
      clear hF hD
      go_simp
      refine (add_is c d u v cU dU _ ic id iu iv HcU HdU).mono ?_; rintro e w9 ⟨rfl, hb⟩
      exact hK _ _ hb (rt_eq s97)
    refine obs_cons ?_ ?_
    · intro T w K hB hF hD hK
      have g91 := get_eq (hD 35 91 (by simp [Region.binds]) (by kernel_rfl)) s91
      have g9 : T[9]? = some (.pointer (some ⟨w5.heap.size, 0, none⟩)) := hF 9 (free_of (by kernel_rfl))
      refine ob_yes (wanted_yes rfl (by kernel_rfl) g91) ?_
      clear hF hD
      have c0 := cell_call k21 hB
      have c1 := cell_call k22 hB
      go_simp
      exact hK _ _ (Below.refl _ _) (rt_eq s98)
    refine obs_cons ?_ ?_
    · intro T w K hB hF hD hK
      have g91 := get_eq (hD 35 91 (by simp [Region.binds]) (by kernel_rfl)) s91
      have g10 : T[10]? = some (.pointer (some ⟨w6.heap.size, 0, none⟩)) := hF 10 (free_of (by kernel_rfl))
      refine ob_yes (wanted_yes rfl (by kernel_rfl) g91) ?_
      clear hF hD
      have c0 := cell_call k23 hB
      have c1 := cell_call k24 hB
      go_simp
      exact hK _ _ (Below.refl _ _) (rt_eq s99)
    refine obs_cons ?_ ?_
    · intro T w K hB hF hD hK
      have g91 := get_eq (hD 35 91 (by simp [Region.binds]) (by kernel_rfl)) s91
      have g98 := get_eq (hD 42 98 (by simp [Region.binds]) (by kernel_rfl)) s98
      have g99 := get_eq (hD 43 99 (by simp [Region.binds]) (by kernel_rfl)) s99
      refine ob_yes (wanted_yes rfl (by kernel_rfl) g91) ?_
      clear hF hD
      go_simp
      refine (add_is p q u v pU qU _ ip iq iu iv HpU HqU).mono ?_; rintro e w9 ⟨rfl, hb⟩
      exact hK _ _ hb (rt_eq s100)
    refine obs_cons ?_ ?_
    · intro T w K hB hF hD hK
      have g91 := get_eq (hD 35 91 (by simp [Region.binds]) (by kernel_rfl)) s91
      have g94 := get_eq (hD 38 94 (by simp [Region.binds]) (by kernel_rfl)) s94
      have g97 := get_eq (hD 41 97 (by simp [Region.binds]) (by kernel_rfl)) s97
      have g100 := get_eq (hD 44 100 (by simp [Region.binds]) (by kernel_rfl)) s100
      refine ob_yes (wanted_yes rfl (by kernel_rfl) g91) ?_
      clear hF hD
      go_simp
      refine (orient_is aU bU cU dU pU qU o _ jaU jbU jcU jdU jpU jqU EU).mono ?_; rintro e w9 ⟨rfl, hb⟩
      exact hK _ _ hb (rt_eq s101)
    refine obs_cons ?_ ?_
    · intro T w K hB hF hD hK
      have g91 := get_eq (hD 35 91 (by simp [Region.binds]) (by kernel_rfl)) s91
      have g11 : T[11]? = some (.int .i64 o) := hF 11 (free_of (by kernel_rfl))
      refine ob_yes (wanted_yes rfl (by kernel_rfl) g91) ?_
      clear hF hD
      go_simp
      exact hK _ _ (Below.refl _ _) (rt_eq s102)
    refine obs_cons ?_ ?_
    · intro T w K hB hF hD hK
      have g91 := get_eq (hD 35 91 (by simp [Region.binds]) (by kernel_rfl)) s91
      have g101 := get_eq (hD 45 101 (by simp [Region.binds]) (by kernel_rfl)) s101
      have g102 := get_eq (hD 46 102 (by simp [Region.binds]) (by kernel_rfl)) s102
      refine ob_yes (wanted_yes rfl (by kernel_rfl) g91) ?_
      clear hF hD
      go_simp
      exact hK _ _ (Below.refl _ _) (rt_eq s103)
    refine obs_cons ?_ ?_
    · intro T w K hB hF hD hK
      have g91 := get_eq (hD 35 91 (by simp [Region.binds]) (by kernel_rfl)) s91
      have g103 := get_eq (hD 47 103 (by simp [Region.binds]) (by kernel_rfl)) s103
      refine ob_yes (wanted_none rfl) ?_
      clear hF hD
      go_simp
      exact hK _ _ (Below.refl _ _) (rt_eq s104)
    refine obs_cons ?_ ?_
    · intro T w K hB hF hD hK
      have g104 := get_eq (hD 48 104 (by simp [Region.binds]) (by kernel_rfl)) s104
      refine ob_yes (wanted_none rfl) ?_
      clear hF hD
      go_simp
      exact hK _ _ (Below.refl _ _) (rt_eq s105)
    refine obs_cons ?_ ?_
    · intro T w K hB hF hD hK
      have g105 := get_eq (hD 49 105 (by simp [Region.binds]) (by kernel_rfl)) s105
      have g7 : T[7]? = some (.pointer (some ⟨w3.heap.size, 0, none⟩)) := hF 7 (free_of (by kernel_rfl))
      refine ob_yes (wanted_yes rfl (by kernel_rfl) g105) ?_
      clear hF hD
      have c0 := cell_call k17 hB
      have c1 := cell_call k18 hB
      go_simp
      exact hK _ _ (Below.refl _ _) (rt_eq s106)
    refine obs_cons ?_ ?_
    · intro T w K hB hF hD hK
      have g105 := get_eq (hD 49 105 (by simp [Region.binds]) (by kernel_rfl)) s105
      have g10 : T[10]? = some (.pointer (some ⟨w6.heap.size, 0, none⟩)) := hF 10 (free_of (by kernel_rfl))
      refine ob_yes (wanted_yes rfl (by kernel_rfl) g105) ?_
      clear hF hD
      have c0 := cell_call k23 hB
      have c1 := cell_call k24 hB
      go_simp
      exact hK _ _ (Below.refl _ _) (rt_eq s107)
    refine obs_cons ?_ ?_
    · intro T w K hB hF hD hK
      have g105 := get_eq (hD 49 105 (by simp [Region.binds]) (by kernel_rfl)) s105
      have g106 := get_eq (hD 50 106 (by simp [Region.binds]) (by kernel_rfl)) s106
      have g107 := get_eq (hD 51 107 (by simp [Region.binds]) (by kernel_rfl)) s107
      refine ob_yes (wanted_yes rfl (by kernel_rfl) g105) ?_
      clear hF hD
      go_simp
      refine (sub_is a b u v aM bM _ ia ib iu iv HaM HbM).mono ?_; rintro e w9 ⟨rfl, hb⟩
      exact hK _ _ hb (rt_eq s108)
    refine obs_cons ?_ ?_
    · intro T w K hB hF hD hK
      have g105 := get_eq (hD 49 105 (by simp [Region.binds]) (by kernel_rfl)) s105
      have g8 : T[8]? = some (.pointer (some ⟨w4.heap.size, 0, none⟩)) := hF 8 (free_of (by kernel_rfl))
      refine ob_yes (wanted_yes rfl (by kernel_rfl) g105) ?_
      clear hF hD
      have c0 := cell_call k19 hB
      have c1 := cell_call k20 hB
      go_simp
      exact hK _ _ (Below.refl _ _) (rt_eq s109)
    refine obs_cons ?_ ?_
    · intro T w K hB hF hD hK
      have g105 := get_eq (hD 49 105 (by simp [Region.binds]) (by kernel_rfl)) s105
      have g10 : T[10]? = some (.pointer (some ⟨w6.heap.size, 0, none⟩)) := hF 10 (free_of (by kernel_rfl))
      refine ob_yes (wanted_yes rfl (by kernel_rfl) g105) ?_
      clear hF hD
      have c0 := cell_call k23 hB
      have c1 := cell_call k24 hB
      go_simp
      exact hK _ _ (Below.refl _ _) (rt_eq s110)
    refine obs_cons ?_ ?_
    · intro T w K hB hF hD hK
      have g105 := get_eq (hD 49 105 (by simp [Region.binds]) (by kernel_rfl)) s105
      have g109 := get_eq (hD 53 109 (by simp [Region.binds]) (by kernel_rfl)) s109
      have g110 := get_eq (hD 54 110 (by simp [Region.binds]) (by kernel_rfl)) s110
      refine ob_yes (wanted_yes rfl (by kernel_rfl) g105) ?_
      clear hF hD
      go_simp
      refine (sub_is c d u v cM dM _ ic id iu iv HcM HdM).mono ?_; rintro e w9 ⟨rfl, hb⟩
      exact hK _ _ hb (rt_eq s111)
    refine obs_cons ?_ ?_
    · intro T w K hB hF hD hK
      have g105 := get_eq (hD 49 105 (by simp [Region.binds]) (by kernel_rfl)) s105
      have g9 : T[9]? = some (.pointer (some ⟨w5.heap.size, 0, none⟩)) := hF 9 (free_of (by kernel_rfl))
      refine ob_yes (wanted_yes rfl (by kernel_rfl) g105) ?_
      clear hF hD
      have c0 := cell_call k21 hB
      have c1 := cell_call k22 hB
      go_simp
      exact hK _ _ (Below.refl _ _) (rt_eq s112)
    refine obs_cons ?_ ?_
    · intro T w K hB hF hD hK
      have g105 := get_eq (hD 49 105 (by simp [Region.binds]) (by kernel_rfl)) s105
      have g10 : T[10]? = some (.pointer (some ⟨w6.heap.size, 0, none⟩)) := hF 10 (free_of (by kernel_rfl))
      refine ob_yes (wanted_yes rfl (by kernel_rfl) g105) ?_
      clear hF hD
      have c0 := cell_call k23 hB
      have c1 := cell_call k24 hB
      go_simp
      exact hK _ _ (Below.refl _ _) (rt_eq s113)
    refine obs_cons ?_ ?_
    · intro T w K hB hF hD hK
      have g105 := get_eq (hD 49 105 (by simp [Region.binds]) (by kernel_rfl)) s105
      have g112 := get_eq (hD 56 112 (by simp [Region.binds]) (by kernel_rfl)) s112
      have g113 := get_eq (hD 57 113 (by simp [Region.binds]) (by kernel_rfl)) s113
      refine ob_yes (wanted_yes rfl (by kernel_rfl) g105) ?_
      clear hF hD
      go_simp
      refine (sub_is p q u v pM qM _ ip iq iu iv HpM HqM).mono ?_; rintro e w9 ⟨rfl, hb⟩
      exact hK _ _ hb (rt_eq s114)
    refine obs_cons ?_ ?_
    · intro T w K hB hF hD hK
      have g105 := get_eq (hD 49 105 (by simp [Region.binds]) (by kernel_rfl)) s105
      have g108 := get_eq (hD 52 108 (by simp [Region.binds]) (by kernel_rfl)) s108
      have g111 := get_eq (hD 55 111 (by simp [Region.binds]) (by kernel_rfl)) s111
      have g114 := get_eq (hD 58 114 (by simp [Region.binds]) (by kernel_rfl)) s114
      refine ob_yes (wanted_yes rfl (by kernel_rfl) g105) ?_
      clear hF hD
      go_simp
      refine (orient_is aM bM cM dM pM qM o _ jaM jbM jcM jdM jpM jqM EM).mono ?_; rintro e w9 ⟨rfl, hb⟩
      exact hK _ _ hb (rt_eq s115)
    refine obs_cons ?_ ?_
    · intro T w K hB hF hD hK
      have g105 := get_eq (hD 49 105 (by simp [Region.binds]) (by kernel_rfl)) s105
      have g11 : T[11]? = some (.int .i64 o) := hF 11 (free_of (by kernel_rfl))
      refine ob_yes (wanted_yes rfl (by kernel_rfl) g105) ?_
      clear hF hD
      go_simp
      exact hK _ _ (Below.refl _ _) (rt_eq s116)
    refine obs_cons ?_ ?_
    · intro T w K hB hF hD hK
      have g105 := get_eq (hD 49 105 (by simp [Region.binds]) (by kernel_rfl)) s105
      have g115 := get_eq (hD 59 115 (by simp [Region.binds]) (by kernel_rfl)) s115
      have g116 := get_eq (hD 60 116 (by simp [Region.binds]) (by kernel_rfl)) s116
      refine ob_yes (wanted_yes rfl (by kernel_rfl) g105) ?_
      clear hF hD
      go_simp
      exact hK _ _ (Below.refl _ _) (rt_eq s117)
    refine obs_cons ?_ ?_
    · intro T w K hB hF hD hK
      have g105 := get_eq (hD 49 105 (by simp [Region.binds]) (by kernel_rfl)) s105
      have g117 := get_eq (hD 61 117 (by simp [Region.binds]) (by kernel_rfl)) s117
      refine ob_yes (wanted_none rfl) ?_
      clear hF hD
      go_simp
      exact hK _ _ (Below.refl _ _) (rt_eq s118)
    refine obs_cons ?_ ?_
    · intro T w K hB hF hD hK
      have g118 := get_eq (hD 62 118 (by simp [Region.binds]) (by kernel_rfl)) s118
      refine ob_yes (wanted_none rfl) ?_
      clear hF hD
      go_simp
      exact hK _ _ (Below.refl _ _) (rt_eq s119)
    refine obs_cons ?_ ?_
    · intro T w K hB hF hD hK
      have g119 := get_eq (hD 63 119 (by simp [Region.binds]) (by kernel_rfl)) s119
      have g7 : T[7]? = some (.pointer (some ⟨w3.heap.size, 0, none⟩)) := hF 7 (free_of (by kernel_rfl))
      refine ob_yes (wanted_yes rfl (by kernel_rfl) g119) ?_
      clear hF hD
      have c0 := cell_call k17 hB
      have c1 := cell_call k18 hB
      go_simp
      exact hK _ _ (Below.refl _ _) (rt_eq s120)
    refine obs_cons ?_ ?_
    · intro T w K hB hF hD hK
      have g119 := get_eq (hD 63 119 (by simp [Region.binds]) (by kernel_rfl)) s119
      have g120 := get_eq (hD 64 120 (by simp [Region.binds]) (by kernel_rfl)) s120
      refine ob_yes (wanted_yes rfl (by kernel_rfl) g119) ?_
      clear hF hD
      go_simp
      refine (quarter_is a b bn _ ib Hbn).mono ?_; rintro e w9 ⟨rfl, hb⟩
      exact hK _ _ hb (rt_eq s121)
    refine obs_cons ?_ ?_
    · intro T w K hB hF hD hK
      have g119 := get_eq (hD 63 119 (by simp [Region.binds]) (by kernel_rfl)) s119
      have g8 : T[8]? = some (.pointer (some ⟨w4.heap.size, 0, none⟩)) := hF 8 (free_of (by kernel_rfl))
      refine ob_yes (wanted_yes rfl (by kernel_rfl) g119) ?_
      clear hF hD
      have c0 := cell_call k19 hB
      have c1 := cell_call k20 hB
      go_simp
      exact hK _ _ (Below.refl _ _) (rt_eq s122)
    refine obs_cons ?_ ?_
    · intro T w K hB hF hD hK
      have g119 := get_eq (hD 63 119 (by simp [Region.binds]) (by kernel_rfl)) s119
      have g122 := get_eq (hD 66 122 (by simp [Region.binds]) (by kernel_rfl)) s122
      refine ob_yes (wanted_yes rfl (by kernel_rfl) g119) ?_
      clear hF hD
      go_simp
      refine (quarter_is c d dn _ id Hdn).mono ?_; rintro e w9 ⟨rfl, hb⟩
      exact hK _ _ hb (rt_eq s123)
    refine obs_cons ?_ ?_
    · intro T w K hB hF hD hK
      have g119 := get_eq (hD 63 119 (by simp [Region.binds]) (by kernel_rfl)) s119
      have g9 : T[9]? = some (.pointer (some ⟨w5.heap.size, 0, none⟩)) := hF 9 (free_of (by kernel_rfl))
      refine ob_yes (wanted_yes rfl (by kernel_rfl) g119) ?_
      clear hF hD
      have c0 := cell_call k21 hB
      have c1 := cell_call k22 hB
      go_simp
      exact hK _ _ (Below.refl _ _) (rt_eq s124)
    refine obs_cons ?_ ?_
    · intro T w K hB hF hD hK
      have g119 := get_eq (hD 63 119 (by simp [Region.binds]) (by kernel_rfl)) s119
      have g124 := get_eq (hD 68 124 (by simp [Region.binds]) (by kernel_rfl)) s124
      refine ob_yes (wanted_yes rfl (by kernel_rfl) g119) ?_
      clear hF hD
      go_simp
      refine (quarter_is p q qn _ iq Hqn).mono ?_; rintro e w9 ⟨rfl, hb⟩
      exact hK _ _ hb (rt_eq s125)
    refine obs_cons ?_ ?_
    · intro T w K hB hF hD hK
      have g119 := get_eq (hD 63 119 (by simp [Region.binds]) (by kernel_rfl)) s119
      have g121 := get_eq (hD 65 121 (by simp [Region.binds]) (by kernel_rfl)) s121
      have g123 := get_eq (hD 67 123 (by simp [Region.binds]) (by kernel_rfl)) s123
      have g125 := get_eq (hD 69 125 (by simp [Region.binds]) (by kernel_rfl)) s125
      refine ob_yes (wanted_yes rfl (by kernel_rfl) g119) ?_
      clear hF hD
      go_simp
      refine (orient_is bn a dn c qn p o _ jbn ia jdn ic jqn ip En).mono ?_; rintro e w9 ⟨rfl, hb⟩
      exact hK _ _ hb (rt_eq s126)
    refine obs_cons ?_ ?_
    · intro T w K hB hF hD hK
      have g119 := get_eq (hD 63 119 (by simp [Region.binds]) (by kernel_rfl)) s119
      have g11 : T[11]? = some (.int .i64 o) := hF 11 (free_of (by kernel_rfl))
      refine ob_yes (wanted_yes rfl (by kernel_rfl) g119) ?_
      clear hF hD
      go_simp
      exact hK _ _ (Below.refl _ _) (rt_eq s127)
    refine obs_cons ?_ ?_
    · intro T w K hB hF hD hK
      have g119 := get_eq (hD 63 119 (by simp [Region.binds]) (by kernel_rfl)) s119
      have g126 := get_eq (hD 70 126 (by simp [Region.binds]) (by kernel_rfl)) s126
      have g127 := get_eq (hD 71 127 (by simp [Region.binds]) (by kernel_rfl)) s127
      refine ob_yes (wanted_yes rfl (by kernel_rfl) g119) ?_
      clear hF hD
      go_simp
      exact hK _ _ (Below.refl _ _) (rt_eq s128)
    refine obs_cons ?_ ?_
    · intro T w K hB hF hD hK
      have g119 := get_eq (hD 63 119 (by simp [Region.binds]) (by kernel_rfl)) s119
      have g128 := get_eq (hD 72 128 (by simp [Region.binds]) (by kernel_rfl)) s128
      refine ob_yes (wanted_none rfl) ?_
      clear hF hD
      go_simp
      exact hK _ _ (Below.refl _ _) (rt_eq s129)
    refine obs_cons ?_ ?_
    · intro T w K hB hF hD hK
      have g129 := get_eq (hD 73 129 (by simp [Region.binds]) (by kernel_rfl)) s129
      refine ob_yes (wanted_none rfl) ?_
      clear hF hD
      go_simp
      exact hK _ _ (Below.refl _ _) (rt_eq s130)
    refine obs_cons ?_ ?_
    · intro T w K hB hF hD hK
      have g130 := get_eq (hD 74 130 (by simp [Region.binds]) (by kernel_rfl)) s130
      have g7 : T[7]? = some (.pointer (some ⟨w3.heap.size, 0, none⟩)) := hF 7 (free_of (by kernel_rfl))
      refine ob_yes (wanted_yes rfl (by kernel_rfl) g130) ?_
      clear hF hD
      have c0 := cell_call k17 hB
      have c1 := cell_call k18 hB
      go_simp
      exact hK _ _ (Below.refl _ _) (rt_eq s131)
    refine obs_cons ?_ ?_
    · intro T w K hB hF hD hK
      have g130 := get_eq (hD 74 130 (by simp [Region.binds]) (by kernel_rfl)) s130
      have g7 : T[7]? = some (.pointer (some ⟨w3.heap.size, 0, none⟩)) := hF 7 (free_of (by kernel_rfl))
      refine ob_yes (wanted_yes rfl (by kernel_rfl) g130) ?_
      clear hF hD
      have c0 := cell_call k17 hB
      have c1 := cell_call k18 hB
      go_simp
      exact hK _ _ (Below.refl _ _) (rt_eq s132)
    refine obs_cons ?_ ?_
    · intro T w K hB hF hD hK
      have g130 := get_eq (hD 74 130 (by simp [Region.binds]) (by kernel_rfl)) s130
      have g9 : T[9]? = some (.pointer (some ⟨w5.heap.size, 0, none⟩)) := hF 9 (free_of (by kernel_rfl))
      refine ob_yes (wanted_yes rfl (by kernel_rfl) g130) ?_
      clear hF hD
      have c0 := cell_call k21 hB
      have c1 := cell_call k22 hB
      go_simp
      exact hK _ _ (Below.refl _ _) (rt_eq s133)
    refine obs_cons ?_ ?_
    · intro T w K hB hF hD hK
      have g130 := get_eq (hD 74 130 (by simp [Region.binds]) (by kernel_rfl)) s130
      have g131 := get_eq (hD 75 131 (by simp [Region.binds]) (by kernel_rfl)) s131
      have g132 := get_eq (hD 76 132 (by simp [Region.binds]) (by kernel_rfl)) s132
      have g133 := get_eq (hD 77 133 (by simp [Region.binds]) (by kernel_rfl)) s133
      refine ob_yes (wanted_yes rfl (by kernel_rfl) g130) ?_
      clear hF hD
      go_simp
      refine (orient_is a b a b p q 0 _ ia ib ia ib ip iq Eaa).mono ?_; rintro e w9 ⟨rfl, hb⟩
      exact hK _ _ hb (rt_eq s134)
    refine obs_cons ?_ ?_
    · intro T w K hB hF hD hK
      have g130 := get_eq (hD 74 130 (by simp [Region.binds]) (by kernel_rfl)) s130
      have g134 := get_eq (hD 78 134 (by simp [Region.binds]) (by kernel_rfl)) s134
      refine ob_yes (wanted_yes rfl (by kernel_rfl) g130) ?_
      clear hF hD
      go_simp
      exact hK _ _ (Below.refl _ _) (rt_eq s135)
    refine obs_cons ?_ ?_
    · intro T w K hB hF hD hK
      have g130 := get_eq (hD 74 130 (by simp [Region.binds]) (by kernel_rfl)) s130
      have g135 := get_eq (hD 79 135 (by simp [Region.binds]) (by kernel_rfl)) s135
      refine ob_yes (wanted_none rfl) ?_
      clear hF hD
      go_simp
      exact hK _ _ (Below.refl _ _) (rt_eq s136)
    refine obs_cons ?_ ?_
    · intro T w K hB hF hD hK
      have g136 := get_eq (hD 80 136 (by simp [Region.binds]) (by kernel_rfl)) s136
      refine ob_yes (wanted_none rfl) ?_
      clear hF hD
      go_simp
      exact hK _ _ (Below.refl _ _) (rt_eq s137)
    refine obs_cons ?_ ?_
    · intro T w K hB hF hD hK
      have g137 := get_eq (hD 81 137 (by simp [Region.binds]) (by kernel_rfl)) s137
      have g7 : T[7]? = some (.pointer (some ⟨w3.heap.size, 0, none⟩)) := hF 7 (free_of (by kernel_rfl))
      refine ob_yes (wanted_yes rfl (by kernel_rfl) g137) ?_
      clear hF hD
      have c0 := cell_call k17 hB
      have c1 := cell_call k18 hB
      go_simp
      exact hK _ _ (Below.refl _ _) (rt_eq s138)
    refine obs_cons ?_ ?_
    · intro T w K hB hF hD hK
      have g137 := get_eq (hD 81 137 (by simp [Region.binds]) (by kernel_rfl)) s137
      have g8 : T[8]? = some (.pointer (some ⟨w4.heap.size, 0, none⟩)) := hF 8 (free_of (by kernel_rfl))
      refine ob_yes (wanted_yes rfl (by kernel_rfl) g137) ?_
      clear hF hD
      have c0 := cell_call k19 hB
      have c1 := cell_call k20 hB
      go_simp
      exact hK _ _ (Below.refl _ _) (rt_eq s139)
    refine obs_cons ?_ ?_
    · intro T w K hB hF hD hK
      have g137 := get_eq (hD 81 137 (by simp [Region.binds]) (by kernel_rfl)) s137
      have g8 : T[8]? = some (.pointer (some ⟨w4.heap.size, 0, none⟩)) := hF 8 (free_of (by kernel_rfl))
      refine ob_yes (wanted_yes rfl (by kernel_rfl) g137) ?_
      clear hF hD
      have c0 := cell_call k19 hB
      have c1 := cell_call k20 hB
      go_simp
      exact hK _ _ (Below.refl _ _) (rt_eq s140)
    refine obs_cons ?_ ?_
    · intro T w K hB hF hD hK
      have g137 := get_eq (hD 81 137 (by simp [Region.binds]) (by kernel_rfl)) s137
      have g138 := get_eq (hD 82 138 (by simp [Region.binds]) (by kernel_rfl)) s138
      have g139 := get_eq (hD 83 139 (by simp [Region.binds]) (by kernel_rfl)) s139
      have g140 := get_eq (hD 84 140 (by simp [Region.binds]) (by kernel_rfl)) s140
      refine ob_yes (wanted_yes rfl (by kernel_rfl) g137) ?_
      clear hF hD
      go_simp
      refine (orient_is a b c d c d 0 _ ia ib ic id ic id Ebb).mono ?_; rintro e w9 ⟨rfl, hb⟩
      exact hK _ _ hb (rt_eq s141)
    refine obs_cons ?_ ?_
    · intro T w K hB hF hD hK
      have g137 := get_eq (hD 81 137 (by simp [Region.binds]) (by kernel_rfl)) s137
      have g141 := get_eq (hD 85 141 (by simp [Region.binds]) (by kernel_rfl)) s141
      refine ob_yes (wanted_yes rfl (by kernel_rfl) g137) ?_
      clear hF hD
      go_simp
      exact hK _ _ (Below.refl _ _) (rt_eq s142)
    refine obs_cons ?_ ?_
    · intro T w K hB hF hD hK
      have g137 := get_eq (hD 81 137 (by simp [Region.binds]) (by kernel_rfl)) s137
      have g142 := get_eq (hD 86 142 (by simp [Region.binds]) (by kernel_rfl)) s142
      refine ob_yes (wanted_none rfl) ?_
      clear hF hD
      go_simp
      exact hK _ _ (Below.refl _ _) (rt_eq s143)
    refine obs_cons ?_ ?_
    · intro T w K hB hF hD hK
      have g143 := get_eq (hD 87 143 (by simp [Region.binds]) (by kernel_rfl)) s143
      refine ob_yes (wanted_none rfl) ?_
      clear hF hD
      go_simp
      exact hK _ _ (Below.refl _ _) (rt_eq s4)
    exact obs_nil
  · intro T w' hb hF hs hD
    have g4 := get_eq (hD 88 4 (by kernel_rfl)) s4
    have fin := Lib.hid (hB.trans (hb.mono hB.size))
    clear hF hD hs hb
    go_wp2_with fail
    refine bodyPost_ret (v := .bool true) (by simp [results, Try.results4, go_sem, g4]) rfl ?_
    exact ⟨rfl, fin.out⟩

theorem walk (x0 x1 x2 x3 x4 x5 x6 x7 : Int) (s : Bool) (w : World) :
    Calls Try.prog 4 #[.agg #[.int .i64 x0, .int .i64 x1, .int .i64 x2, .int .i64 x3, .int .i64 x4, .int .i64 x5, .int .i64 x6, .int .i64 x7], .bool s] w fun e w' => e = .returned (.bool true) ∧ Below w.heap.size w w' := by
  obtain ⟨y0, y1, y2, y3, y4, y5, y6, y7, ⟨b0, b1, b2, b3, b4, b5, b6, b7⟩, HP⟩ := pick_is x0 x1 x2 x3 x4 x5 x6 x7 s
  exact walk_y x0 x1 x2 x3 x4 x5 x6 x7 s w y0 y1 y2 y3 y4 y5 y6 y7 b0 b1 b2 b3 b4 b5 b6 b7 HP

set_option maxRecDepth 100000 in
theorem lifted (os : Os) (started : os.Started) (H : Type) (enc : TypeId × Value → H) :
    ReturnsInHanded {} Try.checked os 4 .any (Rows.geomSidesSpec.pre6 enc Try.prog Try.f4 Rows.geomSidesRow.domain false) (Rows.geomSidesSpec.post enc Try.prog Try.f4 false true false false) := by
  refine returnsInHanded_of_change (C := Try.checked) own started (by kernel_rfl) Try.func4
    (ChangeSpec.witness6 (enc := enc) (C := Try.checked) false ⟨#[], #[.agg #[.int .i64 0, .int .i64 0, .int .i64 0, .int .i64 0, .int .i64 0, .int .i64 0, .int .i64 0, .int .i64 0], .bool false], []⟩ 8 (by kernel_rfl) (by kernel_rfl) (by kernel_rfl) (by kernel_rfl)) ?_
  intro W base args ds gs before hval0 hW hcnd _
  have hval : ∀ (j : Nat) t v, Try.f4.params[j]? = some t → args[j]? = some v → Value.okWide Try.prog W .any base t v := hval0
  have hW' := hW
  obtain ⟨p, q, hA0, hV, rfl, hfz, hnd⟩ := hW
  have hA : DataW.TrodAll enc Try.prog W 0 (fun _ => true) true Try.f4.params.toList args.toList ds p := hA0
  rw [Try.params4] at hA hval
  obtain ⟨v0, vs0, d0, ds0, p0, q0, hargs, rfl, rfl, h0, r0⟩ := trodAll_cons hA
  obtain ⟨v1, vs1, d1, ds1, p1, q1, rfl, rfl, rfl, h1, r1⟩ := trodAll_cons r0
  obtain ⟨rfl, rfl, rfl⟩ := trodAll_nil r1
  obtain rfl : args = #[v0, v1] := by cases args; simp_all
  obtain ⟨rfl, rfl⟩ := trodVars_none hV
  have k0 := h0
  have lt0 : ∀ x ∈ p0, x.block < W.heap.size := by obtain ⟨m, hm⟩ := k0; exact DataW.trod_lt m _ _ _ hm
  obtain ⟨x00, x01, x02, x03, x04, x05, x06, x07, rfl⟩ := open_four (hval 0 24 v0 rfl rfl) h0
  obtain ⟨a1, rfl, rfl, rfl⟩ := open_bool Try.underlying4 (hval 1 4 v1 rfl rfl) h1
  clear hA0 hval0
  refine (walk x00 x01 x02 x03 x04 x05 x06 x07 a1 W).mono fun e W' ⟨he, bel⟩ => ?_
  subst he
  exact ⟨_, rfl, _, _, _, [], _, [], hW', trodAll_mk1 (shut_bool Try.underlying4 _), (trodAll_cons_mk (Below.trod laidOut (by kernel_rfl) (of_decide_eq_true (by kernel_rfl)) k0 bel lt0) (trodAll_cons_mk (shut_bool Try.underlying4 _) trodAll_mk0)), rfl, bel.frame _, fun h => by cases h⟩

/-- THE STATEMENT. -/
theorem holds : Rows.GeomSidesSaid :=
  OpenClaim.holds_of_wide 4 Try.f4 rfl rfl rfl rfl rfl rfl rfl ⟨rfl, rfl, rfl, rfl, rfl⟩ rfl rfl rfl rfl rfl (by kernel_rfl) Try.func4 (by kernel_rfl)
    (of_decide_eq_true (by kernel_rfl)) (by unfold Func.isWrapper; first | (rw [if_pos (by decide +kernel)]; kernel_rfl) | (rw [if_neg (by decide +kernel)]; exact ⟨rfl, rfl⟩))
    (fun os started H enc _ => lifted os started H enc)
#print axioms holds
end Go.Proofs.Ytbkbdejmnhpdeaa.geomSides
