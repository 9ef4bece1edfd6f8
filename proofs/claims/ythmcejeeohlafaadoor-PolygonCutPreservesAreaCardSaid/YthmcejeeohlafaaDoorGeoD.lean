/- Contract of package geom: SegmentsIntersect. No condition on memory; the coordinates are bounded. -/
import Derived.Test.YthmcejeeohlafaaDoorGeoC
namespace Go.Proofs.YthmcejeeohlafaaDoor
open Go.ChangeShapes Go.WideShapes Go.ChangeAt Go.RowKit

theorem cbx (w : World) (vs : Array Value) (T : TypeId) (n j : Nat) (v : Value) (h : w.heap.size = n) (hj : vs[j]? = some v) : (w.alloc (.cells vs T)).cell? ⟨n, j, none⟩ = some v := by
  subst h
  simp [hj]
/-- Do the points lie on opposite sides? -/
def oppB (x y : Int) : Bool := decide (x * y < 0)

set_option maxHeartbeats 2000000 in
theorem clos_true (a b c d p q r s : Int) (w : World) (g h : Nat) (ia : InR a) (ib : InR b) (ic : InR c) (id : InR d) (ip : InR p) (iq : InR q) (ir : InR r) (is : InR s) (k1 : w.cell? ⟨g, 0, none⟩ = some (.int .i64 a)) (k2 : w.cell? ⟨g, 1, none⟩ = some (.int .i64 b)) (k3 : w.cell? ⟨h, 0, none⟩ = some (.int .i64 c)) (k4 : w.cell? ⟨h, 1, none⟩ = some (.int .i64 d)) (T : Hid (onB a b c d p q = true)) :
    Calls Tryd.prog 50 #[.agg #[.int .i64 p, .int .i64 q], .agg #[.int .i64 r, .int .i64 s], .pointer (some ⟨g, 0, none⟩), .pointer (some ⟨h, 0, none⟩)] w fun e w' => e = .returned (.tuple #[.bool (true), .bool (oppB (ori a b c d p q) (ori a b c d r s))]) ∧ Below w.heap.size w w' := by
  have O1 := onseg_any a b c d p q
  rw [T.out] at O1
  have HO := Lib.hid O1
  clear O1
  obtain ⟨o1, ho1⟩ : ∃ x, x = ori a b c d p q := ⟨_, rfl⟩
  obtain ⟨o2, ho2⟩ : ∃ x, x = ori a b c d r s := ⟨_, rfl⟩
  obtain ⟨e1, e2⟩ : -1 ≤ o1 ∧ o1 ≤ 1 := by rw [ho1]; exact cmpI_bd _ _
  obtain ⟨e3, e4⟩ : -1 ≤ o2 ∧ o2 ≤ 1 := by rw [ho2]; exact cmpI_bd _ _
  obtain ⟨m1, m2⟩ := mul_bd (x := o1) (c := o2) (B := 1) (C := 1) ⟨e1, e2⟩ ⟨e3, e4⟩
  have R1 := fun w => orient_any a b c d p q w ia ib ic id ip iq
  have R2 := fun w => orient_any a b c d r s w ia ib ic id ir is
  rw [← ho1] at R1 ⊢
  rw [← ho2] at R2 ⊢
  have H1 := Lib.hid R1
  have H2 := Lib.hid R2
  have MW : Hid (IntKind.i64.wrap (o1 * o2) = o1 * o2) := Lib.hid (IntWalk.i64_in _ (by omega))
  clear ho1 ho2 R1 R2 m1 m2 e1 e2 e3 e4
  have hB : Below w.heap.size w w := Below.refl _ _
  have zk1 := World.block_lt_of_cell? w _ k1
  have zk3 := World.block_lt_of_cell? w _ k3
  go_enter Tryd.func50, Tryd.ntmps50
  go_wp2_with fail
  refine (HO.out _ ia ib ic id ip iq).mono ?_; rintro e w1 ⟨rfl, hb⟩
  replace k1 : w1.cell? ⟨g, 0, none⟩ = some (.int .i64 a) := cell_call (cell_alloc (cell_alloc k1 _) _) hb
  replace k2 : w1.cell? ⟨g, 1, none⟩ = some (.int .i64 b) := cell_call (cell_alloc (cell_alloc k2 _) _) hb
  replace k3 : w1.cell? ⟨h, 0, none⟩ = some (.int .i64 c) := cell_call (cell_alloc (cell_alloc k3 _) _) hb
  replace k4 : w1.cell? ⟨h, 1, none⟩ = some (.int .i64 d) := cell_call (cell_alloc (cell_alloc k4 _) _) hb
  have k5 : w1.cell? ⟨w.heap.size, 0, none⟩ = some (.int .i64 p) := cell_call (cell_alloc (cbx w #[.int .i64 p, .int .i64 q] 25 (w.heap.size) 0 (.int .i64 p) (by simp) rfl) _) hb
  have k6 : w1.cell? ⟨w.heap.size, 1, none⟩ = some (.int .i64 q) := cell_call (cell_alloc (cbx w #[.int .i64 p, .int .i64 q] 25 (w.heap.size) 1 (.int .i64 q) (by simp) rfl) _) hb
  have k7 : w1.cell? ⟨w.heap.size + 1, 0, none⟩ = some (.int .i64 r) := cell_call (cbx (w.alloc (.cells #[.int .i64 p, .int .i64 q] 25)) #[.int .i64 r, .int .i64 s] 25 (w.heap.size + 1) 0 (.int .i64 r) (by simp) rfl) hb
  have k8 : w1.cell? ⟨w.heap.size + 1, 1, none⟩ = some (.int .i64 s) := cell_call (cbx (w.alloc (.cells #[.int .i64 p, .int .i64 q] 25)) #[.int .i64 r, .int .i64 s] 25 (w.heap.size + 1) 1 (.int .i64 s) (by simp) rfl) hb
  replace hB := belT (belA (belA hB _) _) hb
  clear hb
  have zk1 : g < w1.heap.size := World.block_lt_of_cell? w1 _ k1
  have zk3 : h < w1.heap.size := World.block_lt_of_cell? w1 _ k3
  have zk5 : w.heap.size < w1.heap.size := World.block_lt_of_cell? w1 _ k5
  have zk7 : w.heap.size + 1 < w1.heap.size := World.block_lt_of_cell? w1 _ k7
  go_wp2_with fail
  clear HO ia ib ic id ip iq ir is T
  have hS : Hid (∀ w', Below w1.heap.size w1 w' → w'.cell? ⟨g, 0, none⟩ = some (.int .i64 a) ∧ w'.cell? ⟨g, 1, none⟩ = some (.int .i64 b) ∧ w'.cell? ⟨h, 0, none⟩ = some (.int .i64 c) ∧ w'.cell? ⟨h, 1, none⟩ = some (.int .i64 d) ∧ w'.cell? ⟨w.heap.size, 0, none⟩ = some (.int .i64 p) ∧ w'.cell? ⟨w.heap.size, 1, none⟩ = some (.int .i64 q) ∧ w'.cell? ⟨w.heap.size + 1, 0, none⟩ = some (.int .i64 r) ∧ w'.cell? ⟨w.heap.size + 1, 1, none⟩ = some (.int .i64 s) ∧ Below w1.heap.size w1 w') := Lib.hid (fun w' h => ⟨cell_call k1 h, cell_call k2 h, cell_call k3 h, cell_call k4 h, cell_call k5 h, cell_call k6 h, cell_call k7 h, cell_call k8 h, h⟩)
  have b3 : Below w1.heap.size w1 w1 := Below.refl _ _
  go_region_held3 (fun w' => w'.cell? ⟨g, 0, none⟩ = some (.int .i64 a) ∧ w'.cell? ⟨g, 1, none⟩ = some (.int .i64 b) ∧ w'.cell? ⟨h, 0, none⟩ = some (.int .i64 c) ∧ w'.cell? ⟨h, 1, none⟩ = some (.int .i64 d) ∧ w'.cell? ⟨w.heap.size, 0, none⟩ = some (.int .i64 p) ∧ w'.cell? ⟨w.heap.size, 1, none⟩ = some (.int .i64 q) ∧ w'.cell? ⟨w.heap.size + 1, 0, none⟩ = some (.int .i64 r) ∧ w'.cell? ⟨w.heap.size + 1, 1, none⟩ = some (.int .i64 s) ∧ Below w1.heap.size w1 w')
    ((go_split_ands; refine hS.out _ ?_; repeat (first | exact hb8 | assumption | apply Below.drew | (with_reducible refine belA ?_ _) | (with_reducible refine belS ?_ (by first | assumption | exact Nat.le_refl _ | exact Nat.le_succ _ | exact Nat.le_succ_of_le (by assumption)) _))))
    (first | (go_at_call 40; (first | (with_reducible refine (H1.out _).mono ?_) | (with_reducible refine (H2.out _).mono ?_)); rintro e w9 ⟨rfl, hb9⟩; have hb8 : Below w1.heap.size w1 w9 := belT (by go_split_ands; repeat (first | assumption | apply Below.drew | (with_reducible refine belA ?_ _))) hb9))
  rename_i hH
  obtain ⟨_, _, _, _, _, _, _, _, bz⟩ := hH
  have fin := Lib.hid (hB.trans (bz.mono hB.size))
  clear bz hS
  go_wp2_with fail
  go_ret2
  exact ⟨ret_two rfl (by rw [MW.out]; rfl), fin.out⟩

set_option maxHeartbeats 2000000 in
theorem clos_false (a b c d p q r s : Int) (w : World) (g h : Nat) (ia : InR a) (ib : InR b) (ic : InR c) (id : InR d) (ip : InR p) (iq : InR q) (ir : InR r) (is : InR s) (k1 : w.cell? ⟨g, 0, none⟩ = some (.int .i64 a)) (k2 : w.cell? ⟨g, 1, none⟩ = some (.int .i64 b)) (k3 : w.cell? ⟨h, 0, none⟩ = some (.int .i64 c)) (k4 : w.cell? ⟨h, 1, none⟩ = some (.int .i64 d)) (T : Hid (onB a b c d p q = false)) :
    Calls Tryd.prog 50 #[.agg #[.int .i64 p, .int .i64 q], .agg #[.int .i64 r, .int .i64 s], .pointer (some ⟨g, 0, none⟩), .pointer (some ⟨h, 0, none⟩)] w fun e w' => e = .returned (.tuple #[.bool (onB a b c d r s), .bool (oppB (ori a b c d p q) (ori a b c d r s))]) ∧ Below w.heap.size w w' := by
  have O1 := onseg_any a b c d p q
  rw [T.out] at O1
  have HO := Lib.hid O1
  clear O1
  obtain ⟨o1, ho1⟩ : ∃ x, x = ori a b c d p q := ⟨_, rfl⟩
  obtain ⟨o2, ho2⟩ : ∃ x, x = ori a b c d r s := ⟨_, rfl⟩
  obtain ⟨e1, e2⟩ : -1 ≤ o1 ∧ o1 ≤ 1 := by rw [ho1]; exact cmpI_bd _ _
  obtain ⟨e3, e4⟩ : -1 ≤ o2 ∧ o2 ≤ 1 := by rw [ho2]; exact cmpI_bd _ _
  obtain ⟨m1, m2⟩ := mul_bd (x := o1) (c := o2) (B := 1) (C := 1) ⟨e1, e2⟩ ⟨e3, e4⟩
  have R1 := fun w => orient_any a b c d p q w ia ib ic id ip iq
  have R2 := fun w => orient_any a b c d r s w ia ib ic id ir is
  rw [← ho1] at R1 ⊢
  rw [← ho2] at R2 ⊢
  have H1 := Lib.hid R1
  have H2 := Lib.hid R2
  have MW : Hid (IntKind.i64.wrap (o1 * o2) = o1 * o2) := Lib.hid (IntWalk.i64_in _ (by omega))
  clear ho1 ho2 R1 R2 m1 m2 e1 e2 e3 e4
  have hB : Below w.heap.size w w := Below.refl _ _
  have zk1 := World.block_lt_of_cell? w _ k1
  have zk3 := World.block_lt_of_cell? w _ k3
  go_enter Tryd.func50, Tryd.ntmps50
  go_wp2_with fail
  refine (HO.out _ ia ib ic id ip iq).mono ?_; rintro e w1 ⟨rfl, hb⟩
  replace k1 : w1.cell? ⟨g, 0, none⟩ = some (.int .i64 a) := cell_call (cell_alloc (cell_alloc k1 _) _) hb
  replace k2 : w1.cell? ⟨g, 1, none⟩ = some (.int .i64 b) := cell_call (cell_alloc (cell_alloc k2 _) _) hb
  replace k3 : w1.cell? ⟨h, 0, none⟩ = some (.int .i64 c) := cell_call (cell_alloc (cell_alloc k3 _) _) hb
  replace k4 : w1.cell? ⟨h, 1, none⟩ = some (.int .i64 d) := cell_call (cell_alloc (cell_alloc k4 _) _) hb
  have k5 : w1.cell? ⟨w.heap.size, 0, none⟩ = some (.int .i64 p) := cell_call (cell_alloc (cbx w #[.int .i64 p, .int .i64 q] 25 (w.heap.size) 0 (.int .i64 p) (by simp) rfl) _) hb
  have k6 : w1.cell? ⟨w.heap.size, 1, none⟩ = some (.int .i64 q) := cell_call (cell_alloc (cbx w #[.int .i64 p, .int .i64 q] 25 (w.heap.size) 1 (.int .i64 q) (by simp) rfl) _) hb
  have k7 : w1.cell? ⟨w.heap.size + 1, 0, none⟩ = some (.int .i64 r) := cell_call (cbx (w.alloc (.cells #[.int .i64 p, .int .i64 q] 25)) #[.int .i64 r, .int .i64 s] 25 (w.heap.size + 1) 0 (.int .i64 r) (by simp) rfl) hb
  have k8 : w1.cell? ⟨w.heap.size + 1, 1, none⟩ = some (.int .i64 s) := cell_call (cbx (w.alloc (.cells #[.int .i64 p, .int .i64 q] 25)) #[.int .i64 r, .int .i64 s] 25 (w.heap.size + 1) 1 (.int .i64 s) (by simp) rfl) hb
  replace hB := belT (belA (belA hB _) _) hb
  clear hb
  have zk1 : g < w1.heap.size := World.block_lt_of_cell? w1 _ k1
  have zk3 : h < w1.heap.size := World.block_lt_of_cell? w1 _ k3
  have zk5 : w.heap.size < w1.heap.size := World.block_lt_of_cell? w1 _ k5
  have zk7 : w.heap.size + 1 < w1.heap.size := World.block_lt_of_cell? w1 _ k7
  go_wp2_with fail
  refine (onseg_any a b c d r s _ ia ib ic id ir is).mono ?_; rintro e w2 ⟨rfl, hb⟩
  replace k1 : w2.cell? ⟨g, 0, none⟩ = some (.int .i64 a) := cell_call k1 hb
  replace k2 : w2.cell? ⟨g, 1, none⟩ = some (.int .i64 b) := cell_call k2 hb
  replace k3 : w2.cell? ⟨h, 0, none⟩ = some (.int .i64 c) := cell_call k3 hb
  replace k4 : w2.cell? ⟨h, 1, none⟩ = some (.int .i64 d) := cell_call k4 hb
  replace k5 : w2.cell? ⟨w.heap.size, 0, none⟩ = some (.int .i64 p) := cell_call k5 hb
  replace k6 : w2.cell? ⟨w.heap.size, 1, none⟩ = some (.int .i64 q) := cell_call k6 hb
  replace k7 : w2.cell? ⟨w.heap.size + 1, 0, none⟩ = some (.int .i64 r) := cell_call k7 hb
  replace k8 : w2.cell? ⟨w.heap.size + 1, 1, none⟩ = some (.int .i64 s) := cell_call k8 hb
  replace hB := belT hB hb
  clear hb
  replace zk1 : g < w2.heap.size := World.block_lt_of_cell? w2 _ k1
  replace zk3 : h < w2.heap.size := World.block_lt_of_cell? w2 _ k3
  replace zk5 : w.heap.size < w2.heap.size := World.block_lt_of_cell? w2 _ k5
  replace zk7 : w.heap.size + 1 < w2.heap.size := World.block_lt_of_cell? w2 _ k7
  go_wp2_with fail
  clear HO ia ib ic id ip iq ir is T
  have hS : Hid (∀ w', Below w2.heap.size w2 w' → w'.cell? ⟨g, 0, none⟩ = some (.int .i64 a) ∧ w'.cell? ⟨g, 1, none⟩ = some (.int .i64 b) ∧ w'.cell? ⟨h, 0, none⟩ = some (.int .i64 c) ∧ w'.cell? ⟨h, 1, none⟩ = some (.int .i64 d) ∧ w'.cell? ⟨w.heap.size, 0, none⟩ = some (.int .i64 p) ∧ w'.cell? ⟨w.heap.size, 1, none⟩ = some (.int .i64 q) ∧ w'.cell? ⟨w.heap.size + 1, 0, none⟩ = some (.int .i64 r) ∧ w'.cell? ⟨w.heap.size + 1, 1, none⟩ = some (.int .i64 s) ∧ Below w2.heap.size w2 w') := Lib.hid (fun w' h => ⟨cell_call k1 h, cell_call k2 h, cell_call k3 h, cell_call k4 h, cell_call k5 h, cell_call k6 h, cell_call k7 h, cell_call k8 h, h⟩)
  have b3 : Below w2.heap.size w2 w2 := Below.refl _ _
  go_region_held3 (fun w' => w'.cell? ⟨g, 0, none⟩ = some (.int .i64 a) ∧ w'.cell? ⟨g, 1, none⟩ = some (.int .i64 b) ∧ w'.cell? ⟨h, 0, none⟩ = some (.int .i64 c) ∧ w'.cell? ⟨h, 1, none⟩ = some (.int .i64 d) ∧ w'.cell? ⟨w.heap.size, 0, none⟩ = some (.int .i64 p) ∧ w'.cell? ⟨w.heap.size, 1, none⟩ = some (.int .i64 q) ∧ w'.cell? ⟨w.heap.size + 1, 0, none⟩ = some (.int .i64 r) ∧ w'.cell? ⟨w.heap.size + 1, 1, none⟩ = some (.int .i64 s) ∧ Below w2.heap.size w2 w')
    ((go_split_ands; refine hS.out _ ?_; repeat (first | exact hb8 | assumption | apply Below.drew | (with_reducible refine belA ?_ _) | (with_reducible refine belS ?_ (by first | assumption | exact Nat.le_refl _ | exact Nat.le_succ _ | exact Nat.le_succ_of_le (by assumption)) _))))
    (first | (go_at_call 40; (first | (with_reducible refine (H1.out _).mono ?_) | (with_reducible refine (H2.out _).mono ?_)); rintro e w9 ⟨rfl, hb9⟩; have hb8 : Below w2.heap.size w2 w9 := belT (by go_split_ands; repeat (first | assumption | apply Below.drew | (with_reducible refine belA ?_ _))) hb9))
  rename_i hH
  obtain ⟨_, _, _, _, _, _, _, _, bz⟩ := hH
  have fin := Lib.hid (hB.trans (bz.mono hB.size))
  clear bz hS
  go_wp2_with fail
  go_ret2
  exact ⟨ret_two rfl (by rw [MW.out]; rfl), fin.out⟩

theorem clos_any (a b c d p q r s : Int) (w : World) (g h : Nat) (ia : InR a) (ib : InR b) (ic : InR c) (id : InR d) (ip : InR p) (iq : InR q) (ir : InR r) (is : InR s) (k1 : w.cell? ⟨g, 0, none⟩ = some (.int .i64 a)) (k2 : w.cell? ⟨g, 1, none⟩ = some (.int .i64 b)) (k3 : w.cell? ⟨h, 0, none⟩ = some (.int .i64 c)) (k4 : w.cell? ⟨h, 1, none⟩ = some (.int .i64 d)) :
    Calls Tryd.prog 50 #[.agg #[.int .i64 p, .int .i64 q], .agg #[.int .i64 r, .int .i64 s], .pointer (some ⟨g, 0, none⟩), .pointer (some ⟨h, 0, none⟩)] w fun e w' => e = .returned (.tuple #[.bool (onB a b c d p q || onB a b c d r s), .bool (oppB (ori a b c d p q) (ori a b c d r s))]) ∧ Below w.heap.size w w' := by
  cases T : onB a b c d p q
  · rw [Bool.false_or]; exact clos_false a b c d p q r s w g h ia ib ic id ip iq ir is k1 k2 k3 k4 (Lib.hid T)
  · rw [Bool.true_or]; exact clos_true a b c d p q r s w g h ia ib ic id ip iq ir is k1 k2 k3 k4 (Lib.hid T)

theorem relto_any (a b c d : Int) (w : World) :
    Calls Tryd.prog 37 #[.agg #[.int .i64 a, .int .i64 b], .agg #[.int .i64 c, .int .i64 d]] w fun e w' => (∃ g h : Nat, e = .returned (.func (.func 50) #[] #[.pointer (some ⟨g, 0, none⟩), .pointer (some ⟨h, 0, none⟩)]) ∧ w'.cell? ⟨g, 0, none⟩ = some (.int .i64 a) ∧ w'.cell? ⟨g, 1, none⟩ = some (.int .i64 b) ∧ w'.cell? ⟨h, 0, none⟩ = some (.int .i64 c) ∧ w'.cell? ⟨h, 1, none⟩ = some (.int .i64 d)) ∧ Below w.heap.size w w' := by
  go_enter Tryd.func37, Tryd.ntmps37
  go_wp2
  go_ret
  refine ⟨⟨w.heap.size, w.heap.size + 1, rfl, cell_alloc (cbx _ _ _ _ 0 _ rfl rfl) _, cell_alloc (cbx _ _ _ _ 1 _ rfl rfl) _, cbx _ _ _ _ 0 _ (by simp) rfl, cbx _ _ _ _ 1 _ (by simp) rfl⟩, belA (belA (Below.refl _ _) _) _⟩

def segB (a b c d p q r s : Int) : Bool := (onB a b c d p q || onB a b c d r s) || (onB p q r s a b || onB p q r s c d) || (oppB (ori a b c d p q) (ori a b c d r s) && oppB (ori p q r s a b) (ori p q r s c d))

set_option maxHeartbeats 2000000 in
theorem cross_any (a b c d p q r s : Int) (w : World) (ia : InR a) (ib : InR b) (ic : InR c) (id : InR d) (ip : InR p) (iq : InR q) (ir : InR r) (is : InR s) :
    Calls Tryd.prog 23 #[.agg #[.int .i64 a, .int .i64 b], .agg #[.int .i64 c, .int .i64 d], .agg #[.int .i64 p, .int .i64 q], .agg #[.int .i64 r, .int .i64 s]] w fun e w' => e = .returned (.bool (segB a b c d p q r s)) ∧ Below w.heap.size w w' := by
  have C1 := fun w g h => clos_any a b c d p q r s w g h ia ib ic id ip iq ir is
  have C2 := fun w g h => clos_any p q r s a b c d w g h ip iq ir is ia ib ic id
  obtain ⟨t1, ht1⟩ : ∃ x, x = (onB a b c d p q || onB a b c d r s) := ⟨_, rfl⟩
  obtain ⟨t2, ht2⟩ : ∃ x, x = (onB p q r s a b || onB p q r s c d) := ⟨_, rfl⟩
  obtain ⟨x1, hx1⟩ : ∃ x, x = oppB (ori a b c d p q) (ori a b c d r s) := ⟨_, rfl⟩
  obtain ⟨x2, hx2⟩ : ∃ x, x = oppB (ori p q r s a b) (ori p q r s c d) := ⟨_, rfl⟩
  have E : Hid (segB a b c d p q r s = ((t1 || t2) || (x1 && x2))) := Lib.hid (by rw [ht1, ht2, hx1, hx2]; rfl)
  rw [← ht1, ← hx1] at C1
  rw [← ht2, ← hx2] at C2
  have H1 := Lib.hid C1
  have H2 := Lib.hid C2
  clear ht1 ht2 hx1 hx2 C1 C2 ia ib ic id ip iq ir is
  have hB : Below w.heap.size w w := Below.refl _ _
  go_enter Tryd.func23, Tryd.ntmps23
  go_wp2_with fail
  have k1 : ((((w.alloc (.cells #[.int .i64 a, .int .i64 b] 25)).alloc (.cells #[.int .i64 c, .int .i64 d] 25)).alloc (.cells #[.int .i64 p, .int .i64 q] 25)).alloc (.cells #[.int .i64 r, .int .i64 s] 25)).cell? ⟨w.heap.size, 0, none⟩ = some (.int .i64 a) := (cell_alloc (cell_alloc (cell_alloc (cbx w #[.int .i64 a, .int .i64 b] 25 (w.heap.size) 0 (.int .i64 a) (by simp) rfl) _) _) _)
  have k2 : ((((w.alloc (.cells #[.int .i64 a, .int .i64 b] 25)).alloc (.cells #[.int .i64 c, .int .i64 d] 25)).alloc (.cells #[.int .i64 p, .int .i64 q] 25)).alloc (.cells #[.int .i64 r, .int .i64 s] 25)).cell? ⟨w.heap.size, 1, none⟩ = some (.int .i64 b) := (cell_alloc (cell_alloc (cell_alloc (cbx w #[.int .i64 a, .int .i64 b] 25 (w.heap.size) 1 (.int .i64 b) (by simp) rfl) _) _) _)
  have k3 : ((((w.alloc (.cells #[.int .i64 a, .int .i64 b] 25)).alloc (.cells #[.int .i64 c, .int .i64 d] 25)).alloc (.cells #[.int .i64 p, .int .i64 q] 25)).alloc (.cells #[.int .i64 r, .int .i64 s] 25)).cell? ⟨w.heap.size + 1, 0, none⟩ = some (.int .i64 c) := (cell_alloc (cell_alloc (cbx (w.alloc (.cells #[.int .i64 a, .int .i64 b] 25)) #[.int .i64 c, .int .i64 d] 25 (w.heap.size + 1) 0 (.int .i64 c) (by simp) rfl) _) _)
  have k4 : ((((w.alloc (.cells #[.int .i64 a, .int .i64 b] 25)).alloc (.cells #[.int .i64 c, .int .i64 d] 25)).alloc (.cells #[.int .i64 p, .int .i64 q] 25)).alloc (.cells #[.int .i64 r, .int .i64 s] 25)).cell? ⟨w.heap.size + 1, 1, none⟩ = some (.int .i64 d) := (cell_alloc (cell_alloc (cbx (w.alloc (.cells #[.int .i64 a, .int .i64 b] 25)) #[.int .i64 c, .int .i64 d] 25 (w.heap.size + 1) 1 (.int .i64 d) (by simp) rfl) _) _)
  have k5 : ((((w.alloc (.cells #[.int .i64 a, .int .i64 b] 25)).alloc (.cells #[.int .i64 c, .int .i64 d] 25)).alloc (.cells #[.int .i64 p, .int .i64 q] 25)).alloc (.cells #[.int .i64 r, .int .i64 s] 25)).cell? ⟨w.heap.size + 1 + 1, 0, none⟩ = some (.int .i64 p) := (cell_alloc (cbx ((w.alloc (.cells #[.int .i64 a, .int .i64 b] 25)).alloc (.cells #[.int .i64 c, .int .i64 d] 25)) #[.int .i64 p, .int .i64 q] 25 (w.heap.size + 1 + 1) 0 (.int .i64 p) (by simp) rfl) _)
  have k6 : ((((w.alloc (.cells #[.int .i64 a, .int .i64 b] 25)).alloc (.cells #[.int .i64 c, .int .i64 d] 25)).alloc (.cells #[.int .i64 p, .int .i64 q] 25)).alloc (.cells #[.int .i64 r, .int .i64 s] 25)).cell? ⟨w.heap.size + 1 + 1, 1, none⟩ = some (.int .i64 q) := (cell_alloc (cbx ((w.alloc (.cells #[.int .i64 a, .int .i64 b] 25)).alloc (.cells #[.int .i64 c, .int .i64 d] 25)) #[.int .i64 p, .int .i64 q] 25 (w.heap.size + 1 + 1) 1 (.int .i64 q) (by simp) rfl) _)
  have k7 : ((((w.alloc (.cells #[.int .i64 a, .int .i64 b] 25)).alloc (.cells #[.int .i64 c, .int .i64 d] 25)).alloc (.cells #[.int .i64 p, .int .i64 q] 25)).alloc (.cells #[.int .i64 r, .int .i64 s] 25)).cell? ⟨w.heap.size + 1 + 1 + 1, 0, none⟩ = some (.int .i64 r) := (cbx (((w.alloc (.cells #[.int .i64 a, .int .i64 b] 25)).alloc (.cells #[.int .i64 c, .int .i64 d] 25)).alloc (.cells #[.int .i64 p, .int .i64 q] 25)) #[.int .i64 r, .int .i64 s] 25 (w.heap.size + 1 + 1 + 1) 0 (.int .i64 r) (by simp) rfl)
  have k8 : ((((w.alloc (.cells #[.int .i64 a, .int .i64 b] 25)).alloc (.cells #[.int .i64 c, .int .i64 d] 25)).alloc (.cells #[.int .i64 p, .int .i64 q] 25)).alloc (.cells #[.int .i64 r, .int .i64 s] 25)).cell? ⟨w.heap.size + 1 + 1 + 1, 1, none⟩ = some (.int .i64 s) := (cbx (((w.alloc (.cells #[.int .i64 a, .int .i64 b] 25)).alloc (.cells #[.int .i64 c, .int .i64 d] 25)).alloc (.cells #[.int .i64 p, .int .i64 q] 25)) #[.int .i64 r, .int .i64 s] 25 (w.heap.size + 1 + 1 + 1) 1 (.int .i64 s) (by simp) rfl)
  replace hB : Below w.heap.size w ((((w.alloc (.cells #[.int .i64 a, .int .i64 b] 25)).alloc (.cells #[.int .i64 c, .int .i64 d] 25)).alloc (.cells #[.int .i64 p, .int .i64 q] 25)).alloc (.cells #[.int .i64 r, .int .i64 s] 25)) := (belA (belA (belA (belA hB _) _) _) _)
  generalize ((((w.alloc (.cells #[.int .i64 a, .int .i64 b] 25)).alloc (.cells #[.int .i64 c, .int .i64 d] 25)).alloc (.cells #[.int .i64 p, .int .i64 q] 25)).alloc (.cells #[.int .i64 r, .int .i64 s] 25)) = w3 at *
  have zk1 : w.heap.size < w3.heap.size := World.block_lt_of_cell? w3 _ k1
  have zk3 : w.heap.size + 1 < w3.heap.size := World.block_lt_of_cell? w3 _ k3
  have zk5 : w.heap.size + 1 + 1 < w3.heap.size := World.block_lt_of_cell? w3 _ k5
  have zk7 : w.heap.size + 1 + 1 + 1 < w3.heap.size := World.block_lt_of_cell? w3 _ k7
  have hS : Hid (∀ w', Below w3.heap.size w3 w' → w'.cell? ⟨w.heap.size, 0, none⟩ = some (.int .i64 a) ∧ w'.cell? ⟨w.heap.size, 1, none⟩ = some (.int .i64 b) ∧ w'.cell? ⟨w.heap.size + 1, 0, none⟩ = some (.int .i64 c) ∧ w'.cell? ⟨w.heap.size + 1, 1, none⟩ = some (.int .i64 d) ∧ w'.cell? ⟨w.heap.size + 1 + 1, 0, none⟩ = some (.int .i64 p) ∧ w'.cell? ⟨w.heap.size + 1 + 1, 1, none⟩ = some (.int .i64 q) ∧ w'.cell? ⟨w.heap.size + 1 + 1 + 1, 0, none⟩ = some (.int .i64 r) ∧ w'.cell? ⟨w.heap.size + 1 + 1 + 1, 1, none⟩ = some (.int .i64 s) ∧ Below w3.heap.size w3 w') := Lib.hid (fun w' h => ⟨cell_call k1 h, cell_call k2 h, cell_call k3 h, cell_call k4 h, cell_call k5 h, cell_call k6 h, cell_call k7 h, cell_call k8 h, h⟩)
  have b3 : Below w3.heap.size w3 w3 := Below.refl _ _
  go_region_held3 (fun w' => w'.cell? ⟨w.heap.size, 0, none⟩ = some (.int .i64 a) ∧ w'.cell? ⟨w.heap.size, 1, none⟩ = some (.int .i64 b) ∧ w'.cell? ⟨w.heap.size + 1, 0, none⟩ = some (.int .i64 c) ∧ w'.cell? ⟨w.heap.size + 1, 1, none⟩ = some (.int .i64 d) ∧ w'.cell? ⟨w.heap.size + 1 + 1, 0, none⟩ = some (.int .i64 p) ∧ w'.cell? ⟨w.heap.size + 1 + 1, 1, none⟩ = some (.int .i64 q) ∧ w'.cell? ⟨w.heap.size + 1 + 1 + 1, 0, none⟩ = some (.int .i64 r) ∧ w'.cell? ⟨w.heap.size + 1 + 1 + 1, 1, none⟩ = some (.int .i64 s) ∧ Below w3.heap.size w3 w')
    ((go_split_ands; refine hS.out _ ?_; repeat (first | exact hb8 | assumption | apply Below.drew | (with_reducible refine belA ?_ _) | (with_reducible refine belS ?_ (by first | assumption | exact Nat.le_refl _ | exact Nat.le_succ _ | exact Nat.le_succ_of_le (by assumption)) _))))
    (first | (go_at_call 37; (first | (with_reducible refine (relto_any a b c d _).mono ?_)); rintro e w9 ⟨⟨g, h, rfl, j1, j2, j3, j4⟩, hb9⟩; have hb8 : Below w3.heap.size w3 w9 := belT (by go_split_ands; repeat (first | assumption | apply Below.drew | (with_reducible refine belA ?_ _))) hb9) | (go_at_call 50; (first | (with_reducible refine (H1.out _ _ _ (by first | assumption | go_simp) (by first | assumption | go_simp) (by first | assumption | go_simp) (by first | assumption | go_simp)).mono ?_)); rintro e w9 ⟨rfl, hb9⟩; have hb8 : Below w3.heap.size w3 w9 := belT (by go_split_ands; repeat (first | assumption | apply Below.drew | (with_reducible refine belA ?_ _))) hb9))
  rename_i hH
  obtain ⟨y1, y2, y3, y4, y5, y6, y7, y8, bz⟩ := hH
  replace hB := hB.trans (bz.mono hB.size)
  clear bz hS b3 k1 k2 k3 k4 k5 k6 k7 k8 zk1 zk3 zk5 zk7 hb9 hb8 j1 j2 j3 j4
  rename World => v4
  go_wp2_with fail
  replace y1 : v4.cell? ⟨w.heap.size, 0, none⟩ = some (.int .i64 a) := y1
  replace y2 : v4.cell? ⟨w.heap.size, 1, none⟩ = some (.int .i64 b) := y2
  replace y3 : v4.cell? ⟨w.heap.size + 1, 0, none⟩ = some (.int .i64 c) := y3
  replace y4 : v4.cell? ⟨w.heap.size + 1, 1, none⟩ = some (.int .i64 d) := y4
  replace y5 : v4.cell? ⟨w.heap.size + 1 + 1, 0, none⟩ = some (.int .i64 p) := y5
  replace y6 : v4.cell? ⟨w.heap.size + 1 + 1, 1, none⟩ = some (.int .i64 q) := y6
  replace y7 : v4.cell? ⟨w.heap.size + 1 + 1 + 1, 0, none⟩ = some (.int .i64 r) := y7
  replace y8 : v4.cell? ⟨w.heap.size + 1 + 1 + 1, 1, none⟩ = some (.int .i64 s) := y8
  replace hB : Below w.heap.size w v4 := hB
  have zy1 : w.heap.size < v4.heap.size := World.block_lt_of_cell? v4 _ y1
  have zy3 : w.heap.size + 1 < v4.heap.size := World.block_lt_of_cell? v4 _ y3
  have zy5 : w.heap.size + 1 + 1 < v4.heap.size := World.block_lt_of_cell? v4 _ y5
  have zy7 : w.heap.size + 1 + 1 + 1 < v4.heap.size := World.block_lt_of_cell? v4 _ y7
  have hS : Hid (∀ w', Below v4.heap.size v4 w' → w'.cell? ⟨w.heap.size, 0, none⟩ = some (.int .i64 a) ∧ w'.cell? ⟨w.heap.size, 1, none⟩ = some (.int .i64 b) ∧ w'.cell? ⟨w.heap.size + 1, 0, none⟩ = some (.int .i64 c) ∧ w'.cell? ⟨w.heap.size + 1, 1, none⟩ = some (.int .i64 d) ∧ w'.cell? ⟨w.heap.size + 1 + 1, 0, none⟩ = some (.int .i64 p) ∧ w'.cell? ⟨w.heap.size + 1 + 1, 1, none⟩ = some (.int .i64 q) ∧ w'.cell? ⟨w.heap.size + 1 + 1 + 1, 0, none⟩ = some (.int .i64 r) ∧ w'.cell? ⟨w.heap.size + 1 + 1 + 1, 1, none⟩ = some (.int .i64 s) ∧ Below v4.heap.size v4 w') := Lib.hid (fun w' h => ⟨cell_call y1 h, cell_call y2 h, cell_call y3 h, cell_call y4 h, cell_call y5 h, cell_call y6 h, cell_call y7 h, cell_call y8 h, h⟩)
  have b3 : Below v4.heap.size v4 v4 := Below.refl _ _
  go_region_held3 (fun w' => w'.cell? ⟨w.heap.size, 0, none⟩ = some (.int .i64 a) ∧ w'.cell? ⟨w.heap.size, 1, none⟩ = some (.int .i64 b) ∧ w'.cell? ⟨w.heap.size + 1, 0, none⟩ = some (.int .i64 c) ∧ w'.cell? ⟨w.heap.size + 1, 1, none⟩ = some (.int .i64 d) ∧ w'.cell? ⟨w.heap.size + 1 + 1, 0, none⟩ = some (.int .i64 p) ∧ w'.cell? ⟨w.heap.size + 1 + 1, 1, none⟩ = some (.int .i64 q) ∧ w'.cell? ⟨w.heap.size + 1 + 1 + 1, 0, none⟩ = some (.int .i64 r) ∧ w'.cell? ⟨w.heap.size + 1 + 1 + 1, 1, none⟩ = some (.int .i64 s) ∧ Below v4.heap.size v4 w')
    ((go_split_ands; refine hS.out _ ?_; repeat (first | exact hb8 | assumption | apply Below.drew | (with_reducible refine belA ?_ _) | (with_reducible refine belS ?_ (by first | assumption | exact Nat.le_refl _ | exact Nat.le_succ _ | exact Nat.le_succ_of_le (by assumption)) _))))
    (first | (go_at_call 37; (first | (with_reducible refine (relto_any p q r s _).mono ?_)); rintro e w9 ⟨⟨g, h, rfl, j1, j2, j3, j4⟩, hb9⟩; have hb8 : Below v4.heap.size v4 w9 := belT (by go_split_ands; repeat (first | assumption | apply Below.drew | (with_reducible refine belA ?_ _))) hb9) | (go_at_call 50; (first | (with_reducible refine (H2.out _ _ _ (by first | assumption | go_simp) (by first | assumption | go_simp) (by first | assumption | go_simp) (by first | assumption | go_simp)).mono ?_)); rintro e w9 ⟨rfl, hb9⟩; have hb8 : Below v4.heap.size v4 w9 := belT (by go_split_ands; repeat (first | assumption | apply Below.drew | (with_reducible refine belA ?_ _))) hb9))
  rename_i hH
  obtain ⟨_, _, _, _, _, _, _, _, bz⟩ := hH
  replace hB := hB.trans (bz.mono hB.size)
  have fin := Lib.hid hB
  clear bz hS b3 hB y1 y2 y3 y4 y5 y6 y7 y8 zy1 zy3 zy5 zy7 hb9 hb8 j1 j2 j3 j4
  cases t1 <;> cases t2 <;> cases x1 <;> cases x2
  all_goals
    go_wp2_with fail
    go_ret
    exact ⟨ret_bool (by rw [E.out]; rfl), fin.out⟩
end Go.Proofs.YthmcejeeohlafaaDoor
