/- head of the statements of layer 2: the chapter's examples; it returns true in every world. -/
import Derived.Test.YthmcejeeohlafaaGeoF
import Derived.Test.YthmcejeeohlafaaGeoReg
namespace Go.Proofs.Ythmcejeeohlafaa
open Go.ChangeShapes Go.WideShapes Go.ChangeAt Go.RowKit

theorem prow_one {w : World} {b : Nat} {x y : Int} (h1 : w.cell? ⟨b, 0, none⟩ = some (.int .i64 x)) (h2 : w.cell? ⟨b, 1, none⟩ = some (.int .i64 y)) : PRow w (some ⟨b, 0, none⟩) [(x, y)] := fun i hi => by
  obtain rfl : i = 0 := by simp at hi; omega
  exact ⟨b, 0, rfl, h1, h2⟩
theorem prow_two {w : World} {b : Nat} {x y z u : Int} (h1 : w.cell? ⟨b, 0, none⟩ = some (.int .i64 x)) (h2 : w.cell? ⟨b, 1, none⟩ = some (.int .i64 y)) (h3 : w.cell? ⟨b, 2, none⟩ = some (.int .i64 z)) (h4 : w.cell? ⟨b, 3, none⟩ = some (.int .i64 u)) : PRow w (some ⟨b, 0, none⟩) [(x, y), (z, u)] := fun i hi => by
  have : i = 0 ∨ i = 1 := by simp at hi; omega
  rcases this with rfl | rfl
  · exact ⟨b, 0, rfl, h1, h2⟩
  · exact ⟨b, 0, rfl, h3, h4⟩
theorem prow_nil {w : World} {ao : Option Addr} : PRow w ao [] := fun i hi => absurd hi (by simp)
theorem allr_of {l : List (Int × Int)} (h : (l.all fun p => decide (-1500000000 ≤ p.1 ∧ p.1 ≤ 1500000000) && decide (-1500000000 ≤ p.2 ∧ p.2 ≤ 1500000000)) = true) : AllR l := fun i hi => by
  have := List.all_eq_true.1 h (l[i]) (List.getElem_mem hi)
  simp only [Bool.and_eq_true, decide_eq_true_eq] at this
  rw [List.getD_eq_getElem?_getD, List.getElem?_eq_getElem hi]
  exact ⟨this.1, this.2⟩
theorem hd_o1 (w : World) : Calls Try.prog 10 #[.agg #[.int .i64 0, .int .i64 0], .agg #[.int .i64 2, .int .i64 0], .agg #[.int .i64 1, .int .i64 1]] w fun e w' => e = .returned (.int .i64 1) ∧ Below w.heap.size w w' :=
  (orient_any (0) (0) (2) (0) (1) (1) w ⟨by omega, by omega⟩ ⟨by omega, by omega⟩ ⟨by omega, by omega⟩ ⟨by omega, by omega⟩ ⟨by omega, by omega⟩ ⟨by omega, by omega⟩).mono fun e w' ⟨he, hb⟩ => ⟨he.trans (by first | rfl | decide +kernel), hb⟩
theorem hd_o2 (w : World) : Calls Try.prog 10 #[.agg #[.int .i64 0, .int .i64 0], .agg #[.int .i64 2, .int .i64 0], .agg #[.int .i64 1, .int .i64 (-1)]] w fun e w' => e = .returned (.int .i64 (-1)) ∧ Below w.heap.size w w' :=
  (orient_any (0) (0) (2) (0) (1) (-1) w ⟨by omega, by omega⟩ ⟨by omega, by omega⟩ ⟨by omega, by omega⟩ ⟨by omega, by omega⟩ ⟨by omega, by omega⟩ ⟨by omega, by omega⟩).mono fun e w' ⟨he, hb⟩ => ⟨he.trans (by first | rfl | decide +kernel), hb⟩
theorem hd_n1 (w : World) : Calls Try.prog 11 #[.agg #[.int .i64 0, .int .i64 0], .agg #[.int .i64 4, .int .i64 2], .agg #[.int .i64 2, .int .i64 1]] w fun e w' => e = .returned (.bool true) ∧ Below w.heap.size w w' :=
  (onseg_any (0) (0) (4) (2) (2) (1) w ⟨by omega, by omega⟩ ⟨by omega, by omega⟩ ⟨by omega, by omega⟩ ⟨by omega, by omega⟩ ⟨by omega, by omega⟩ ⟨by omega, by omega⟩).mono fun e w' ⟨he, hb⟩ => ⟨he.trans (by first | rfl | decide +kernel), hb⟩
theorem hd_n2 (w : World) : Calls Try.prog 11 #[.agg #[.int .i64 0, .int .i64 0], .agg #[.int .i64 4, .int .i64 2], .agg #[.int .i64 6, .int .i64 3]] w fun e w' => e = .returned (.bool false) ∧ Below w.heap.size w w' :=
  (onseg_any (0) (0) (4) (2) (6) (3) w ⟨by omega, by omega⟩ ⟨by omega, by omega⟩ ⟨by omega, by omega⟩ ⟨by omega, by omega⟩ ⟨by omega, by omega⟩ ⟨by omega, by omega⟩).mono fun e w' ⟨he, hb⟩ => ⟨he.trans (by first | rfl | decide +kernel), hb⟩
theorem hd_x1 (w : World) : Calls Try.prog 12 #[.agg #[.int .i64 0, .int .i64 0], .agg #[.int .i64 4, .int .i64 4], .agg #[.int .i64 0, .int .i64 4], .agg #[.int .i64 4, .int .i64 0]] w fun e w' => e = .returned (.bool true) ∧ Below w.heap.size w w' :=
  (cross_any (0) (0) (4) (4) (0) (4) (4) (0) w ⟨by omega, by omega⟩ ⟨by omega, by omega⟩ ⟨by omega, by omega⟩ ⟨by omega, by omega⟩ ⟨by omega, by omega⟩ ⟨by omega, by omega⟩ ⟨by omega, by omega⟩ ⟨by omega, by omega⟩).mono fun e w' ⟨he, hb⟩ => ⟨he.trans (by first | rfl | decide +kernel), hb⟩
theorem hd_x2 (w : World) : Calls Try.prog 12 #[.agg #[.int .i64 0, .int .i64 0], .agg #[.int .i64 1, .int .i64 1], .agg #[.int .i64 0, .int .i64 4], .agg #[.int .i64 4, .int .i64 0]] w fun e w' => e = .returned (.bool false) ∧ Below w.heap.size w w' :=
  (cross_any (0) (0) (1) (1) (0) (4) (4) (0) w ⟨by omega, by omega⟩ ⟨by omega, by omega⟩ ⟨by omega, by omega⟩ ⟨by omega, by omega⟩ ⟨by omega, by omega⟩ ⟨by omega, by omega⟩ ⟨by omega, by omega⟩ ⟨by omega, by omega⟩).mono fun e w' ⟨he, hb⟩ => ⟨he.trans (by first | rfl | decide +kernel), hb⟩
theorem hd_b1 (w : World) (ao : Option Addr) (cap : Nat) (h : PRow w ao [(0, 0), (2, 1)]) : Calls Try.prog 8 #[.slice ao 2 cap] w fun e w' => e = .returned (.tuple #[.agg #[.int .i64 0, .int .i64 0], .agg #[.int .i64 2, .int .i64 1]]) ∧ Below w.heap.size w w' :=
  (bbox_any ao cap [(0, 0), (2, 1)] w (by decide) h).mono fun e w' ⟨he, hb⟩ => ⟨he.trans (by first | rfl | decide +kernel), hb⟩
theorem hd_b0 (w : World) : Calls Try.prog 8 #[.slice none 0 0] w fun e w' => e = .returned (.tuple #[.agg #[.int .i64 0, .int .i64 0], .agg #[.int .i64 0, .int .i64 0]]) ∧ Below w.heap.size w w' :=
  (bbox_any none 0 [] w (by decide) prow_nil).mono fun e w' ⟨he, hb⟩ => ⟨he.trans (by first | rfl | decide +kernel), hb⟩
theorem hd_bd (w : World) (ao bo : Option Addr) (ca cb : Nat) (h : PRow w ao [(0, 0), (2, 1)]) (g : PRow w bo [(5, 5)]) : Calls Try.prog 7 #[.slice ao 2 ca, .slice bo 1 cb] w fun e w' => e = .returned (.int .i64 4) ∧ Below w.heap.size w w' :=
  (boxdist_any ao bo ca cb [(0, 0), (2, 1)] [(5, 5)] w (by decide) (by decide) h g (allr_of (by decide)) (allr_of (by decide))).mono fun e w' ⟨he, hb⟩ => ⟨he.trans (by first | rfl | decide +kernel), hb⟩
theorem hd_bdA (w : World) (T : TypeId) (ca cb : Nat) : Calls Try.prog 7 #[.slice (some ⟨w.heap.size, 0, none⟩) 2 ca, .slice (some ⟨w.heap.size + 1, 0, none⟩) 1 cb] ((w.alloc (.cells #[.int .i64 0, .int .i64 0, .int .i64 2, .int .i64 1] T)).alloc (.cells #[.int .i64 5, .int .i64 5] T)) fun e w' => e = .returned (.int .i64 4) ∧ Below ((w.alloc (.cells #[.int .i64 0, .int .i64 0, .int .i64 2, .int .i64 1] T)).alloc (.cells #[.int .i64 5, .int .i64 5] T)).heap.size ((w.alloc (.cells #[.int .i64 0, .int .i64 0, .int .i64 2, .int .i64 1] T)).alloc (.cells #[.int .i64 5, .int .i64 5] T)) w' :=
  hd_bd _ _ _ _ _ (prow_two (cell_alloc (cbx _ _ _ _ 0 _ rfl rfl) _) (cell_alloc (cbx _ _ _ _ 1 _ rfl rfl) _) (cell_alloc (cbx _ _ _ _ 2 _ rfl rfl) _) (cell_alloc (cbx _ _ _ _ 3 _ rfl rfl) _)) (prow_one (cbx _ _ _ _ 0 _ (by simp) rfl) (cbx _ _ _ _ 1 _ (by simp) rfl))
theorem hd_bdC (w : World) (T : TypeId) (ca cb : Nat) : Calls Try.prog 7 #[.slice (some ⟨w.heap.size + 1, 0, none⟩) 2 ca, .slice (some ⟨w.heap.size, 0, none⟩) 1 cb] ((w.alloc (.cells #[.int .i64 5, .int .i64 5] T)).alloc (.cells #[.int .i64 0, .int .i64 0, .int .i64 2, .int .i64 1] T)) fun e w' => e = .returned (.int .i64 4) ∧ Below ((w.alloc (.cells #[.int .i64 5, .int .i64 5] T)).alloc (.cells #[.int .i64 0, .int .i64 0, .int .i64 2, .int .i64 1] T)).heap.size ((w.alloc (.cells #[.int .i64 5, .int .i64 5] T)).alloc (.cells #[.int .i64 0, .int .i64 0, .int .i64 2, .int .i64 1] T)) w' :=
  hd_bd _ _ _ _ _ (prow_two (cbx _ _ _ _ 0 _ (by simp) rfl) (cbx _ _ _ _ 1 _ (by simp) rfl) (cbx _ _ _ _ 2 _ (by simp) rfl) (cbx _ _ _ _ 3 _ (by simp) rfl)) (prow_one (cell_alloc (cbx _ _ _ _ 0 _ rfl rfl) _) (cell_alloc (cbx _ _ _ _ 1 _ rfl rfl) _))
theorem hd_bdB (u w : World) (T : TypeId) (ca cb : Nat) (hb : Below (u.alloc (.cells #[.int .i64 0, .int .i64 0, .int .i64 2, .int .i64 1] T)).heap.size (u.alloc (.cells #[.int .i64 0, .int .i64 0, .int .i64 2, .int .i64 1] T)) w) : Calls Try.prog 7 #[.slice (some ⟨u.heap.size, 0, none⟩) 2 ca, .slice (some ⟨w.heap.size, 0, none⟩) 1 cb] (w.alloc (.cells #[.int .i64 5, .int .i64 5] T)) fun e w' => e = .returned (.int .i64 4) ∧ Below (w.alloc (.cells #[.int .i64 5, .int .i64 5] T)).heap.size (w.alloc (.cells #[.int .i64 5, .int .i64 5] T)) w' :=
  hd_bd _ _ _ _ _ (prow_two (cell_alloc (cell_call (cbx _ _ _ _ 0 _ rfl rfl) hb) _) (cell_alloc (cell_call (cbx _ _ _ _ 1 _ rfl rfl) hb) _) (cell_alloc (cell_call (cbx _ _ _ _ 2 _ rfl rfl) hb) _) (cell_alloc (cell_call (cbx _ _ _ _ 3 _ rfl rfl) hb) _)) (prow_one (cbx _ _ _ _ 0 _ rfl rfl) (cbx _ _ _ _ 1 _ rfl rfl))
theorem hd_ad (w : World) : Calls Try.prog 13 #[.agg #[.int .i64 1, .int .i64 2], .agg #[.int .i64 3, .int .i64 4]] w fun e w' => e = .returned (.agg #[.int .i64 4, .int .i64 6]) ∧ Below w.heap.size w w' :=
  (add_in 1 2 3 4 w (by omega) (by omega)).mono fun e w' ⟨he, hb⟩ => ⟨he.trans (by first | rfl | decide +kernel), hb⟩
theorem hd_su (w : World) : Calls Try.prog 14 #[.agg #[.int .i64 1, .int .i64 2], .agg #[.int .i64 3, .int .i64 5]] w fun e w' => e = .returned (.agg #[.int .i64 (-2), .int .i64 (-3)]) ∧ Below w.heap.size w w' :=
  (sub_in 1 2 3 5 w (by omega) (by omega)).mono fun e w' ⟨he, hb⟩ => ⟨he.trans (by first | rfl | decide +kernel), hb⟩

set_option maxRecDepth 100000 in
set_option maxHeartbeats 8000000 in
theorem head_any (w : World) : Calls Try.prog 5 #[] w fun e w' => e = .returned (.bool true) ∧ Below w.heap.size w w' := by
  have hB : Below w.heap.size w w := Below.refl _ _
  go_enter Try.func5, Try.ntmps5
  go_wp2_with fail
  refine (at_any 0 0 _).mono ?_; rintro e w1 ⟨rfl, hb⟩
  replace hB := belT hB hb
  clear hb
  go_wp2_with fail
  refine (at_any 2 1 _).mono ?_; rintro e w2 ⟨rfl, hb⟩
  replace hB := belT hB hb
  clear hb
  go_wp2_with fail
  have pr : PRow (w2.alloc (.cells #[.int .i64 0, .int .i64 0, .int .i64 2, .int .i64 1] 27)) (some ⟨w2.heap.size, 0, none⟩) [(0, 0), (2, 1)] := prow_two (cbx _ _ _ _ 0 _ rfl rfl) (cbx _ _ _ _ 1 _ rfl rfl) (cbx _ _ _ _ 2 _ rfl rfl) (cbx _ _ _ _ 3 _ rfl rfl)
  refine (hd_b1 _ _ _ pr).mono ?_; rintro e w3 ⟨rfl, hb⟩
  have k1 : w3.cell? ⟨w2.heap.size, 0, none⟩ = some (.int .i64 0) := cell_call (cbx w2 #[.int .i64 0, .int .i64 0, .int .i64 2, .int .i64 1] 27 (w2.heap.size) 0 (.int .i64 0) (by simp) rfl) hb
  have k2 : w3.cell? ⟨w2.heap.size, 1, none⟩ = some (.int .i64 0) := cell_call (cbx w2 #[.int .i64 0, .int .i64 0, .int .i64 2, .int .i64 1] 27 (w2.heap.size) 1 (.int .i64 0) (by simp) rfl) hb
  have k3 : w3.cell? ⟨w2.heap.size, 2, none⟩ = some (.int .i64 2) := cell_call (cbx w2 #[.int .i64 0, .int .i64 0, .int .i64 2, .int .i64 1] 27 (w2.heap.size) 2 (.int .i64 2) (by simp) rfl) hb
  have k4 : w3.cell? ⟨w2.heap.size, 3, none⟩ = some (.int .i64 1) := cell_call (cbx w2 #[.int .i64 0, .int .i64 0, .int .i64 2, .int .i64 1] 27 (w2.heap.size) 3 (.int .i64 1) (by simp) rfl) hb
  replace hB := belT (belA hB _) hb
  clear hb
  have zk1 : w2.heap.size < w3.heap.size := World.block_lt_of_cell? w3 _ k1
  clear pr
  go_wp2_with fail
  refine (hd_b0 _).mono ?_; rintro e w4 ⟨rfl, hb⟩
  have k5 : w4.cell? ⟨w3.heap.size, 0, none⟩ = some (.int .i64 0) := cell_call (cell_alloc (cbx w3 #[.int .i64 0, .int .i64 0] 27 (w3.heap.size) 0 (.int .i64 0) (by simp) rfl) _) hb
  have k6 : w4.cell? ⟨w3.heap.size, 1, none⟩ = some (.int .i64 0) := cell_call (cell_alloc (cbx w3 #[.int .i64 0, .int .i64 0] 27 (w3.heap.size) 1 (.int .i64 0) (by simp) rfl) _) hb
  have k7 : w4.cell? ⟨w3.heap.size + 1, 0, none⟩ = some (.int .i64 2) := cell_call (cbx (w3.alloc (.cells #[.int .i64 0, .int .i64 0] 27)) #[.int .i64 2, .int .i64 1] 27 (w3.heap.size + 1) 0 (.int .i64 2) (by simp) rfl) hb
  have k8 : w4.cell? ⟨w3.heap.size + 1, 1, none⟩ = some (.int .i64 1) := cell_call (cbx (w3.alloc (.cells #[.int .i64 0, .int .i64 0] 27)) #[.int .i64 2, .int .i64 1] 27 (w3.heap.size + 1) 1 (.int .i64 1) (by simp) rfl) hb
  replace hB := belT (belA (belA hB _) _) hb
  clear hb
  have zk5 : w3.heap.size < w4.heap.size := World.block_lt_of_cell? w4 _ k5
  have zk7 : w3.heap.size + 1 < w4.heap.size := World.block_lt_of_cell? w4 _ k7
  go_wp2_with fail
  simp only [List.append_eq, List.cons_append, List.nil_append]
  replace k5 : ((w4.alloc (.cells #[.int .i64 0, .int .i64 0] 27)).alloc (.cells #[.int .i64 0, .int .i64 0] 27)).cell? ⟨w3.heap.size, 0, none⟩ = some (.int .i64 0) := (cell_alloc (cell_alloc k5 _) _)
  replace k6 : ((w4.alloc (.cells #[.int .i64 0, .int .i64 0] 27)).alloc (.cells #[.int .i64 0, .int .i64 0] 27)).cell? ⟨w3.heap.size, 1, none⟩ = some (.int .i64 0) := (cell_alloc (cell_alloc k6 _) _)
  replace k7 : ((w4.alloc (.cells #[.int .i64 0, .int .i64 0] 27)).alloc (.cells #[.int .i64 0, .int .i64 0] 27)).cell? ⟨w3.heap.size + 1, 0, none⟩ = some (.int .i64 2) := (cell_alloc (cell_alloc k7 _) _)
  replace k8 : ((w4.alloc (.cells #[.int .i64 0, .int .i64 0] 27)).alloc (.cells #[.int .i64 0, .int .i64 0] 27)).cell? ⟨w3.heap.size + 1, 1, none⟩ = some (.int .i64 1) := (cell_alloc (cell_alloc k8 _) _)
  have k9 : ((w4.alloc (.cells #[.int .i64 0, .int .i64 0] 27)).alloc (.cells #[.int .i64 0, .int .i64 0] 27)).cell? ⟨w4.heap.size, 0, none⟩ = some (.int .i64 0) := (cell_alloc (cbx w4 #[.int .i64 0, .int .i64 0] 27 (w4.heap.size) 0 (.int .i64 0) (by simp) rfl) _)
  have k10 : ((w4.alloc (.cells #[.int .i64 0, .int .i64 0] 27)).alloc (.cells #[.int .i64 0, .int .i64 0] 27)).cell? ⟨w4.heap.size, 1, none⟩ = some (.int .i64 0) := (cell_alloc (cbx w4 #[.int .i64 0, .int .i64 0] 27 (w4.heap.size) 1 (.int .i64 0) (by simp) rfl) _)
  have k11 : ((w4.alloc (.cells #[.int .i64 0, .int .i64 0] 27)).alloc (.cells #[.int .i64 0, .int .i64 0] 27)).cell? ⟨w4.heap.size + 1, 0, none⟩ = some (.int .i64 0) := (cbx (w4.alloc (.cells #[.int .i64 0, .int .i64 0] 27)) #[.int .i64 0, .int .i64 0] 27 (w4.heap.size + 1) 0 (.int .i64 0) (by simp) rfl)
  have k12 : ((w4.alloc (.cells #[.int .i64 0, .int .i64 0] 27)).alloc (.cells #[.int .i64 0, .int .i64 0] 27)).cell? ⟨w4.heap.size + 1, 1, none⟩ = some (.int .i64 0) := (cbx (w4.alloc (.cells #[.int .i64 0, .int .i64 0] 27)) #[.int .i64 0, .int .i64 0] 27 (w4.heap.size + 1) 1 (.int .i64 0) (by simp) rfl)
  replace hB : Below w.heap.size w ((w4.alloc (.cells #[.int .i64 0, .int .i64 0] 27)).alloc (.cells #[.int .i64 0, .int .i64 0] 27)) := (belA (belA hB _) _)
  generalize ((w4.alloc (.cells #[.int .i64 0, .int .i64 0] 27)).alloc (.cells #[.int .i64 0, .int .i64 0] 27)) = v4 at *
  have zk5 : w3.heap.size < v4.heap.size := World.block_lt_of_cell? v4 _ k5
  have zk7 : w3.heap.size + 1 < v4.heap.size := World.block_lt_of_cell? v4 _ k7
  have zk9 : w4.heap.size < v4.heap.size := World.block_lt_of_cell? v4 _ k9
  have zk11 : w4.heap.size + 1 < v4.heap.size := World.block_lt_of_cell? v4 _ k11
  obtain ⟨sp, hsp⟩ : ∃ sp : Told, sp = [some (.inl (.bool true)), none, none, none, none, none, none, none, none, none, none, none, none, none, none, none, some (.inl (.agg #[.int .i64 0, .int .i64 0])), some (.inl (.agg #[.int .i64 2, .int .i64 0])), some (.inl (.agg #[.int .i64 1, .int .i64 1])), some (.inl (.int .i64 1)), some (.inl (.bool true)), some (.inl (.bool true)), some (.inl (.agg #[.int .i64 0, .int .i64 0])), some (.inl (.agg #[.int .i64 2, .int .i64 0])), some (.inl (.agg #[.int .i64 1, .int .i64 (-1)])), some (.inl (.int .i64 (-1))), some (.inl (.bool true)), some (.inl (.bool true)), some (.inl (.bool true)), some (.inl (.agg #[.int .i64 0, .int .i64 0])), some (.inl (.agg #[.int .i64 4, .int .i64 2])), some (.inl (.agg #[.int .i64 2, .int .i64 1])), some (.inl (.bool true)), some (.inl (.bool true)), some (.inl (.bool true)), some (.inl (.agg #[.int .i64 0, .int .i64 0])), some (.inl (.agg #[.int .i64 4, .int .i64 2])), some (.inl (.agg #[.int .i64 6, .int .i64 3])), some (.inl (.bool false)), some (.inl (.bool true)), some (.inl (.bool true)), some (.inl (.bool true)), some (.inl (.agg #[.int .i64 0, .int .i64 0])), some (.inl (.agg #[.int .i64 4, .int .i64 4])), some (.inl (.agg #[.int .i64 0, .int .i64 4])), some (.inl (.agg #[.int .i64 4, .int .i64 0])), some (.inl (.bool true)), some (.inl (.bool true)), some (.inl (.bool true)), some (.inl (.agg #[.int .i64 0, .int .i64 0])), some (.inl (.agg #[.int .i64 1, .int .i64 1])), some (.inl (.agg #[.int .i64 0, .int .i64 4])), some (.inl (.agg #[.int .i64 4, .int .i64 0])), some (.inl (.bool false)), some (.inl (.bool true)), some (.inl (.bool true)), some (.inl (.bool true)), some (.inl (.agg #[.int .i64 0, .int .i64 0])), some (.inl (.agg #[.int .i64 2, .int .i64 1])), some (.inr [(0, 0), (2, 1)]), some (.inl (.agg #[.int .i64 5, .int .i64 5])), some (.inr [(5, 5)]), some (.inl (.int .i64 4)), some (.inl (.bool true)), some (.inl (.bool true)), some (.inl (.bool true)), some (.inl (.agg #[.int .i64 0, .int .i64 0])), some (.inl (.agg #[.int .i64 0, .int .i64 0])), some (.inl (.bool true)), some (.inl (.bool true)), some (.inl (.bool true)), some (.inl (.agg #[.int .i64 2, .int .i64 1])), some (.inl (.agg #[.int .i64 2, .int .i64 1])), some (.inl (.bool true)), some (.inl (.bool true)), some (.inl (.bool true)), some (.inl (.agg #[.int .i64 0, .int .i64 0])), some (.inl (.agg #[.int .i64 0, .int .i64 0])), some (.inl (.bool true)), some (.inl (.bool true)), some (.inl (.bool true)), some (.inl (.agg #[.int .i64 0, .int .i64 0])), some (.inl (.agg #[.int .i64 0, .int .i64 0])), some (.inl (.bool true)), some (.inl (.bool true)), some (.inl (.bool true)), some (.inl (.agg #[.int .i64 1, .int .i64 2])), some (.inl (.agg #[.int .i64 3, .int .i64 4])), some (.inl (.agg #[.int .i64 4, .int .i64 6])), some (.inl (.agg #[.int .i64 4, .int .i64 6])), some (.inl (.bool true)), some (.inl (.bool true)), some (.inl (.bool true)), some (.inl (.agg #[.int .i64 1, .int .i64 2])), some (.inl (.agg #[.int .i64 3, .int .i64 5])), some (.inl (.agg #[.int .i64 (-2), .int .i64 (-3)])), some (.inl (.agg #[.int .i64 (-2), .int .i64 (-3)])), some (.inl (.bool true)), some (.inl (.bool true))] := ⟨_, rfl⟩
  have s0 : sp.getD 0 none = some (.inl (.bool true)) := by rw [hsp]; rfl
  have s16 : sp.getD 16 none = some (.inl (.agg #[.int .i64 0, .int .i64 0])) := by rw [hsp]; rfl
  have s17 : sp.getD 17 none = some (.inl (.agg #[.int .i64 2, .int .i64 0])) := by rw [hsp]; rfl
  have s18 : sp.getD 18 none = some (.inl (.agg #[.int .i64 1, .int .i64 1])) := by rw [hsp]; rfl
  have s19 : sp.getD 19 none = some (.inl (.int .i64 1)) := by rw [hsp]; rfl
  have s20 : sp.getD 20 none = some (.inl (.bool true)) := by rw [hsp]; rfl
  have s21 : sp.getD 21 none = some (.inl (.bool true)) := by rw [hsp]; rfl
  have s22 : sp.getD 22 none = some (.inl (.agg #[.int .i64 0, .int .i64 0])) := by rw [hsp]; rfl
  have s23 : sp.getD 23 none = some (.inl (.agg #[.int .i64 2, .int .i64 0])) := by rw [hsp]; rfl
  have s24 : sp.getD 24 none = some (.inl (.agg #[.int .i64 1, .int .i64 (-1)])) := by rw [hsp]; rfl
  have s25 : sp.getD 25 none = some (.inl (.int .i64 (-1))) := by rw [hsp]; rfl
  have s26 : sp.getD 26 none = some (.inl (.bool true)) := by rw [hsp]; rfl
  have s27 : sp.getD 27 none = some (.inl (.bool true)) := by rw [hsp]; rfl
  have s28 : sp.getD 28 none = some (.inl (.bool true)) := by rw [hsp]; rfl
  have s29 : sp.getD 29 none = some (.inl (.agg #[.int .i64 0, .int .i64 0])) := by rw [hsp]; rfl
  have s30 : sp.getD 30 none = some (.inl (.agg #[.int .i64 4, .int .i64 2])) := by rw [hsp]; rfl
  have s31 : sp.getD 31 none = some (.inl (.agg #[.int .i64 2, .int .i64 1])) := by rw [hsp]; rfl
  have s32 : sp.getD 32 none = some (.inl (.bool true)) := by rw [hsp]; rfl
  have s33 : sp.getD 33 none = some (.inl (.bool true)) := by rw [hsp]; rfl
  have s34 : sp.getD 34 none = some (.inl (.bool true)) := by rw [hsp]; rfl
  have s35 : sp.getD 35 none = some (.inl (.agg #[.int .i64 0, .int .i64 0])) := by rw [hsp]; rfl
  have s36 : sp.getD 36 none = some (.inl (.agg #[.int .i64 4, .int .i64 2])) := by rw [hsp]; rfl
  have s37 : sp.getD 37 none = some (.inl (.agg #[.int .i64 6, .int .i64 3])) := by rw [hsp]; rfl
  have s38 : sp.getD 38 none = some (.inl (.bool false)) := by rw [hsp]; rfl
  have s39 : sp.getD 39 none = some (.inl (.bool true)) := by rw [hsp]; rfl
  have s40 : sp.getD 40 none = some (.inl (.bool true)) := by rw [hsp]; rfl
  have s41 : sp.getD 41 none = some (.inl (.bool true)) := by rw [hsp]; rfl
  have s42 : sp.getD 42 none = some (.inl (.agg #[.int .i64 0, .int .i64 0])) := by rw [hsp]; rfl
  have s43 : sp.getD 43 none = some (.inl (.agg #[.int .i64 4, .int .i64 4])) := by rw [hsp]; rfl
  have s44 : sp.getD 44 none = some (.inl (.agg #[.int .i64 0, .int .i64 4])) := by rw [hsp]; rfl
  have s45 : sp.getD 45 none = some (.inl (.agg #[.int .i64 4, .int .i64 0])) := by rw [hsp]; rfl
  have s46 : sp.getD 46 none = some (.inl (.bool true)) := by rw [hsp]; rfl
  have s47 : sp.getD 47 none = some (.inl (.bool true)) := by rw [hsp]; rfl
  have s48 : sp.getD 48 none = some (.inl (.bool true)) := by rw [hsp]; rfl
  have s49 : sp.getD 49 none = some (.inl (.agg #[.int .i64 0, .int .i64 0])) := by rw [hsp]; rfl
  have s50 : sp.getD 50 none = some (.inl (.agg #[.int .i64 1, .int .i64 1])) := by rw [hsp]; rfl
  have s51 : sp.getD 51 none = some (.inl (.agg #[.int .i64 0, .int .i64 4])) := by rw [hsp]; rfl
  have s52 : sp.getD 52 none = some (.inl (.agg #[.int .i64 4, .int .i64 0])) := by rw [hsp]; rfl
  have s53 : sp.getD 53 none = some (.inl (.bool false)) := by rw [hsp]; rfl
  have s54 : sp.getD 54 none = some (.inl (.bool true)) := by rw [hsp]; rfl
  have s55 : sp.getD 55 none = some (.inl (.bool true)) := by rw [hsp]; rfl
  have s56 : sp.getD 56 none = some (.inl (.bool true)) := by rw [hsp]; rfl
  have s57 : sp.getD 57 none = some (.inl (.agg #[.int .i64 0, .int .i64 0])) := by rw [hsp]; rfl
  have s58 : sp.getD 58 none = some (.inl (.agg #[.int .i64 2, .int .i64 1])) := by rw [hsp]; rfl
  have s59 : sp.getD 59 none = some (.inr [(0, 0), (2, 1)]) := by rw [hsp]; rfl
  have s60 : sp.getD 60 none = some (.inl (.agg #[.int .i64 5, .int .i64 5])) := by rw [hsp]; rfl
  have s61 : sp.getD 61 none = some (.inr [(5, 5)]) := by rw [hsp]; rfl
  have s62 : sp.getD 62 none = some (.inl (.int .i64 4)) := by rw [hsp]; rfl
  have s63 : sp.getD 63 none = some (.inl (.bool true)) := by rw [hsp]; rfl
  have s64 : sp.getD 64 none = some (.inl (.bool true)) := by rw [hsp]; rfl
  have s65 : sp.getD 65 none = some (.inl (.bool true)) := by rw [hsp]; rfl
  have s66 : sp.getD 66 none = some (.inl (.agg #[.int .i64 0, .int .i64 0])) := by rw [hsp]; rfl
  have s67 : sp.getD 67 none = some (.inl (.agg #[.int .i64 0, .int .i64 0])) := by rw [hsp]; rfl
  have s68 : sp.getD 68 none = some (.inl (.bool true)) := by rw [hsp]; rfl
  have s69 : sp.getD 69 none = some (.inl (.bool true)) := by rw [hsp]; rfl
  have s70 : sp.getD 70 none = some (.inl (.bool true)) := by rw [hsp]; rfl
  have s71 : sp.getD 71 none = some (.inl (.agg #[.int .i64 2, .int .i64 1])) := by rw [hsp]; rfl
  have s72 : sp.getD 72 none = some (.inl (.agg #[.int .i64 2, .int .i64 1])) := by rw [hsp]; rfl
  have s73 : sp.getD 73 none = some (.inl (.bool true)) := by rw [hsp]; rfl
  have s74 : sp.getD 74 none = some (.inl (.bool true)) := by rw [hsp]; rfl
  have s75 : sp.getD 75 none = some (.inl (.bool true)) := by rw [hsp]; rfl
  have s76 : sp.getD 76 none = some (.inl (.agg #[.int .i64 0, .int .i64 0])) := by rw [hsp]; rfl
  have s77 : sp.getD 77 none = some (.inl (.agg #[.int .i64 0, .int .i64 0])) := by rw [hsp]; rfl
  have s78 : sp.getD 78 none = some (.inl (.bool true)) := by rw [hsp]; rfl
  have s79 : sp.getD 79 none = some (.inl (.bool true)) := by rw [hsp]; rfl
  have s80 : sp.getD 80 none = some (.inl (.bool true)) := by rw [hsp]; rfl
  have s81 : sp.getD 81 none = some (.inl (.agg #[.int .i64 0, .int .i64 0])) := by rw [hsp]; rfl
  have s82 : sp.getD 82 none = some (.inl (.agg #[.int .i64 0, .int .i64 0])) := by rw [hsp]; rfl
  have s83 : sp.getD 83 none = some (.inl (.bool true)) := by rw [hsp]; rfl
  have s84 : sp.getD 84 none = some (.inl (.bool true)) := by rw [hsp]; rfl
  have s85 : sp.getD 85 none = some (.inl (.bool true)) := by rw [hsp]; rfl
  have s86 : sp.getD 86 none = some (.inl (.agg #[.int .i64 1, .int .i64 2])) := by rw [hsp]; rfl
  have s87 : sp.getD 87 none = some (.inl (.agg #[.int .i64 3, .int .i64 4])) := by rw [hsp]; rfl
  have s88 : sp.getD 88 none = some (.inl (.agg #[.int .i64 4, .int .i64 6])) := by rw [hsp]; rfl
  have s89 : sp.getD 89 none = some (.inl (.agg #[.int .i64 4, .int .i64 6])) := by rw [hsp]; rfl
  have s90 : sp.getD 90 none = some (.inl (.bool true)) := by rw [hsp]; rfl
  have s91 : sp.getD 91 none = some (.inl (.bool true)) := by rw [hsp]; rfl
  have s92 : sp.getD 92 none = some (.inl (.bool true)) := by rw [hsp]; rfl
  have s93 : sp.getD 93 none = some (.inl (.agg #[.int .i64 1, .int .i64 2])) := by rw [hsp]; rfl
  have s94 : sp.getD 94 none = some (.inl (.agg #[.int .i64 3, .int .i64 5])) := by rw [hsp]; rfl
  have s95 : sp.getD 95 none = some (.inl (.agg #[.int .i64 (-2), .int .i64 (-3)])) := by rw [hsp]; rfl
  have s96 : sp.getD 96 none = some (.inl (.agg #[.int .i64 (-2), .int .i64 (-3)])) := by rw [hsp]; rfl
  have s97 : sp.getD 97 none = some (.inl (.bool true)) := by rw [hsp]; rfl
  have s98 : sp.getD 98 none = some (.inl (.bool true)) := by rw [hsp]; rfl
  clear hsp
  refine region_obs sp (by kernel_rfl) (by kernel_rfl) ?_ ?_
  · rw [List.toList_toArray]
    refine obs_cons ?_ ?_
    · intro T w K hB hF hD hK
      refine ob_yes (wanted_none rfl) ?_
      clear hF hD
      go_simp
      refine (at_any 0 0 _).mono ?_; rintro e w9 ⟨rfl, hb⟩
      exact hK _ _ hb (rt_eq s16)
    refine obs_cons ?_ ?_
    · intro T w K hB hF hD hK
      refine ob_yes (wanted_none rfl) ?_
      clear hF hD
      go_simp
      refine (at_any 2 0 _).mono ?_; rintro e w9 ⟨rfl, hb⟩
      exact hK _ _ hb (rt_eq s17)
    refine obs_cons ?_ ?_
    · intro T w K hB hF hD hK
      refine ob_yes (wanted_none rfl) ?_
      clear hF hD
      go_simp
      refine (at_any 1 1 _).mono ?_; rintro e w9 ⟨rfl, hb⟩
      exact hK _ _ hb (rt_eq s18)
    refine obs_cons ?_ ?_
    · intro T w K hB hF hD hK
      have g16 := get_eq (hD 0 16 (by simp [Region.binds]) (by kernel_rfl)) s16
      have g17 := get_eq (hD 1 17 (by simp [Region.binds]) (by kernel_rfl)) s17
      have g18 := get_eq (hD 2 18 (by simp [Region.binds]) (by kernel_rfl)) s18
      refine ob_yes (wanted_none rfl) ?_
      clear hF hD
      go_simp
      refine (hd_o1 _).mono ?_; rintro e w9 ⟨rfl, hb⟩
      exact hK _ _ hb (rt_eq s19)
    refine obs_cons ?_ ?_
    · intro T w K hB hF hD hK
      have g19 := get_eq (hD 3 19 (by simp [Region.binds]) (by kernel_rfl)) s19
      refine ob_yes (wanted_none rfl) ?_
      clear hF hD
      go_simp
      exact hK _ _ (Below.refl _ _) (rt_eq s20)
    refine obs_cons ?_ ?_
    · intro T w K hB hF hD hK
      have g20 := get_eq (hD 4 20 (by simp [Region.binds]) (by kernel_rfl)) s20
      refine ob_yes (wanted_none rfl) ?_
      clear hF hD
      go_simp
      exact hK _ _ (Below.refl _ _) (rt_eq s21)
    refine obs_cons ?_ ?_
    · intro T w K hB hF hD hK
      have g21 := get_eq (hD 5 21 (by simp [Region.binds]) (by kernel_rfl)) s21
      refine ob_yes (wanted_yes rfl (by kernel_rfl) g21) ?_
      clear hF hD
      go_simp
      refine (at_any 0 0 _).mono ?_; rintro e w9 ⟨rfl, hb⟩
      exact hK _ _ hb (rt_eq s22)
    refine obs_cons ?_ ?_
    · intro T w K hB hF hD hK
      have g21 := get_eq (hD 5 21 (by simp [Region.binds]) (by kernel_rfl)) s21
      refine ob_yes (wanted_yes rfl (by kernel_rfl) g21) ?_
      clear hF hD
      go_simp
      refine (at_any 2 0 _).mono ?_; rintro e w9 ⟨rfl, hb⟩
      exact hK _ _ hb (rt_eq s23)
    refine obs_cons ?_ ?_
    · intro T w K hB hF hD hK
      have g21 := get_eq (hD 5 21 (by simp [Region.binds]) (by kernel_rfl)) s21
      refine ob_yes (wanted_yes rfl (by kernel_rfl) g21) ?_
      clear hF hD
      go_simp
      refine (at_any 1 (-1) _).mono ?_; rintro e w9 ⟨rfl, hb⟩
      exact hK _ _ hb (rt_eq s24)
    refine obs_cons ?_ ?_
    · intro T w K hB hF hD hK
      have g21 := get_eq (hD 5 21 (by simp [Region.binds]) (by kernel_rfl)) s21
      have g22 := get_eq (hD 6 22 (by simp [Region.binds]) (by kernel_rfl)) s22
      have g23 := get_eq (hD 7 23 (by simp [Region.binds]) (by kernel_rfl)) s23
      have g24 := get_eq (hD 8 24 (by simp [Region.binds]) (by kernel_rfl)) s24
      refine ob_yes (wanted_yes rfl (by kernel_rfl) g21) ?_
      clear hF hD
      go_simp
      refine (hd_o2 _).mono ?_; rintro e w9 ⟨rfl, hb⟩
      exact hK _ _ hb (rt_eq s25)
    refine obs_cons ?_ ?_
    · intro T w K hB hF hD hK
      have g21 := get_eq (hD 5 21 (by simp [Region.binds]) (by kernel_rfl)) s21
      have g25 := get_eq (hD 9 25 (by simp [Region.binds]) (by kernel_rfl)) s25
      refine ob_yes (wanted_yes rfl (by kernel_rfl) g21) ?_
      clear hF hD
      go_simp
      exact hK _ _ (Below.refl _ _) (rt_eq s26)
    refine obs_cons ?_ ?_
    · intro T w K hB hF hD hK
      have g21 := get_eq (hD 5 21 (by simp [Region.binds]) (by kernel_rfl)) s21
      have g26 := get_eq (hD 10 26 (by simp [Region.binds]) (by kernel_rfl)) s26
      refine ob_yes (wanted_none rfl) ?_
      clear hF hD
      go_simp
      exact hK _ _ (Below.refl _ _) (rt_eq s27)
    refine obs_cons ?_ ?_
    · intro T w K hB hF hD hK
      have g27 := get_eq (hD 11 27 (by simp [Region.binds]) (by kernel_rfl)) s27
      refine ob_yes (wanted_none rfl) ?_
      clear hF hD
      go_simp
      exact hK _ _ (Below.refl _ _) (rt_eq s28)
    refine obs_cons ?_ ?_
    · intro T w K hB hF hD hK
      have g28 := get_eq (hD 12 28 (by simp [Region.binds]) (by kernel_rfl)) s28
      refine ob_yes (wanted_yes rfl (by kernel_rfl) g28) ?_
      clear hF hD
      go_simp
      refine (at_any 0 0 _).mono ?_; rintro e w9 ⟨rfl, hb⟩
      exact hK _ _ hb (rt_eq s29)
    refine obs_cons ?_ ?_
    · intro T w K hB hF hD hK
      have g28 := get_eq (hD 12 28 (by simp [Region.binds]) (by kernel_rfl)) s28
      refine ob_yes (wanted_yes rfl (by kernel_rfl) g28) ?_
      clear hF hD
      go_simp
      refine (at_any 4 2 _).mono ?_; rintro e w9 ⟨rfl, hb⟩
      exact hK _ _ hb (rt_eq s30)
    refine obs_cons ?_ ?_
    · intro T w K hB hF hD hK
      have g28 := get_eq (hD 12 28 (by simp [Region.binds]) (by kernel_rfl)) s28
      refine ob_yes (wanted_yes rfl (by kernel_rfl) g28) ?_
      clear hF hD
      go_simp
      refine (at_any 2 1 _).mono ?_; rintro e w9 ⟨rfl, hb⟩
      exact hK _ _ hb (rt_eq s31)
    refine obs_cons ?_ ?_
    · intro T w K hB hF hD hK
      have g28 := get_eq (hD 12 28 (by simp [Region.binds]) (by kernel_rfl)) s28
      have g29 := get_eq (hD 13 29 (by simp [Region.binds]) (by kernel_rfl)) s29
      have g30 := get_eq (hD 14 30 (by simp [Region.binds]) (by kernel_rfl)) s30
      have g31 := get_eq (hD 15 31 (by simp [Region.binds]) (by kernel_rfl)) s31
      refine ob_yes (wanted_yes rfl (by kernel_rfl) g28) ?_
      clear hF hD
      go_simp
      refine (hd_n1 _).mono ?_; rintro e w9 ⟨rfl, hb⟩
      exact hK _ _ hb (rt_eq s32)
    refine obs_cons ?_ ?_
    · intro T w K hB hF hD hK
      have g28 := get_eq (hD 12 28 (by simp [Region.binds]) (by kernel_rfl)) s28
      have g32 := get_eq (hD 16 32 (by simp [Region.binds]) (by kernel_rfl)) s32
      refine ob_yes (wanted_none rfl) ?_
      clear hF hD
      go_simp
      exact hK _ _ (Below.refl _ _) (rt_eq s33)
    refine obs_cons ?_ ?_
    · intro T w K hB hF hD hK
      have g33 := get_eq (hD 17 33 (by simp [Region.binds]) (by kernel_rfl)) s33
      refine ob_yes (wanted_none rfl) ?_
      clear hF hD
      go_simp
      exact hK _ _ (Below.refl _ _) (rt_eq s34)
    refine obs_cons ?_ ?_
    · intro T w K hB hF hD hK
      have g34 := get_eq (hD 18 34 (by simp [Region.binds]) (by kernel_rfl)) s34
      refine ob_yes (wanted_yes rfl (by kernel_rfl) g34) ?_
      clear hF hD
      go_simp
      refine (at_any 0 0 _).mono ?_; rintro e w9 ⟨rfl, hb⟩
      exact hK _ _ hb (rt_eq s35)
    refine obs_cons ?_ ?_
    · intro T w K hB hF hD hK
      have g34 := get_eq (hD 18 34 (by simp [Region.binds]) (by kernel_rfl)) s34
      refine ob_yes (wanted_yes rfl (by kernel_rfl) g34) ?_
      clear hF hD
      go_simp
      refine (at_any 4 2 _).mono ?_; rintro e w9 ⟨rfl, hb⟩
      exact hK _ _ hb (rt_eq s36)
    refine obs_cons ?_ ?_
    · intro T w K hB hF hD hK
      have g34 := get_eq (hD 18 34 (by simp [Region.binds]) (by kernel_rfl)) s34
      refine ob_yes (wanted_yes rfl (by kernel_rfl) g34) ?_
      clear hF hD
      go_simp
      refine (at_any 6 3 _).mono ?_; rintro e w9 ⟨rfl, hb⟩
      exact hK _ _ hb (rt_eq s37)
    refine obs_cons ?_ ?_
    · intro T w K hB hF hD hK
      have g34 := get_eq (hD 18 34 (by simp [Region.binds]) (by kernel_rfl)) s34
      have g35 := get_eq (hD 19 35 (by simp [Region.binds]) (by kernel_rfl)) s35
      have g36 := get_eq (hD 20 36 (by simp [Region.binds]) (by kernel_rfl)) s36
      have g37 := get_eq (hD 21 37 (by simp [Region.binds]) (by kernel_rfl)) s37
      refine ob_yes (wanted_yes rfl (by kernel_rfl) g34) ?_
      clear hF hD
      go_simp
      refine (hd_n2 _).mono ?_; rintro e w9 ⟨rfl, hb⟩
      exact hK _ _ hb (rt_eq s38)
    refine obs_cons ?_ ?_
    · intro T w K hB hF hD hK
      have g34 := get_eq (hD 18 34 (by simp [Region.binds]) (by kernel_rfl)) s34
      have g38 := get_eq (hD 22 38 (by simp [Region.binds]) (by kernel_rfl)) s38
      refine ob_yes (wanted_yes rfl (by kernel_rfl) g34) ?_
      clear hF hD
      go_simp
      exact hK _ _ (Below.refl _ _) (rt_eq s39)
    refine obs_cons ?_ ?_
    · intro T w K hB hF hD hK
      have g34 := get_eq (hD 18 34 (by simp [Region.binds]) (by kernel_rfl)) s34
      have g39 := get_eq (hD 23 39 (by simp [Region.binds]) (by kernel_rfl)) s39
      refine ob_yes (wanted_none rfl) ?_
      clear hF hD
      go_simp
      exact hK _ _ (Below.refl _ _) (rt_eq s40)
    refine obs_cons ?_ ?_
    · intro T w K hB hF hD hK
      have g40 := get_eq (hD 24 40 (by simp [Region.binds]) (by kernel_rfl)) s40
      refine ob_yes (wanted_none rfl) ?_
      clear hF hD
      go_simp
      exact hK _ _ (Below.refl _ _) (rt_eq s41)
    refine obs_cons ?_ ?_
    · intro T w K hB hF hD hK
      have g41 := get_eq (hD 25 41 (by simp [Region.binds]) (by kernel_rfl)) s41
      refine ob_yes (wanted_yes rfl (by kernel_rfl) g41) ?_
      clear hF hD
      go_simp
      refine (at_any 0 0 _).mono ?_; rintro e w9 ⟨rfl, hb⟩
      exact hK _ _ hb (rt_eq s42)
    refine obs_cons ?_ ?_
    · intro T w K hB hF hD hK
      have g41 := get_eq (hD 25 41 (by simp [Region.binds]) (by kernel_rfl)) s41
      refine ob_yes (wanted_yes rfl (by kernel_rfl) g41) ?_
      clear hF hD
      go_simp
      refine (at_any 4 4 _).mono ?_; rintro e w9 ⟨rfl, hb⟩
      exact hK _ _ hb (rt_eq s43)
    refine obs_cons ?_ ?_
    · intro T w K hB hF hD hK
      have g41 := get_eq (hD 25 41 (by simp [Region.binds]) (by kernel_rfl)) s41
      refine ob_yes (wanted_yes rfl (by kernel_rfl) g41) ?_
      clear hF hD
      go_simp
      refine (at_any 0 4 _).mono ?_; rintro e w9 ⟨rfl, hb⟩
      exact hK _ _ hb (rt_eq s44)
    refine obs_cons ?_ ?_
    · intro T w K hB hF hD hK
      have g41 := get_eq (hD 25 41 (by simp [Region.binds]) (by kernel_rfl)) s41
      refine ob_yes (wanted_yes rfl (by kernel_rfl) g41) ?_
      clear hF hD
      go_simp
      refine (at_any 4 0 _).mono ?_; rintro e w9 ⟨rfl, hb⟩
      exact hK _ _ hb (rt_eq s45)
    refine obs_cons ?_ ?_
    · intro T w K hB hF hD hK
      have g41 := get_eq (hD 25 41 (by simp [Region.binds]) (by kernel_rfl)) s41
      have g42 := get_eq (hD 26 42 (by simp [Region.binds]) (by kernel_rfl)) s42
      have g43 := get_eq (hD 27 43 (by simp [Region.binds]) (by kernel_rfl)) s43
      have g44 := get_eq (hD 28 44 (by simp [Region.binds]) (by kernel_rfl)) s44
      have g45 := get_eq (hD 29 45 (by simp [Region.binds]) (by kernel_rfl)) s45
      refine ob_yes (wanted_yes rfl (by kernel_rfl) g41) ?_
      clear hF hD
      go_simp
      refine (hd_x1 _).mono ?_; rintro e w9 ⟨rfl, hb⟩
      exact hK _ _ hb (rt_eq s46)
    refine obs_cons ?_ ?_
    · intro T w K hB hF hD hK
      have g41 := get_eq (hD 25 41 (by simp [Region.binds]) (by kernel_rfl)) s41
      have g46 := get_eq (hD 30 46 (by simp [Region.binds]) (by kernel_rfl)) s46
      refine ob_yes (wanted_none rfl) ?_
      clear hF hD
      go_simp
      exact hK _ _ (Below.refl _ _) (rt_eq s47)
    refine obs_cons ?_ ?_
    · intro T w K hB hF hD hK
      have g47 := get_eq (hD 31 47 (by simp [Region.binds]) (by kernel_rfl)) s47
      refine ob_yes (wanted_none rfl) ?_
      clear hF hD
      go_simp
      exact hK _ _ (Below.refl _ _) (rt_eq s48)
    refine obs_cons ?_ ?_
    · intro T w K hB hF hD hK
      have g48 := get_eq (hD 32 48 (by simp [Region.binds]) (by kernel_rfl)) s48
      refine ob_yes (wanted_yes rfl (by kernel_rfl) g48) ?_
      clear hF hD
      go_simp
      refine (at_any 0 0 _).mono ?_; rintro e w9 ⟨rfl, hb⟩
      exact hK _ _ hb (rt_eq s49)
    refine obs_cons ?_ ?_
    · intro T w K hB hF hD hK
      have g48 := get_eq (hD 32 48 (by simp [Region.binds]) (by kernel_rfl)) s48
      refine ob_yes (wanted_yes rfl (by kernel_rfl) g48) ?_
      clear hF hD
      go_simp
      refine (at_any 1 1 _).mono ?_; rintro e w9 ⟨rfl, hb⟩
      exact hK _ _ hb (rt_eq s50)
    refine obs_cons ?_ ?_
    · intro T w K hB hF hD hK
      have g48 := get_eq (hD 32 48 (by simp [Region.binds]) (by kernel_rfl)) s48
      refine ob_yes (wanted_yes rfl (by kernel_rfl) g48) ?_
      clear hF hD
      go_simp
      refine (at_any 0 4 _).mono ?_; rintro e w9 ⟨rfl, hb⟩
      exact hK _ _ hb (rt_eq s51)
    refine obs_cons ?_ ?_
    · intro T w K hB hF hD hK
      have g48 := get_eq (hD 32 48 (by simp [Region.binds]) (by kernel_rfl)) s48
      refine ob_yes (wanted_yes rfl (by kernel_rfl) g48) ?_
      clear hF hD
      go_simp
      refine (at_any 4 0 _).mono ?_; rintro e w9 ⟨rfl, hb⟩
      exact hK _ _ hb (rt_eq s52)
    refine obs_cons ?_ ?_
    · intro T w K hB hF hD hK
      have g48 := get_eq (hD 32 48 (by simp [Region.binds]) (by kernel_rfl)) s48
      have g49 := get_eq (hD 33 49 (by simp [Region.binds]) (by kernel_rfl)) s49
      have g50 := get_eq (hD 34 50 (by simp [Region.binds]) (by kernel_rfl)) s50
      have g51 := get_eq (hD 35 51 (by simp [Region.binds]) (by kernel_rfl)) s51
      have g52 := get_eq (hD 36 52 (by simp [Region.binds]) (by kernel_rfl)) s52
      refine ob_yes (wanted_yes rfl (by kernel_rfl) g48) ?_
      clear hF hD
      go_simp
      refine (hd_x2 _).mono ?_; rintro e w9 ⟨rfl, hb⟩
      exact hK _ _ hb (rt_eq s53)
    refine obs_cons ?_ ?_
    · intro T w K hB hF hD hK
      have g48 := get_eq (hD 32 48 (by simp [Region.binds]) (by kernel_rfl)) s48
      have g53 := get_eq (hD 37 53 (by simp [Region.binds]) (by kernel_rfl)) s53
      refine ob_yes (wanted_yes rfl (by kernel_rfl) g48) ?_
      clear hF hD
      go_simp
      exact hK _ _ (Below.refl _ _) (rt_eq s54)
    refine obs_cons ?_ ?_
    · intro T w K hB hF hD hK
      have g48 := get_eq (hD 32 48 (by simp [Region.binds]) (by kernel_rfl)) s48
      have g54 := get_eq (hD 38 54 (by simp [Region.binds]) (by kernel_rfl)) s54
      refine ob_yes (wanted_none rfl) ?_
      clear hF hD
      go_simp
      exact hK _ _ (Below.refl _ _) (rt_eq s55)
    refine obs_cons ?_ ?_
    · intro T w K hB hF hD hK
      have g55 := get_eq (hD 39 55 (by simp [Region.binds]) (by kernel_rfl)) s55
      refine ob_yes (wanted_none rfl) ?_
      clear hF hD
      go_simp
      exact hK _ _ (Below.refl _ _) (rt_eq s56)
    refine obs_cons ?_ ?_
    · intro T w K hB hF hD hK
      have g56 := get_eq (hD 40 56 (by simp [Region.binds]) (by kernel_rfl)) s56
      refine ob_yes (wanted_yes rfl (by kernel_rfl) g56) ?_
      clear hF hD
      go_simp
      refine (at_any 0 0 _).mono ?_; rintro e w9 ⟨rfl, hb⟩
      exact hK _ _ hb (rt_eq s57)
    refine obs_cons ?_ ?_
    · intro T w K hB hF hD hK
      have g56 := get_eq (hD 40 56 (by simp [Region.binds]) (by kernel_rfl)) s56
      refine ob_yes (wanted_yes rfl (by kernel_rfl) g56) ?_
      clear hF hD
      go_simp
      refine (at_any 2 1 _).mono ?_; rintro e w9 ⟨rfl, hb⟩
      exact hK _ _ hb (rt_eq s58)
    refine obs_cons ?_ ?_
    · intro T w K hB hF hD hK
      have g56 := get_eq (hD 40 56 (by simp [Region.binds]) (by kernel_rfl)) s56
      have g57 := get_eq (hD 41 57 (by simp [Region.binds]) (by kernel_rfl)) s57
      have g58 := get_eq (hD 42 58 (by simp [Region.binds]) (by kernel_rfl)) s58
      refine ob_yes (wanted_yes rfl (by kernel_rfl) g56) ?_
      clear hF hD
      go_simp
      exact hK _ _ (belA (Below.refl _ _) _) (rt_row s59 rfl (prow_two (cbx _ _ _ _ 0 _ rfl rfl) (cbx _ _ _ _ 1 _ rfl rfl) (cbx _ _ _ _ 2 _ rfl rfl) (cbx _ _ _ _ 3 _ rfl rfl)))
    refine obs_cons ?_ ?_
    · intro T w K hB hF hD hK
      have g56 := get_eq (hD 40 56 (by simp [Region.binds]) (by kernel_rfl)) s56
      refine ob_yes (wanted_yes rfl (by kernel_rfl) g56) ?_
      clear hF hD
      go_simp
      refine (at_any 5 5 _).mono ?_; rintro e w9 ⟨rfl, hb⟩
      exact hK _ _ hb (rt_eq s60)
    refine obs_cons ?_ ?_
    · intro T w K hB hF hD hK
      have g56 := get_eq (hD 40 56 (by simp [Region.binds]) (by kernel_rfl)) s56
      have g60 := get_eq (hD 44 60 (by simp [Region.binds]) (by kernel_rfl)) s60
      refine ob_yes (wanted_yes rfl (by kernel_rfl) g56) ?_
      clear hF hD
      go_simp
      exact hK _ _ (belA (Below.refl _ _) _) (rt_row s61 rfl (prow_one (cbx _ _ _ _ 0 _ rfl rfl) (cbx _ _ _ _ 1 _ rfl rfl)))
    refine obs_cons ?_ ?_
    · intro T w K hB hF hD hK
      have g56 := get_eq (hD 40 56 (by simp [Region.binds]) (by kernel_rfl)) s56
      obtain ⟨b59, c59, g59, p59⟩ := get_row (hD 43 59 (by simp [Region.binds]) (by kernel_rfl)) s59
      obtain ⟨b61, c61, g61, p61⟩ := get_row (hD 45 61 (by simp [Region.binds]) (by kernel_rfl)) s61
      refine ob_yes (wanted_yes rfl (by kernel_rfl) g56) ?_
      clear hF hD
      go_simp
      refine (hd_bd _ _ _ _ _ p59 p61).mono ?_; rintro e w9 ⟨rfl, hb⟩
      exact hK _ _ hb (rt_eq s62)
    refine obs_cons ?_ ?_
    · intro T w K hB hF hD hK
      have g56 := get_eq (hD 40 56 (by simp [Region.binds]) (by kernel_rfl)) s56
      have g62 := get_eq (hD 46 62 (by simp [Region.binds]) (by kernel_rfl)) s62
      refine ob_yes (wanted_yes rfl (by kernel_rfl) g56) ?_
      clear hF hD
      go_simp
      exact hK _ _ (Below.refl _ _) (rt_eq s63)
    refine obs_cons ?_ ?_
    · intro T w K hB hF hD hK
      have g56 := get_eq (hD 40 56 (by simp [Region.binds]) (by kernel_rfl)) s56
      have g63 := get_eq (hD 47 63 (by simp [Region.binds]) (by kernel_rfl)) s63
      refine ob_yes (wanted_none rfl) ?_
      clear hF hD
      go_simp
      exact hK _ _ (Below.refl _ _) (rt_eq s64)
    refine obs_cons ?_ ?_
    · intro T w K hB hF hD hK
      have g64 := get_eq (hD 48 64 (by simp [Region.binds]) (by kernel_rfl)) s64
      refine ob_yes (wanted_none rfl) ?_
      clear hF hD
      go_simp
      exact hK _ _ (Below.refl _ _) (rt_eq s65)
    refine obs_cons ?_ ?_
    · intro T w K hB hF hD hK
      have g65 := get_eq (hD 49 65 (by simp [Region.binds]) (by kernel_rfl)) s65
      have g1 : T[1]? = some (.pointer (some ⟨w3.heap.size, 0, none⟩)) := hF 1 (free_of (by kernel_rfl))
      refine ob_yes (wanted_yes rfl (by kernel_rfl) g65) ?_
      clear hF hD
      have c0 := cell_call k5 hB
      have c1 := cell_call k6 hB
      go_simp
      exact hK _ _ (Below.refl _ _) (rt_eq s66)
    refine obs_cons ?_ ?_
    · intro T w K hB hF hD hK
      have g65 := get_eq (hD 49 65 (by simp [Region.binds]) (by kernel_rfl)) s65
      refine ob_yes (wanted_yes rfl (by kernel_rfl) g65) ?_
      clear hF hD
      go_simp
      refine (at_any 0 0 _).mono ?_; rintro e w9 ⟨rfl, hb⟩
      exact hK _ _ hb (rt_eq s67)
    refine obs_cons ?_ ?_
    · intro T w K hB hF hD hK
      have g65 := get_eq (hD 49 65 (by simp [Region.binds]) (by kernel_rfl)) s65
      have g66 := get_eq (hD 50 66 (by simp [Region.binds]) (by kernel_rfl)) s66
      have g67 := get_eq (hD 51 67 (by simp [Region.binds]) (by kernel_rfl)) s67
      refine ob_yes (wanted_yes rfl (by kernel_rfl) g65) ?_
      clear hF hD
      go_simp
      exact hK _ _ (Below.refl _ _) (rt_eq s68)
    refine obs_cons ?_ ?_
    · intro T w K hB hF hD hK
      have g65 := get_eq (hD 49 65 (by simp [Region.binds]) (by kernel_rfl)) s65
      have g68 := get_eq (hD 52 68 (by simp [Region.binds]) (by kernel_rfl)) s68
      refine ob_yes (wanted_none rfl) ?_
      clear hF hD
      go_simp
      exact hK _ _ (Below.refl _ _) (rt_eq s69)
    refine obs_cons ?_ ?_
    · intro T w K hB hF hD hK
      have g69 := get_eq (hD 53 69 (by simp [Region.binds]) (by kernel_rfl)) s69
      refine ob_yes (wanted_none rfl) ?_
      clear hF hD
      go_simp
      exact hK _ _ (Below.refl _ _) (rt_eq s70)
    refine obs_cons ?_ ?_
    · intro T w K hB hF hD hK
      have g70 := get_eq (hD 54 70 (by simp [Region.binds]) (by kernel_rfl)) s70
      have g2 : T[2]? = some (.pointer (some ⟨w3.heap.size + 1, 0, none⟩)) := hF 2 (free_of (by kernel_rfl))
      refine ob_yes (wanted_yes rfl (by kernel_rfl) g70) ?_
      clear hF hD
      have c0 := cell_call k7 hB
      have c1 := cell_call k8 hB
      go_simp
      exact hK _ _ (Below.refl _ _) (rt_eq s71)
    refine obs_cons ?_ ?_
    · intro T w K hB hF hD hK
      have g70 := get_eq (hD 54 70 (by simp [Region.binds]) (by kernel_rfl)) s70
      refine ob_yes (wanted_yes rfl (by kernel_rfl) g70) ?_
      clear hF hD
      go_simp
      refine (at_any 2 1 _).mono ?_; rintro e w9 ⟨rfl, hb⟩
      exact hK _ _ hb (rt_eq s72)
    refine obs_cons ?_ ?_
    · intro T w K hB hF hD hK
      have g70 := get_eq (hD 54 70 (by simp [Region.binds]) (by kernel_rfl)) s70
      have g71 := get_eq (hD 55 71 (by simp [Region.binds]) (by kernel_rfl)) s71
      have g72 := get_eq (hD 56 72 (by simp [Region.binds]) (by kernel_rfl)) s72
      refine ob_yes (wanted_yes rfl (by kernel_rfl) g70) ?_
      clear hF hD
      go_simp
      exact hK _ _ (Below.refl _ _) (rt_eq s73)
    refine obs_cons ?_ ?_
    · intro T w K hB hF hD hK
      have g70 := get_eq (hD 54 70 (by simp [Region.binds]) (by kernel_rfl)) s70
      have g73 := get_eq (hD 57 73 (by simp [Region.binds]) (by kernel_rfl)) s73
      refine ob_yes (wanted_none rfl) ?_
      clear hF hD
      go_simp
      exact hK _ _ (Below.refl _ _) (rt_eq s74)
    refine obs_cons ?_ ?_
    · intro T w K hB hF hD hK
      have g74 := get_eq (hD 58 74 (by simp [Region.binds]) (by kernel_rfl)) s74
      refine ob_yes (wanted_none rfl) ?_
      clear hF hD
      go_simp
      exact hK _ _ (Below.refl _ _) (rt_eq s75)
    refine obs_cons ?_ ?_
    · intro T w K hB hF hD hK
      have g75 := get_eq (hD 59 75 (by simp [Region.binds]) (by kernel_rfl)) s75
      have g3 : T[3]? = some (.pointer (some ⟨w4.heap.size, 0, none⟩)) := hF 3 (free_of (by kernel_rfl))
      refine ob_yes (wanted_yes rfl (by kernel_rfl) g75) ?_
      clear hF hD
      have c0 := cell_call k9 hB
      have c1 := cell_call k10 hB
      go_simp
      exact hK _ _ (Below.refl _ _) (rt_eq s76)
    refine obs_cons ?_ ?_
    · intro T w K hB hF hD hK
      have g75 := get_eq (hD 59 75 (by simp [Region.binds]) (by kernel_rfl)) s75
      have g4 : T[4]? = some (.pointer (some ⟨w4.heap.size + 1, 0, none⟩)) := hF 4 (free_of (by kernel_rfl))
      refine ob_yes (wanted_yes rfl (by kernel_rfl) g75) ?_
      clear hF hD
      have c0 := cell_call k11 hB
      have c1 := cell_call k12 hB
      go_simp
      exact hK _ _ (Below.refl _ _) (rt_eq s77)
    refine obs_cons ?_ ?_
    · intro T w K hB hF hD hK
      have g75 := get_eq (hD 59 75 (by simp [Region.binds]) (by kernel_rfl)) s75
      have g76 := get_eq (hD 60 76 (by simp [Region.binds]) (by kernel_rfl)) s76
      have g77 := get_eq (hD 61 77 (by simp [Region.binds]) (by kernel_rfl)) s77
      refine ob_yes (wanted_yes rfl (by kernel_rfl) g75) ?_
      clear hF hD
      go_simp
      exact hK _ _ (Below.refl _ _) (rt_eq s78)
    refine obs_cons ?_ ?_
    · intro T w K hB hF hD hK
      have g75 := get_eq (hD 59 75 (by simp [Region.binds]) (by kernel_rfl)) s75
      have g78 := get_eq (hD 62 78 (by simp [Region.binds]) (by kernel_rfl)) s78
      refine ob_yes (wanted_none rfl) ?_
      clear hF hD
      go_simp
      exact hK _ _ (Below.refl _ _) (rt_eq s79)
    refine obs_cons ?_ ?_
    · intro T w K hB hF hD hK
      have g79 := get_eq (hD 63 79 (by simp [Region.binds]) (by kernel_rfl)) s79
      refine ob_yes (wanted_none rfl) ?_
      clear hF hD
      go_simp
      exact hK _ _ (Below.refl _ _) (rt_eq s80)
    refine obs_cons ?_ ?_
    · intro T w K hB hF hD hK
      have g80 := get_eq (hD 64 80 (by simp [Region.binds]) (by kernel_rfl)) s80
      have g3 : T[3]? = some (.pointer (some ⟨w4.heap.size, 0, none⟩)) := hF 3 (free_of (by kernel_rfl))
      refine ob_yes (wanted_yes rfl (by kernel_rfl) g80) ?_
      clear hF hD
      have c0 := cell_call k9 hB
      have c1 := cell_call k10 hB
      go_simp
      exact hK _ _ (Below.refl _ _) (rt_eq s81)
    refine obs_cons ?_ ?_
    · intro T w K hB hF hD hK
      have g80 := get_eq (hD 64 80 (by simp [Region.binds]) (by kernel_rfl)) s80
      refine ob_yes (wanted_yes rfl (by kernel_rfl) g80) ?_
      clear hF hD
      go_simp
      refine (at_any 0 0 _).mono ?_; rintro e w9 ⟨rfl, hb⟩
      exact hK _ _ hb (rt_eq s82)
    refine obs_cons ?_ ?_
    · intro T w K hB hF hD hK
      have g80 := get_eq (hD 64 80 (by simp [Region.binds]) (by kernel_rfl)) s80
      have g81 := get_eq (hD 65 81 (by simp [Region.binds]) (by kernel_rfl)) s81
      have g82 := get_eq (hD 66 82 (by simp [Region.binds]) (by kernel_rfl)) s82
      refine ob_yes (wanted_yes rfl (by kernel_rfl) g80) ?_
      clear hF hD
      go_simp
      exact hK _ _ (Below.refl _ _) (rt_eq s83)
    refine obs_cons ?_ ?_
    · intro T w K hB hF hD hK
      have g80 := get_eq (hD 64 80 (by simp [Region.binds]) (by kernel_rfl)) s80
      have g83 := get_eq (hD 67 83 (by simp [Region.binds]) (by kernel_rfl)) s83
      refine ob_yes (wanted_none rfl) ?_
      clear hF hD
      go_simp
      exact hK _ _ (Below.refl _ _) (rt_eq s84)
    refine obs_cons ?_ ?_
    · intro T w K hB hF hD hK
      have g84 := get_eq (hD 68 84 (by simp [Region.binds]) (by kernel_rfl)) s84
      refine ob_yes (wanted_none rfl) ?_
      clear hF hD
      go_simp
      exact hK _ _ (Below.refl _ _) (rt_eq s85)
    refine obs_cons ?_ ?_
    · intro T w K hB hF hD hK
      have g85 := get_eq (hD 69 85 (by simp [Region.binds]) (by kernel_rfl)) s85
      refine ob_yes (wanted_yes rfl (by kernel_rfl) g85) ?_
      clear hF hD
      go_simp
      refine (at_any 1 2 _).mono ?_; rintro e w9 ⟨rfl, hb⟩
      exact hK _ _ hb (rt_eq s86)
    refine obs_cons ?_ ?_
    · intro T w K hB hF hD hK
      have g85 := get_eq (hD 69 85 (by simp [Region.binds]) (by kernel_rfl)) s85
      refine ob_yes (wanted_yes rfl (by kernel_rfl) g85) ?_
      clear hF hD
      go_simp
      refine (at_any 3 4 _).mono ?_; rintro e w9 ⟨rfl, hb⟩
      exact hK _ _ hb (rt_eq s87)
    refine obs_cons ?_ ?_
    · intro T w K hB hF hD hK
      have g85 := get_eq (hD 69 85 (by simp [Region.binds]) (by kernel_rfl)) s85
      have g86 := get_eq (hD 70 86 (by simp [Region.binds]) (by kernel_rfl)) s86
      have g87 := get_eq (hD 71 87 (by simp [Region.binds]) (by kernel_rfl)) s87
      refine ob_yes (wanted_yes rfl (by kernel_rfl) g85) ?_
      clear hF hD
      go_simp
      refine (hd_ad _).mono ?_; rintro e w9 ⟨rfl, hb⟩
      exact hK _ _ hb (rt_eq s88)
    refine obs_cons ?_ ?_
    · intro T w K hB hF hD hK
      have g85 := get_eq (hD 69 85 (by simp [Region.binds]) (by kernel_rfl)) s85
      refine ob_yes (wanted_yes rfl (by kernel_rfl) g85) ?_
      clear hF hD
      go_simp
      refine (at_any 4 6 _).mono ?_; rintro e w9 ⟨rfl, hb⟩
      exact hK _ _ hb (rt_eq s89)
    refine obs_cons ?_ ?_
    · intro T w K hB hF hD hK
      have g85 := get_eq (hD 69 85 (by simp [Region.binds]) (by kernel_rfl)) s85
      have g88 := get_eq (hD 72 88 (by simp [Region.binds]) (by kernel_rfl)) s88
      have g89 := get_eq (hD 73 89 (by simp [Region.binds]) (by kernel_rfl)) s89
      refine ob_yes (wanted_yes rfl (by kernel_rfl) g85) ?_
      clear hF hD
      go_simp
      exact hK _ _ (Below.refl _ _) (rt_eq s90)
    refine obs_cons ?_ ?_
    · intro T w K hB hF hD hK
      have g85 := get_eq (hD 69 85 (by simp [Region.binds]) (by kernel_rfl)) s85
      have g90 := get_eq (hD 74 90 (by simp [Region.binds]) (by kernel_rfl)) s90
      refine ob_yes (wanted_none rfl) ?_
      clear hF hD
      go_simp
      exact hK _ _ (Below.refl _ _) (rt_eq s91)
    refine obs_cons ?_ ?_
    · intro T w K hB hF hD hK
      have g91 := get_eq (hD 75 91 (by simp [Region.binds]) (by kernel_rfl)) s91
      refine ob_yes (wanted_none rfl) ?_
      clear hF hD
      go_simp
      exact hK _ _ (Below.refl _ _) (rt_eq s92)
    refine obs_cons ?_ ?_
    · intro T w K hB hF hD hK
      have g92 := get_eq (hD 76 92 (by simp [Region.binds]) (by kernel_rfl)) s92
      refine ob_yes (wanted_yes rfl (by kernel_rfl) g92) ?_
      clear hF hD
      go_simp
      refine (at_any 1 2 _).mono ?_; rintro e w9 ⟨rfl, hb⟩
      exact hK _ _ hb (rt_eq s93)
    refine obs_cons ?_ ?_
    · intro T w K hB hF hD hK
      have g92 := get_eq (hD 76 92 (by simp [Region.binds]) (by kernel_rfl)) s92
      refine ob_yes (wanted_yes rfl (by kernel_rfl) g92) ?_
      clear hF hD
      go_simp
      refine (at_any 3 5 _).mono ?_; rintro e w9 ⟨rfl, hb⟩
      exact hK _ _ hb (rt_eq s94)
    refine obs_cons ?_ ?_
    · intro T w K hB hF hD hK
      have g92 := get_eq (hD 76 92 (by simp [Region.binds]) (by kernel_rfl)) s92
      have g93 := get_eq (hD 77 93 (by simp [Region.binds]) (by kernel_rfl)) s93
      have g94 := get_eq (hD 78 94 (by simp [Region.binds]) (by kernel_rfl)) s94
      refine ob_yes (wanted_yes rfl (by kernel_rfl) g92) ?_
      clear hF hD
      go_simp
      refine (hd_su _).mono ?_; rintro e w9 ⟨rfl, hb⟩
      exact hK _ _ hb (rt_eq s95)
    refine obs_cons ?_ ?_
    · intro T w K hB hF hD hK
      have g92 := get_eq (hD 76 92 (by simp [Region.binds]) (by kernel_rfl)) s92
      refine ob_yes (wanted_yes rfl (by kernel_rfl) g92) ?_
      clear hF hD
      go_simp
      refine (at_any (-2) (-3) _).mono ?_; rintro e w9 ⟨rfl, hb⟩
      exact hK _ _ hb (rt_eq s96)
    refine obs_cons ?_ ?_
    · intro T w K hB hF hD hK
      have g92 := get_eq (hD 76 92 (by simp [Region.binds]) (by kernel_rfl)) s92
      have g95 := get_eq (hD 79 95 (by simp [Region.binds]) (by kernel_rfl)) s95
      have g96 := get_eq (hD 80 96 (by simp [Region.binds]) (by kernel_rfl)) s96
      refine ob_yes (wanted_yes rfl (by kernel_rfl) g92) ?_
      clear hF hD
      go_simp
      exact hK _ _ (Below.refl _ _) (rt_eq s97)
    refine obs_cons ?_ ?_
    · intro T w K hB hF hD hK
      have g92 := get_eq (hD 76 92 (by simp [Region.binds]) (by kernel_rfl)) s92
      have g97 := get_eq (hD 81 97 (by simp [Region.binds]) (by kernel_rfl)) s97
      refine ob_yes (wanted_none rfl) ?_
      clear hF hD
      go_simp
      exact hK _ _ (Below.refl _ _) (rt_eq s98)
    refine obs_cons ?_ ?_
    · intro T w K hB hF hD hK
      have g98 := get_eq (hD 82 98 (by simp [Region.binds]) (by kernel_rfl)) s98
      refine ob_yes (wanted_none rfl) ?_
      clear hF hD
      go_simp
      exact hK _ _ (Below.refl _ _) (rt_eq s0)
    exact obs_nil
  · intro T w' hb hF hs hD
    have g0 := get_eq (hD 83 0 (by kernel_rfl)) s0
    have fin := Lib.hid (hB.trans (hb.mono hB.size))
    clear hF hD hs hb
    go_wp2_with fail
    refine bodyPost_ret (v := .bool true) (by simp [results, Try.results5, go_sem, g0]) rfl ?_
    exact ⟨rfl, fin.out⟩
end Go.Proofs.Ythmcejeeohlafaa
