/- head of the statements of layer 3: the chapter's examples; it returns true in every world in which the table of rotations lies. -/
import Derived.Test.YthmcejeeohlafaaDoorPolI
namespace Go.Proofs.YthmcejeeohlafaaDoor
open Go.ChangeShapes Go.WideShapes Go.ChangeAt Go.RowKit
set_option linter.unusedVariables false
set_option linter.unusedSimpArgs false

theorem prow_new (w : World) (l : List (Int × Int)) (vs : Array Value) (n : Nat) (hn : w.heap.size = n) (hv : vs = (flat l).toArray) : PRow (w.alloc (.cells vs 25)) (some ⟨n, 0, none⟩) l := fun i hi => by
  obtain ⟨h1, h2⟩ := flat_get l i hi
  refine ⟨n, 0, rfl, ?_, ?_⟩
  · rw [Nat.zero_add]; exact cbx' _ _ _ _ _ _ hn (by rw [hv]; simpa using h1)
  · rw [Nat.zero_add]; exact cbx' _ _ _ _ _ _ hn (by rw [hv]; simpa using h2)
theorem inr_of {x : Int} (h : decide (-1500000000 ≤ x ∧ x ≤ 1500000000) = true) : InR x := by unfold InR; exact of_decide_eq_true h
theorem allr2_of {l : List (Int × Int)} (h : (List.range l.length).all (fun i => decide (-1500000000 ≤ cx l i ∧ cx l i ≤ 1500000000) && decide (-1500000000 ≤ cy l i ∧ cy l i ≤ 1500000000)) = true) : AllR2 l := fun i hi => by
  have := List.all_eq_true.1 h i (List.mem_range.2 hi)
  rw [Bool.and_eq_true, decide_eq_true_eq, decide_eq_true_eq] at this
  exact this
theorem allv_of {l : List (Int × Int)} (h : (List.range l.length).all (fun i => decide (-439400000 ≤ cx l i ∧ cx l i ≤ 439400000) && decide (-439400000 ≤ cy l i ∧ cy l i ≤ 439400000)) = true) : AllV l := fun i hi => by
  have := List.all_eq_true.1 h i (List.mem_range.2 hi)
  rw [Bool.and_eq_true, decide_eq_true_eq, decide_eq_true_eq] at this
  exact this
theorem prow_take {w : World} {ao : Option Addr} {l : List (Int × Int)} (h : PRow w ao l) (k : Nat) : PRow w ao (l.take k) := fun i hi => by
  have hi' : i < k ∧ i < l.length := by simpa [Nat.lt_min] using hi
  obtain ⟨b, o, e, h1, h2⟩ := h i hi'.2
  have e1 : (l.take k).getD i (0, 0) = l.getD i (0, 0) := by
    rw [List.getD_eq_getElem?_getD, List.getD_eq_getElem?_getD, List.getElem?_take_of_lt hi'.1]
  exact ⟨b, o, e, by rw [e1]; exact h1, by rw [e1]; exact h2⟩

theorem prow_c {w : World} {g : Nat} {l : List (Int × Int)} (h : PRow w (some ⟨g, 0, none⟩) l) (i : Nat) (hi : i < l.length) (n m : Nat) (hn : i * 2 = n) (hm : i * 2 + 1 = m) : w.cell? ⟨g, n, none⟩ = some (.int .i64 (l.getD i (0, 0)).1) ∧ w.cell? ⟨g, m, none⟩ = some (.int .i64 (l.getD i (0, 0)).2) := by
  obtain ⟨b, o, e, h1, h2⟩ := h i hi
  obtain ⟨rfl, rfl⟩ : g = b ∧ 0 = o := by simpa using e
  subst hn hm
  rw [Nat.zero_add] at h1 h2
  exact ⟨h1, h2⟩
theorem triangle_is (w : World) : Calls Tryd.prog 24 #[] w fun e w' => (∃ g : Nat, e = .returned (.slice (some ⟨g, 0, none⟩) 3 3) ∧ PRow w' (some ⟨g, 0, none⟩) [(0, 0), (4, 0), (4, 4)]) ∧ Below w.heap.size w w' := by
  go_enter Tryd.func24, Tryd.ntmps24
  go_wp2
  go_ret
  exact ⟨⟨w.heap.size, rfl, prow_new _ _ _ _ rfl rfl⟩, belA (Below.refl _ _) _⟩
theorem hd_v1 (g c : Nat) (w : World) (h : PRow w (some ⟨g, 0, none⟩) [(0, 0), (4, 0), (4, 4)]) : Calls Tryd.prog 14 #[.slice (some ⟨g, 0, none⟩) 3 c] w fun e w' => e = .returned (.bool true) ∧ Below w.heap.size w w' :=
  valid_is _ 3 c [(0, 0), (4, 0), (4, 4)] true w rfl (Lib.hid (by decide +kernel)) (by decide) h
theorem hd_v2 (g c : Nat) (w : World) (h : PRow w (some ⟨g, 0, none⟩) [(4, 4), (4, 0), (0, 0)]) : Calls Tryd.prog 14 #[.slice (some ⟨g, 0, none⟩) 3 c] w fun e w' => e = .returned (.bool false) ∧ Below w.heap.size w w' :=
  valid_is _ 3 c [(4, 4), (4, 0), (0, 0)] false w rfl (Lib.hid (by decide +kernel)) (by decide) h
theorem hd_v3 (g c : Nat) (w : World) (h : PRow w (some ⟨g, 0, none⟩) [(0, 0), (2, 0), (4, 0), (4, 4)]) : Calls Tryd.prog 14 #[.slice (some ⟨g, 0, none⟩) 4 c] w fun e w' => e = .returned (.bool false) ∧ Below w.heap.size w w' :=
  valid_is _ 4 c [(0, 0), (2, 0), (4, 0), (4, 4)] false w rfl (Lib.hid (by decide +kernel)) (by decide) h
theorem hd_v4 (g c : Nat) (w : World) (h : PRow w (some ⟨g, 0, none⟩) [(0, 0), (4, 0), (0, 4), (4, 4)]) : Calls Tryd.prog 14 #[.slice (some ⟨g, 0, none⟩) 4 c] w fun e w' => e = .returned (.bool false) ∧ Below w.heap.size w w' :=
  valid_is _ 4 c [(0, 0), (4, 0), (0, 4), (4, 4)] false w rfl (Lib.hid (by decide +kernel)) (by decide) h
theorem hd_ar (g c : Nat) (w : World) (h : PRow w (some ⟨g, 0, none⟩) [(0, 0), (4, 0), (4, 4)]) : Calls Tryd.prog 15 #[.slice (some ⟨g, 0, none⟩) 3 c] w fun e w' => e = .returned (.int .i64 16) ∧ Below w.heap.size w w' :=
  (area_any _ c [(0, 0), (4, 0), (4, 4)] w (by decide) (by decide) h (allv_of (by decide +kernel))).mono fun e w' ⟨he, hb⟩ => ⟨he.trans (ret_int (by decide +kernel)), hb⟩
theorem hd_l1 (g c : Nat) (w : World) (h : PRow w (some ⟨g, 0, none⟩) [(0, 0), (4, 0), (4, 4)]) : Calls Tryd.prog 16 #[.slice (some ⟨g, 0, none⟩) 3 c, .agg #[.int .i64 3, .int .i64 1]] w fun e w' => e = .returned (.int .i64 1) ∧ Below w.heap.size w w' :=
  (locate_any _ c [(0, 0), (4, 0), (4, 4)] 3 1 w (by decide) (by decide) h (allr2_of (by decide +kernel)) (inr_of (by decide)) (inr_of (by decide))).mono fun e w' ⟨he, hb⟩ => ⟨he.trans (ret_int (by decide +kernel)), hb⟩
theorem hd_l2 (g c : Nat) (w : World) (h : PRow w (some ⟨g, 0, none⟩) [(0, 0), (4, 0), (4, 4)]) : Calls Tryd.prog 16 #[.slice (some ⟨g, 0, none⟩) 3 c, .agg #[.int .i64 2, .int .i64 2]] w fun e w' => e = .returned (.int .i64 0) ∧ Below w.heap.size w w' :=
  (locate_any _ c [(0, 0), (4, 0), (4, 4)] 2 2 w (by decide) (by decide) h (allr2_of (by decide +kernel)) (inr_of (by decide)) (inr_of (by decide))).mono fun e w' ⟨he, hb⟩ => ⟨he.trans (ret_int (by decide +kernel)), hb⟩
theorem hd_l3 (g c : Nat) (w : World) (h : PRow w (some ⟨g, 0, none⟩) [(0, 0), (4, 0), (4, 4)]) : Calls Tryd.prog 16 #[.slice (some ⟨g, 0, none⟩) 3 c, .agg #[.int .i64 1, .int .i64 3]] w fun e w' => e = .returned (.int .i64 (-1)) ∧ Below w.heap.size w w' :=
  (locate_any _ c [(0, 0), (4, 0), (4, 4)] 1 3 w (by decide) (by decide) h (allr2_of (by decide +kernel)) (inr_of (by decide)) (inr_of (by decide))).mono fun e w' ⟨he, hb⟩ => ⟨he.trans (ret_int (by decide +kernel)), hb⟩
theorem hd_tr (g c : Nat) (w : World) (h : PRow w (some ⟨g, 0, none⟩) [(0, 0), (4, 0), (4, 4)]) : Calls Tryd.prog 19 #[.slice (some ⟨g, 0, none⟩) 3 c, .agg #[.int .i64 1, .int .i64 (-2)]] w fun e w' => (∃ g' c' : Nat, e = .returned (.slice (some ⟨g', 0, none⟩) 3 c') ∧ PRow w' (some ⟨g', 0, none⟩) [(1, -2), (5, -2), (5, 2)]) ∧ Below w.heap.size w w' :=
  translate_is _ 3 c [(0, 0), (4, 0), (4, 4)] [(1, -2), (5, -2), (5, 2)] 1 (-2) w (by decide) rfl (Lib.hid (by decide)) (by decide) h (allr2_of (by decide +kernel)) (inr_of (by decide)) (inr_of (by decide))
theorem hd_e1 (g c g' c' : Nat) (w : World) (h : PRow w (some ⟨g, 0, none⟩) [(1, -2), (5, -2), (5, 2)]) (h' : PRow w (some ⟨g', 0, none⟩) [(1, -2), (5, -2), (5, 2)]) : Calls Tryd.prog 21 #[.slice (some ⟨g, 0, none⟩) 3 c, .slice (some ⟨g', 0, none⟩) 3 c'] w fun e w' => e = .returned (.bool true) ∧ Below w.heap.size w w' :=
  equal_is _ _ 3 3 c c' [(1, -2), (5, -2), (5, 2)] [(1, -2), (5, -2), (5, 2)] true w rfl rfl (Lib.hid (by decide)) (by decide) (by decide) h h'
theorem hd_e2 (g c c' : Nat) (w : World) (h : PRow w (some ⟨g, 0, none⟩) [(0, 0), (4, 0), (4, 4)]) : Calls Tryd.prog 21 #[.slice (some ⟨g, 0, none⟩) 3 c, .slice (some ⟨g, 0, none⟩) 2 c'] w fun e w' => e = .returned (.bool false) ∧ Below w.heap.size w w' :=
  equal_is _ _ 3 2 c c' [(0, 0), (4, 0), (4, 4)] [(0, 0), (4, 0)] false w rfl rfl (Lib.hid (by decide)) (by decide) (by decide) h (prow_take h 2)
theorem hd_r1 (g c : Nat) (w : World) (hT : Rot.Tab w) (h : PRow w (some ⟨g, 0, none⟩) [(65, 0), (0, 65)]) : Calls Tryd.prog 22 #[.slice (some ⟨g, 0, none⟩) 2 c, .int .i64 1] w fun e w' => (∃ g' c' : Nat, e = .returned (.tuple #[.slice (some ⟨g', 0, none⟩) 2 c', .bool true]) ∧ PRow w' (some ⟨g', 0, none⟩) [(63, 16), (-16, 63)]) ∧ Below w.heap.size w w' :=
  rotate_yes _ 2 c [(65, 0), (0, 65)] [(63, 16), (-16, 63)] 1 w hT (by decide) rfl rfl (by decide) h (allr2_of (by decide +kernel)) (by omega)
    (fun i hi => by have : i = 0 ∨ i = 1 := by simp at hi; omega
                    rcases this with rfl | rfl <;> unfold Turned <;> decide +kernel)
    (fun i hi => by have : i = 0 ∨ i = 1 := by simp at hi; omega
                    rcases this with rfl | rfl <;> decide +kernel)
theorem hd_r2 (g c : Nat) (w : World) (hT : Rot.Tab w) (h : PRow w (some ⟨g, 0, none⟩) [(0, 0), (4, 0), (4, 4)]) : Calls Tryd.prog 22 #[.slice (some ⟨g, 0, none⟩) 3 c, .int .i64 1] w fun e w' => e = .returned (.tuple #[.slice none 0 0, .bool false]) ∧ Below w.heap.size w w' :=
  rotate_not _ 3 c [(0, 0), (4, 0), (4, 4)] [(0, 0), (4, 0), (4, 4)] 1 w hT rfl rfl 1 (by decide) (by decide) h (allr2_of (by decide +kernel)) (by omega)
    (fun i hi => by obtain rfl : i = 0 := by omega
                    unfold Turned; decide +kernel)
    (fun i hi => by obtain rfl : i = 0 := by omega
                    decide +kernel)
    (by decide +kernel)

set_option maxRecDepth 100000 in
set_option maxHeartbeats 8000000 in
theorem head_any (w : World) (hT : Rot.Tab w) : Calls Tryd.prog 9 #[] w fun e w' => e = .returned (.bool true) ∧ Below w.heap.size w w' := by
  have hB : Below w.heap.size w w := Below.refl _ _
  go_enter Tryd.func9, Tryd.ntmps9
  go_wp2_with fail
  refine (triangle_is _).mono ?_; rintro e w1 ⟨⟨g, rfl, hP⟩, hb⟩
  replace hB := belT hB hb
  replace hT := hT.below hb
  clear hb
  go_wp2_with fail
  refine (hd_r1 _ _ _ (hT.alloc _) (prow_new _ _ _ _ rfl rfl)).mono ?_; rintro e w2 ⟨⟨g2, c2, rfl, hP2⟩, hb⟩
  replace hB := belT (belA hB _) hb
  replace hT := (hT.alloc _).below hb
  replace hP := prow_below (prow_alloc hP _) hb
  clear hb
  go_wp2_with fail
  refine (hd_r2 _ _ _ hT hP).mono ?_; rintro e w3 ⟨rfl, hb⟩
  replace hB := belT hB hb
  replace hP := prow_below hP hb
  replace hP2 := prow_below hP2 hb
  clear hb hT
  go_wp2_with fail
  refine (hd_v1 _ _ _ hP).mono ?_; rintro e w4 ⟨rfl, hb⟩
  replace hB := belT hB hb
  replace hP := prow_below hP hb
  replace hP2 := prow_below hP2 hb
  clear hb
  go_wp2_with fail
  refine (hd_ar _ _ _ hP).mono ?_; rintro e w5 ⟨rfl, hb⟩
  replace hB := belT hB hb
  replace hP := prow_below hP hb
  replace hP2 := prow_below hP2 hb
  clear hb
  go_wp2_with fail
  refine (hd_l1 _ _ _ hP).mono ?_; rintro e w6 ⟨rfl, hb⟩
  replace hB := belT hB hb
  replace hP := prow_below hP hb
  replace hP2 := prow_below hP2 hb
  clear hb
  go_wp2_with fail
  refine (hd_l2 _ _ _ hP).mono ?_; rintro e w7 ⟨rfl, hb⟩
  replace hB := belT hB hb
  replace hP := prow_below hP hb
  replace hP2 := prow_below hP2 hb
  clear hb
  go_wp2_with fail
  refine (hd_l3 _ _ _ hP).mono ?_; rintro e w8 ⟨rfl, hb⟩
  replace hB := belT hB hb
  replace hP := prow_below hP hb
  replace hP2 := prow_below hP2 hb
  clear hb
  go_wp2_with fail
  refine (hd_v2 _ _ _ (prow_new _ _ _ _ rfl rfl)).mono ?_; rintro e w9 ⟨rfl, hb⟩
  replace hB := belT (belA hB _) hb
  replace hP := prow_below (prow_alloc hP _) hb
  replace hP2 := prow_below (prow_alloc hP2 _) hb
  clear hb
  go_wp2_with fail
  refine (hd_v3 _ _ _ (prow_new _ _ _ _ rfl rfl)).mono ?_; rintro e w10 ⟨rfl, hb⟩
  replace hB := belT (belA hB _) hb
  replace hP := prow_below (prow_alloc hP _) hb
  replace hP2 := prow_below (prow_alloc hP2 _) hb
  clear hb
  go_wp2_with fail
  refine (hd_v4 _ _ _ (prow_new _ _ _ _ rfl rfl)).mono ?_; rintro e w11 ⟨rfl, hb⟩
  replace hB := belT (belA hB _) hb
  replace hP := prow_below (prow_alloc hP _) hb
  replace hP2 := prow_below (prow_alloc hP2 _) hb
  clear hb
  obtain ⟨q0, q1⟩ := prow_c hP2 0 (by decide) 0 1 rfl rfl
  obtain ⟨q2, q3⟩ := prow_c hP2 1 (by decide) 2 3 rfl rfl
  go_wp2_with fail
  refine (hd_tr _ _ _ hP).mono ?_; rintro e w12 ⟨⟨g4, c4, rfl, hM⟩, hb⟩
  replace hB := belT hB hb
  replace hP := prow_below hP hb
  replace hP2 := prow_below hP2 hb
  clear hb
  clear q0 q1 q2 q3
  go_wp2_with fail
  refine (hd_e1 _ _ _ _ _ (prow_alloc hM _) (prow_new _ _ _ _ rfl rfl)).mono ?_; rintro e w13 ⟨rfl, hb⟩
  replace hB := belT (belA hB _) hb
  replace hP := prow_below (prow_alloc hP _) hb
  clear hb hM hP2
  go_wp2_with fail
  refine (hd_e2 _ _ _ _ hP).mono ?_; rintro e w14 ⟨rfl, hb⟩
  replace hB := belT hB hb
  clear hb hP
  go_wp2_with fail
  go_ret
  exact ⟨rfl, hB⟩
end Go.Proofs.YthmcejeeohlafaaDoor
