/- Helpers: what the law reaches. -/
import Derived.Test.YtalhkcmlacppjaaGreatDoorZlAmL
import Derived.Test.YtalhkcmlacppjaaGreatDoorZlAmE
import Derived.Test.YtalhkcmlacppjaaGreatDoorZlAmF
import Derived.Test.YtalhkcmlacppjaaGreatDoorZlTqR
import Derived.Test.YtalhkcmlacppjaaGreatDoorZlIxF
namespace Go.Proofs.YtalhkcmlacppjaaGreatDoor
open Go.ChangeShapes Go.WideShapes Go.ChangeAt Go.RowKit
set_option linter.unusedVariables false
set_option linter.unusedSimpArgs false
set_option maxRecDepth 100000

theorem small_is (w : World) : Calls Tryz.prog 22 #[] w fun e w' => e = .returned (.agg #[.int .i64 0, .int .i64 0, .int .i64 3, .int .i64 2, .int .i64 1, .int .i64 1, .int .i64 (-17), .int .i64 (-17), .int .i64 (-17), .int .i64 18, .int .i64 18, .int .i64 18]) ∧ Below w.heap.size w w' := by
  go_enter Tryz.func22, Tryz.ntmps22
  go_wp2
  go_returns
  exact ⟨rfl, by go_grown⟩
theorem vSmall : Hid (armB 0 0 3 2 1 1 (-17) (-17) (-17) 18 18 18 = true) := Lib.hid (by decide)
theorem allr_of2 {l : List (Int × Int)} (h : (List.range l.length).all (fun i => decide (-1500000000 ≤ cx l i ∧ cx l i ≤ 1500000000) && decide (-1500000000 ≤ cy l i ∧ cy l i ≤ 1500000000)) = true) : AllR2 l := allr2_of h

set_option maxHeartbeats 4000000 in
theorem head07_is (w : World) (hT : Tab w) : Calls Tryz.prog 5 #[] w fun e w' => e = .returned (.bool true) ∧ Below w.heap.size w w' := by
  have B := Lib.hid (Below.refl w.heap.size w)
  have TT := Lib.hid hT
  clear hT
  go_enter Tryz.func5, Tryz.ntmps5
  go_wp2_with fail
  refine (small_is _).mono ?_
  rintro e w1 ⟨rfl, hb1⟩
  replace B := Lib.hid (belT B.out hb1)
  replace TT := Lib.hid (Tab.below TT.out hb1)
  clear hb1
  go_upto_region 2 with fail
  have HA := Lib.hid (blk_new w1 (.cells #[.int .i64 0, .int .i64 0, .int .i64 3, .int .i64 2, .int .i64 1, .int .i64 1, .int .i64 (-17), .int .i64 (-17), .int .i64 (-17), .int .i64 18, .int .i64 18, .int .i64 18] 27) (w1.heap.size) rfl)
  replace B := Lib.hid (belA B.out (.cells #[.int .i64 0, .int .i64 0, .int .i64 3, .int .i64 2, .int .i64 1, .int .i64 1, .int .i64 (-17), .int .i64 (-17), .int .i64 (-17), .int .i64 18, .int .i64 18, .int .i64 18] 27))
  replace TT := Lib.hid (Tab.alloc TT.out (.cells #[.int .i64 0, .int .i64 0, .int .i64 3, .int .i64 2, .int .i64 1, .int .i64 1, .int .i64 (-17), .int .i64 (-17), .int .i64 (-17), .int .i64 18, .int .i64 18, .int .i64 18] 27))
  generalize (w1.alloc (.cells #[.int .i64 0, .int .i64 0, .int .i64 3, .int .i64 2, .int .i64 1, .int .i64 1, .int .i64 (-17), .int .i64 (-17), .int .i64 (-17), .int .i64 18, .int .i64 18, .int .i64 18] 27)) = W1 at *
  obtain ⟨a, ha⟩ : ∃ a, w1.heap.size = a := ⟨_, rfl⟩
  rw [ha] at HA ⊢
  clear ha
  have c0 := blk_cell HA.out 0 _ rfl
  have c1 := blk_cell HA.out 1 _ rfl
  have c2 := blk_cell HA.out 2 _ rfl
  have c3 := blk_cell HA.out 3 _ rfl
  have c4 := blk_cell HA.out 4 _ rfl
  have c5 := blk_cell HA.out 5 _ rfl
  have c6 := blk_cell HA.out 6 _ rfl
  have c7 := blk_cell HA.out 7 _ rfl
  have c8 := blk_cell HA.out 8 _ rfl
  have c9 := blk_cell HA.out 9 _ rfl
  have c10 := blk_cell HA.out 10 _ rfl
  have c11 := blk_cell HA.out 11 _ rfl
  go_wp2_with fail
  refine (jpts_is 0 0 3 2 1 1 (-17) (-17) (-17) 18 18 18 0 9 0 65 0 0 0 4225 274625 4394000 0 0 0 4394000 4394000 13182000 13182000 13182000 0 8788000 13182000 _ TT.out (by omega) (by omega) (by omega) vSmall (Lib.hid ⟨by decide +kernel, by decide +kernel, by decide +kernel, by decide, by decide, by decide, by decide, by decide, by decide⟩)).mono ?_
  rintro e w2 ⟨rfl, hb2⟩
  clear c0 c1 c2 c3 c4 c5 c6 c7 c8 c9 c10 c11
  replace HA := Lib.hid (blk_call HA.out hb2)
  replace B := Lib.hid (belT B.out hb2)
  replace TT := Lib.hid (Tab.below TT.out hb2)
  clear hb2
  go_upto_region 3 with fail
  replace HA := Lib.hid (blk_alloc HA.out (.cells #[.int .i64 0, .int .i64 0, .int .i64 13182000, .int .i64 0, .int .i64 13182000, .int .i64 8788000, .int .i64 13182000, .int .i64 13182000] 38))
  have HP := Lib.hid (blk_new w2 (.cells #[.int .i64 0, .int .i64 0, .int .i64 13182000, .int .i64 0, .int .i64 13182000, .int .i64 8788000, .int .i64 13182000, .int .i64 13182000] 38) (w2.heap.size) rfl)
  replace B := Lib.hid (belA B.out (.cells #[.int .i64 0, .int .i64 0, .int .i64 13182000, .int .i64 0, .int .i64 13182000, .int .i64 8788000, .int .i64 13182000, .int .i64 13182000] 38))
  replace TT := Lib.hid (Tab.alloc TT.out (.cells #[.int .i64 0, .int .i64 0, .int .i64 13182000, .int .i64 0, .int .i64 13182000, .int .i64 8788000, .int .i64 13182000, .int .i64 13182000] 38))
  generalize (w2.alloc (.cells #[.int .i64 0, .int .i64 0, .int .i64 13182000, .int .i64 0, .int .i64 13182000, .int .i64 8788000, .int .i64 13182000, .int .i64 13182000] 38)) = W2 at *
  obtain ⟨b, hb⟩ : ∃ a, w2.heap.size = a := ⟨_, rfl⟩
  rw [hb] at HP ⊢
  clear hb
  have c0 := blk_cell HA.out 0 _ rfl
  have c1 := blk_cell HA.out 1 _ rfl
  have c2 := blk_cell HA.out 2 _ rfl
  have c3 := blk_cell HA.out 3 _ rfl
  have c4 := blk_cell HA.out 4 _ rfl
  have c5 := blk_cell HA.out 5 _ rfl
  have c6 := blk_cell HA.out 6 _ rfl
  have c7 := blk_cell HA.out 7 _ rfl
  have c8 := blk_cell HA.out 8 _ rfl
  have c9 := blk_cell HA.out 9 _ rfl
  have c10 := blk_cell HA.out 10 _ rfl
  have c11 := blk_cell HA.out 11 _ rfl
  go_wp2_with fail
  refine (links_is 0 0 3 2 1 1 (-17) (-17) (-17) 18 18 18 0 0 0 65 4225 274625 0 0 0 4394000 4394000 4394000 0 0 0 13182000 21970000 26364000 0 0 0 [(0, -4394000), (13182000, -4394000), (13182000, 4394000), (0, 4394000)] [(13182000, -4394000), (21970000, -4394000), (21970000, 4394000), (13182000, 4394000)] [(21970000, -4394000), (26364000, -4394000), (26364000, 4394000), (21970000, 4394000)] _ TT.out (by omega) (by omega) (by omega) vSmall (Lib.hid ⟨by decide +kernel, by decide +kernel, by decide +kernel, by decide, by decide, by decide, by decide, by decide, by decide⟩) (Lib.hid (by decide)) (Lib.hid (by decide)) (Lib.hid (by decide))).mono ?_
  rintro e w3 ⟨⟨g0, g1, g2, rfl, p0, p1, p2⟩, hb3⟩
  clear c0 c1 c2 c3 c4 c5 c6 c7 c8 c9 c10 c11
  replace HA := Lib.hid (blk_call HA.out hb3)
  replace HP := Lib.hid (blk_call HP.out hb3)
  replace B := Lib.hid (belT B.out hb3)
  replace TT := Lib.hid (Tab.below TT.out hb3)
  clear hb3
  have R0 := Lib.hid p0
  have R1 := Lib.hid p1
  have R2 := Lib.hid p2
  clear p0 p1 p2
  go_upto_region 4 with fail
  replace HA := Lib.hid (blk_alloc HA.out (.cells #[.slice (some ⟨g0, 0, none⟩) 4 4, .slice (some ⟨g1, 0, none⟩) 4 4, .slice (some ⟨g2, 0, none⟩) 4 4] 36))
  replace HP := Lib.hid (blk_alloc HP.out (.cells #[.slice (some ⟨g0, 0, none⟩) 4 4, .slice (some ⟨g1, 0, none⟩) 4 4, .slice (some ⟨g2, 0, none⟩) 4 4] 36))
  replace R0 := Lib.hid (prow_alloc R0.out (.cells #[.slice (some ⟨g0, 0, none⟩) 4 4, .slice (some ⟨g1, 0, none⟩) 4 4, .slice (some ⟨g2, 0, none⟩) 4 4] 36))
  replace R1 := Lib.hid (prow_alloc R1.out (.cells #[.slice (some ⟨g0, 0, none⟩) 4 4, .slice (some ⟨g1, 0, none⟩) 4 4, .slice (some ⟨g2, 0, none⟩) 4 4] 36))
  replace R2 := Lib.hid (prow_alloc R2.out (.cells #[.slice (some ⟨g0, 0, none⟩) 4 4, .slice (some ⟨g1, 0, none⟩) 4 4, .slice (some ⟨g2, 0, none⟩) 4 4] 36))
  have HL := Lib.hid (blk_new w3 (.cells #[.slice (some ⟨g0, 0, none⟩) 4 4, .slice (some ⟨g1, 0, none⟩) 4 4, .slice (some ⟨g2, 0, none⟩) 4 4] 36) (w3.heap.size) rfl)
  replace B := Lib.hid (belA B.out (.cells #[.slice (some ⟨g0, 0, none⟩) 4 4, .slice (some ⟨g1, 0, none⟩) 4 4, .slice (some ⟨g2, 0, none⟩) 4 4] 36))
  replace TT := Lib.hid (Tab.alloc TT.out (.cells #[.slice (some ⟨g0, 0, none⟩) 4 4, .slice (some ⟨g1, 0, none⟩) 4 4, .slice (some ⟨g2, 0, none⟩) 4 4] 36))
  generalize (w3.alloc (.cells #[.slice (some ⟨g0, 0, none⟩) 4 4, .slice (some ⟨g1, 0, none⟩) 4 4, .slice (some ⟨g2, 0, none⟩) 4 4] 36)) = W3 at *
  obtain ⟨l, hl⟩ : ∃ a, w3.heap.size = a := ⟨_, rfl⟩
  rw [hl] at HL ⊢
  clear hl
  have c0 := blk_cell HA.out 0 _ rfl
  have c1 := blk_cell HA.out 1 _ rfl
  have c2 := blk_cell HA.out 2 _ rfl
  have c3 := blk_cell HA.out 3 _ rfl
  have c4 := blk_cell HA.out 4 _ rfl
  have c5 := blk_cell HA.out 5 _ rfl
  have c6 := blk_cell HA.out 6 _ rfl
  have c7 := blk_cell HA.out 7 _ rfl
  have c8 := blk_cell HA.out 8 _ rfl
  have c9 := blk_cell HA.out 9 _ rfl
  have c10 := blk_cell HA.out 10 _ rfl
  have c11 := blk_cell HA.out 11 _ rfl
  go_wp2_with fail
  refine (armv_is 0 0 3 2 1 1 (-17) (-17) (-17) 18 18 18 true _ vSmall).mono ?_
  rintro e w4 ⟨rfl, hb4⟩
  clear c0 c1 c2 c3 c4 c5 c6 c7 c8 c9 c10 c11
  replace HA := Lib.hid (blk_call HA.out hb4)
  replace HP := Lib.hid (blk_call HP.out hb4)
  replace R0 := Lib.hid (prow_below R0.out hb4)
  replace R1 := Lib.hid (prow_below R1.out hb4)
  replace R2 := Lib.hid (prow_below R2.out hb4)
  replace HL := Lib.hid (blk_call HL.out hb4)
  replace B := Lib.hid (belT B.out hb4)
  replace TT := Lib.hid (Tab.below TT.out hb4)
  clear hb4
  have c0 := blk_cell HA.out 0 _ rfl
  have c1 := blk_cell HA.out 1 _ rfl
  have c2 := blk_cell HA.out 2 _ rfl
  have c3 := blk_cell HA.out 3 _ rfl
  have c4 := blk_cell HA.out 4 _ rfl
  have c5 := blk_cell HA.out 5 _ rfl
  have c6 := blk_cell HA.out 6 _ rfl
  have c7 := blk_cell HA.out 7 _ rfl
  have c8 := blk_cell HA.out 8 _ rfl
  have c9 := blk_cell HA.out 9 _ rfl
  have c10 := blk_cell HA.out 10 _ rfl
  have c11 := blk_cell HA.out 11 _ rfl
  go_wp2_with fail
  refine (inlim_is 0 0 3 2 1 1 (-17) (-17) (-17) 18 18 18 18 (-17) 0 true _ (Lib.hid (by decide))).mono ?_
  rintro e w5 ⟨rfl, hb5⟩
  clear c0 c1 c2 c3 c4 c5 c6 c7 c8 c9 c10 c11
  replace HA := Lib.hid (blk_call HA.out hb5)
  replace HP := Lib.hid (blk_call HP.out hb5)
  replace R0 := Lib.hid (prow_below R0.out hb5)
  replace R1 := Lib.hid (prow_below R1.out hb5)
  replace R2 := Lib.hid (prow_below R2.out hb5)
  replace HL := Lib.hid (blk_call HL.out hb5)
  replace B := Lib.hid (belT B.out hb5)
  replace TT := Lib.hid (Tab.below TT.out hb5)
  clear hb5
  have c0 := blk_cell HP.out 0 _ rfl
  have c1 := blk_cell HP.out 1 _ rfl
  have c2 := blk_cell HP.out 2 _ rfl
  have c3 := blk_cell HP.out 3 _ rfl
  have c4 := blk_cell HP.out 4 _ rfl
  have c5 := blk_cell HP.out 5 _ rfl
  have c6 := blk_cell HP.out 6 _ rfl
  have c7 := blk_cell HP.out 7 _ rfl
  have d0 := blk_cell HL.out 0 _ rfl
  have d1 := blk_cell HL.out 1 _ rfl
  have d2 := blk_cell HL.out 2 _ rfl
  go_wp2_with fail
  refine (equal_is _ _ 4 4 4 4 [(0, -4394000), (13182000, -4394000), (13182000, 4394000), (0, 4394000)] [(0, -4394000), (13182000, -4394000), (13182000, 4394000), (0, 4394000)] true _ rfl rfl (Lib.hid (by decide)) (by simp) (by simp) (prow_alloc R0.out (.cells #[.int .i64 0, .int .i64 (-4394000), .int .i64 13182000, .int .i64 (-4394000), .int .i64 13182000, .int .i64 4394000, .int .i64 0, .int .i64 4394000] 23)) (prow_new _ _ _ _ rfl rfl)).mono ?_
  rintro e w6 ⟨rfl, hb6⟩
  clear c0 c1 c2 c3 c4 c5 c6 c7 d0 d1 d2
  replace HA := Lib.hid (blk_call (blk_alloc HA.out (.cells #[.int .i64 0, .int .i64 (-4394000), .int .i64 13182000, .int .i64 (-4394000), .int .i64 13182000, .int .i64 4394000, .int .i64 0, .int .i64 4394000] 23)) hb6)
  replace HP := Lib.hid (blk_call (blk_alloc HP.out (.cells #[.int .i64 0, .int .i64 (-4394000), .int .i64 13182000, .int .i64 (-4394000), .int .i64 13182000, .int .i64 4394000, .int .i64 0, .int .i64 4394000] 23)) hb6)
  replace R0 := Lib.hid (prow_below (prow_alloc R0.out (.cells #[.int .i64 0, .int .i64 (-4394000), .int .i64 13182000, .int .i64 (-4394000), .int .i64 13182000, .int .i64 4394000, .int .i64 0, .int .i64 4394000] 23)) hb6)
  replace R1 := Lib.hid (prow_below (prow_alloc R1.out (.cells #[.int .i64 0, .int .i64 (-4394000), .int .i64 13182000, .int .i64 (-4394000), .int .i64 13182000, .int .i64 4394000, .int .i64 0, .int .i64 4394000] 23)) hb6)
  replace R2 := Lib.hid (prow_below (prow_alloc R2.out (.cells #[.int .i64 0, .int .i64 (-4394000), .int .i64 13182000, .int .i64 (-4394000), .int .i64 13182000, .int .i64 4394000, .int .i64 0, .int .i64 4394000] 23)) hb6)
  replace HL := Lib.hid (blk_call (blk_alloc HL.out (.cells #[.int .i64 0, .int .i64 (-4394000), .int .i64 13182000, .int .i64 (-4394000), .int .i64 13182000, .int .i64 4394000, .int .i64 0, .int .i64 4394000] 23)) hb6)
  replace B := Lib.hid (belT (belA B.out (.cells #[.int .i64 0, .int .i64 (-4394000), .int .i64 13182000, .int .i64 (-4394000), .int .i64 13182000, .int .i64 4394000, .int .i64 0, .int .i64 4394000] 23)) hb6)
  replace TT := Lib.hid (Tab.below (Tab.alloc TT.out (.cells #[.int .i64 0, .int .i64 (-4394000), .int .i64 13182000, .int .i64 (-4394000), .int .i64 13182000, .int .i64 4394000, .int .i64 0, .int .i64 4394000] 23)) hb6)
  clear hb6
  have d0 := blk_cell HL.out 0 _ rfl
  have d1 := blk_cell HL.out 1 _ rfl
  have d2 := blk_cell HL.out 2 _ rfl
  have c0 := blk_cell HP.out 0 _ rfl
  have c1 := blk_cell HP.out 1 _ rfl
  have c2 := blk_cell HP.out 2 _ rfl
  have c3 := blk_cell HP.out 3 _ rfl
  have c4 := blk_cell HP.out 4 _ rfl
  have c5 := blk_cell HP.out 5 _ rfl
  have c6 := blk_cell HP.out 6 _ rfl
  have c7 := blk_cell HP.out 7 _ rfl
  go_wp2_with fail
  refine (polygons_is _ _ 4 4 4 4 [(0, -4394000), (13182000, -4394000), (13182000, 4394000), (0, 4394000)] [(13182000, -4394000), (21970000, -4394000), (21970000, 4394000), (13182000, 4394000)] true _ rfl rfl (Lib.hid (by decide +kernel)) (by omega) (by omega) (by omega) (by omega) R0.out R1.out (allr_of2 (by decide)) (allr_of2 (by decide))).mono ?_
  rintro e w7 ⟨rfl, hb7⟩
  clear d0 d1 d2 c0 c1 c2 c3 c4 c5 c6 c7
  replace HA := Lib.hid (blk_call HA.out hb7)
  replace HP := Lib.hid (blk_call HP.out hb7)
  replace R0 := Lib.hid (prow_below R0.out hb7)
  replace R1 := Lib.hid (prow_below R1.out hb7)
  replace R2 := Lib.hid (prow_below R2.out hb7)
  replace HL := Lib.hid (blk_call HL.out hb7)
  replace B := Lib.hid (belT B.out hb7)
  replace TT := Lib.hid (Tab.below TT.out hb7)
  clear hb7
  have d0 := blk_cell HL.out 0 _ rfl
  have d1 := blk_cell HL.out 1 _ rfl
  have d2 := blk_cell HL.out 2 _ rfl
  have c0 := blk_cell HP.out 0 _ rfl
  have c1 := blk_cell HP.out 1 _ rfl
  have c2 := blk_cell HP.out 2 _ rfl
  have c3 := blk_cell HP.out 3 _ rfl
  have c4 := blk_cell HP.out 4 _ rfl
  have c5 := blk_cell HP.out 5 _ rfl
  have c6 := blk_cell HP.out 6 _ rfl
  have c7 := blk_cell HP.out 7 _ rfl
  go_wp2_with fail
  refine (polygons_is _ _ 4 4 4 4 [(0, -4394000), (13182000, -4394000), (13182000, 4394000), (0, 4394000)] [(21970000, -4394000), (26364000, -4394000), (26364000, 4394000), (21970000, 4394000)] false _ rfl rfl (Lib.hid (by decide +kernel)) (by omega) (by omega) (by omega) (by omega) R0.out R2.out (allr_of2 (by decide)) (allr_of2 (by decide))).mono ?_
  rintro e w8 ⟨rfl, hb8⟩
  clear d0 d1 d2 c0 c1 c2 c3 c4 c5 c6 c7
  replace HA := Lib.hid (blk_call HA.out hb8)
  replace HP := Lib.hid (blk_call HP.out hb8)
  replace R0 := Lib.hid (prow_below R0.out hb8)
  replace R1 := Lib.hid (prow_below R1.out hb8)
  replace R2 := Lib.hid (prow_below R2.out hb8)
  replace HL := Lib.hid (blk_call HL.out hb8)
  replace B := Lib.hid (belT B.out hb8)
  replace TT := Lib.hid (Tab.below TT.out hb8)
  clear hb8
  have c0 := blk_cell HP.out 0 _ rfl
  have c1 := blk_cell HP.out 1 _ rfl
  have c2 := blk_cell HP.out 2 _ rfl
  have c3 := blk_cell HP.out 3 _ rfl
  have c4 := blk_cell HP.out 4 _ rfl
  have c5 := blk_cell HP.out 5 _ rfl
  have c6 := blk_cell HP.out 6 _ rfl
  have c7 := blk_cell HP.out 7 _ rfl
  go_wp2_with fail
  refine (quarter_any 13182000 0 _ (by omega)).mono ?_
  rintro e w9 ⟨rfl, hb9⟩
  clear c0 c1 c2 c3 c4 c5 c6 c7
  replace HA := Lib.hid (blk_call HA.out hb9)
  replace HP := Lib.hid (blk_call HP.out hb9)
  replace R0 := Lib.hid (prow_below R0.out hb9)
  replace R1 := Lib.hid (prow_below R1.out hb9)
  replace R2 := Lib.hid (prow_below R2.out hb9)
  replace HL := Lib.hid (blk_call HL.out hb9)
  replace B := Lib.hid (belT B.out hb9)
  replace TT := Lib.hid (Tab.below TT.out hb9)
  clear hb9
  go_wp2_with fail
  go_ret
  exact ⟨rfl, B.out⟩
end Go.Proofs.YtalhkcmlacppjaaGreatDoor

