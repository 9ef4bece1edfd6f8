/- Contract of the top laws' quarterR14. -/
import Derived.Test.YtalhkcmlacppjaaDoorTqA
import Derived.Test.YtalhkcmlacppjaaDoorTqR
namespace Go.Proofs.YtalhkcmlacppjaaDoor
open Go.ChangeShapes Go.WideShapes Go.ChangeAt Go.RowKit
set_option linter.unusedVariables false
set_option linter.unusedSimpArgs false
set_option maxRecDepth 100000

theorem turn_at (M : List (Int × Int)) {i : Nat} (hi : i < M.length) : cx (turnL M) i = -cy M i ∧ cy (turnL M) i = cx M i := by
  unfold cx cy turnL
  rw [List.getD_eq_getElem?_getD, List.getD_eq_getElem?_getD, List.getElem?_map, List.getElem?_eq_getElem hi]
  exact ⟨rfl, rfl⟩
set_option maxHeartbeats 2000000 in
theorem quarter14_is (g c : Nat) (X Y : Int) (L U : List (Int × Int)) (w : World) (hT : Tab w) (hl : L.length = 4) (hU : Hid (qrL (X, Y) L = U)) (hP : PRow w (some ⟨g, 0, none⟩) L) (hv : AllV L) (hX : InV X) (hY : InV Y) :
    Calls Tryd.prog 31 #[.slice (some ⟨g, 0, none⟩) 4 c, .agg #[.int .i64 X, .int .i64 Y]] w fun e w' => (∃ g' c' : Nat, e = .returned (.tuple #[.slice (some ⟨g', 0, none⟩) U.length c', .bool true]) ∧ PRow w' (some ⟨g', 0, none⟩) U) ∧ Below w.heap.size w w' := by
  obtain ⟨M, hM⟩ : ∃ M, movL L (-X) (-Y) = M := ⟨_, rfl⟩
  have ML : M.length = 4 := by rw [← hM, movL_len, hl]
  have TL : (turnL M).length = M.length := by unfold turnL; rw [List.length_map]
  have HU : Hid (movL (turnL M) X Y = U) := Lib.hid (by rw [← hM, mov_turn]; exact hU.out)
  have bM : ∀ i, i < M.length → (-878800000 ≤ cx M i ∧ cx M i ≤ 878800000) ∧ -878800000 ≤ cy M i ∧ cy M i ≤ 878800000 := fun i hi => by
    have hi' : i < L.length := by omega
    obtain ⟨e1, e2⟩ := movL_at L (-X) (-Y) hi'
    rw [hM] at e1 e2
    rw [e1, e2]
    have := hv i hi'
    unfold InV at this hX hY
    omega
  have AM : Hid (AllR2 M) := Lib.hid (fun i hi => by have := bM i hi; unfold InR; omega)
  have AT : Hid (AllR2 (turnL M)) := Lib.hid (fun i hi => by obtain ⟨e1, e2⟩ := turn_at M (TL ▸ hi); rw [e1, e2]; have := bM i (TL ▸ hi); unfold InR; omega)
  have TU : Hid (∀ i, i < M.length → Turned 9 (cx M i) (cy M i) (cx (turnL M) i) (cy (turnL M) i)) := Lib.hid (fun i hi => by
    obtain ⟨e1, e2⟩ := turn_at M hi
    unfold Turned
    rw [e1, e2, show csF ((9 : Int) % 36).toNat = (0, 65) by decide]
    exact ⟨by simp only; omega, by simp only; omega⟩)
  have TB : Hid (∀ i, i < M.length → (-1000000000000 ≤ cx (turnL M) i ∧ cx (turnL M) i ≤ 1000000000000) ∧ -1000000000000 ≤ cy (turnL M) i ∧ cy (turnL M) i ≤ 1000000000000) := Lib.hid (fun i hi => by obtain ⟨e1, e2⟩ := turn_at M hi; rw [e1, e2]; have := bM i hi; omega)
  have HM := Lib.hid hM
  clear hM bM hU
  have B := Lib.hid (Below.refl w.heap.size w)
  have TT := Lib.hid hT
  clear hT
  have R0 := Lib.hid hP
  clear hP
  go_enter Tryd.func31, Tryd.ntmps31
  go_wp2_with fail
  refine (sub_is7 0 0 X Y (-X) (-Y) _ (Lib.hid (by omega)) (Lib.hid (by omega)) (by unfold InV at hX; omega) (by unfold InV at hY; omega)).mono ?_
  rintro e w1 ⟨rfl, hb1⟩
  replace R0 := Lib.hid (prow_below (prow_alloc R0.out (.cells #[.int .i64 X, .int .i64 Y] 23)) hb1)
  have HB := Lib.hid (blk_call (blk_new w (.cells #[.int .i64 X, .int .i64 Y] 23) (w.heap.size) rfl) hb1)
  replace B := Lib.hid (belT (belA B.out (.cells #[.int .i64 X, .int .i64 Y] 23)) hb1)
  replace TT := Lib.hid (Tab.below (Tab.alloc TT.out (.cells #[.int .i64 X, .int .i64 Y] 23)) hb1)
  clear hb1
  have c0 := blk_cell HB.out 0 _ rfl
  have c1 := blk_cell HB.out 1 _ rfl
  go_wp2_with fail
  refine (translate_is _ 4 c L M (-X) (-Y) _ (by omega) hl HM (by omega) R0.out hv.allr2 (by unfold InV at hX; unfold InR; omega) (by unfold InV at hY; unfold InR; omega)).mono ?_
  rintro e w2 ⟨⟨g1, e1, rfl, p1⟩, hb2⟩
  clear c0 c1
  replace R0 := Lib.hid (prow_below R0.out hb2)
  replace HB := Lib.hid (blk_call HB.out hb2)
  replace B := Lib.hid (belT B.out hb2)
  replace TT := Lib.hid (Tab.below TT.out hb2)
  clear hb2
  have R1 := Lib.hid p1
  clear p1
  have c0 := blk_cell HB.out 0 _ rfl
  have c1 := blk_cell HB.out 1 _ rfl
  go_wp2_with fail
  refine (rotate_yes _ 4 e1 M (turnL M) 9 _ TT.out (by omega) ML TL (by omega) R1.out AM.out (by omega) TU.out TB.out).mono ?_
  rintro e w3 ⟨⟨g2, e2, rfl, p2⟩, hb3⟩
  clear c0 c1
  replace R0 := Lib.hid (prow_below R0.out hb3)
  replace HB := Lib.hid (blk_call HB.out hb3)
  replace R1 := Lib.hid (prow_below R1.out hb3)
  replace B := Lib.hid (belT B.out hb3)
  replace TT := Lib.hid (Tab.below TT.out hb3)
  clear hb3
  have R2 := Lib.hid p2
  clear p2
  have c0 := blk_cell HB.out 0 _ rfl
  have c1 := blk_cell HB.out 1 _ rfl
  go_wp2_with fail
  refine (translate_is _ 4 e2 (turnL M) U X Y _ (by omega) (TL.trans ML) HU (by omega) R2.out AT.out (by unfold InV at hX; unfold InR; omega) (by unfold InV at hY; unfold InR; omega)).mono ?_
  rintro e w4 ⟨⟨g3, e3, rfl, p3⟩, hb4⟩
  clear c0 c1
  replace R0 := Lib.hid (prow_below R0.out hb4)
  replace HB := Lib.hid (blk_call HB.out hb4)
  replace R1 := Lib.hid (prow_below R1.out hb4)
  replace R2 := Lib.hid (prow_below R2.out hb4)
  replace B := Lib.hid (belT B.out hb4)
  replace TT := Lib.hid (Tab.below TT.out hb4)
  clear hb4
  have R3 := Lib.hid p3
  clear p3
  go_wp2_with fail
  refine bodyPost_ret (v := .tuple #[.slice (some ⟨g3, 0, none⟩) U.length e3, .bool true]) (by simp [results, Tryd.results31, go_sem]) rfl ?_
  exact ⟨⟨g3, e3, rfl, R3.out⟩, B.out⟩

def turnS (U : List (Int × Int)) : StP := ⟨fun v w => ∃ g c : Nat, v = .tuple #[.slice (some ⟨g, 0, none⟩) U.length c, .bool true] ∧ PRow w (some ⟨g, 0, none⟩) U, fun _ _ _ ⟨g, c, h, p⟩ hb => ⟨g, c, h, prow_below p hb⟩⟩
end Go.Proofs.YtalhkcmlacppjaaDoor
