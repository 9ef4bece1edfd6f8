/- Contracts of square and head of the statements of layer 5: the fixed examples; head returns true in every world. -/
import Derived.Test.YtojfonenpplahaaIxG
namespace Go.Proofs.Ytojfonenpplahaa
open Go.ChangeShapes Go.WideShapes Go.ChangeAt Go.RowKit
set_option linter.unusedVariables false
set_option linter.unusedSimpArgs false

def sqL (x y a b : Int) : List (Int × Int) := [(x, y), (a, y), (a, b), (x, b)]
theorem row_of5 {w : World} {g : Nat} {T : TypeId} {l : List (Int × Int)} (h : w.heap[g]? = some (.cells (flat l).toArray T (0, 0))) : PRow w (some ⟨g, 0, none⟩) l := fun i hi => by
  have f := flat_get l i hi
  refine ⟨g, 0, rfl, ?_, ?_⟩
  · rw [Nat.zero_add]; exact blk_cell h _ _ (by simpa using f.1)
  · rw [Nat.zero_add]; exact blk_cell h _ _ (by simpa using f.2)
theorem square_is (x y n a b : Int) (w : World) (ha : Hid (x + n = a)) (hb : Hid (y + n = b)) (b1 : -1000 ≤ x ∧ x ≤ 1000) (b2 : -1000 ≤ y ∧ y ≤ 1000) (b3 : -1000 ≤ n ∧ n ≤ 1000) :
    Calls Try.prog 59 #[.int .i64 x, .int .i64 y, .int .i64 n] w fun e w' => (∃ g, e = .returned (.slice (some ⟨g, 0, none⟩) 4 4) ∧ PRow w' (some ⟨g, 0, none⟩) (sqL x y a b)) ∧ Below w.heap.size w w' := by
  have h1 : IntKind.i64.wrap (x + n) = a := by rw [wrap_k _ (by omega)]; exact ha.out
  have h2 : IntKind.i64.wrap (y + n) = b := by rw [wrap_k _ (by omega)]; exact hb.out
  go_enter Try.func59, Try.ntmps59
  go_wp2
  go_ret
  refine ⟨⟨_, rfl, row_of5 (T := 47) (blk_new _ _ _ rfl)⟩, belA (Below.refl _ _) _⟩
theorem h5_s1 : sepT (sqL 0 0 4 4) (sqL 6 1 8 3) = (0, 1, true) := by kernel_rfl
theorem h5_s2 : sepT (sqL 0 0 4 4) (sqL 4 4 6 6) = (0, 0, false) := by kernel_rfl
theorem h5_c1 : conT (sqL 0 0 4 4) (sqL 4 4 6 6) = (1, 1, 0, true) := by kernel_rfl
theorem h5_c2 : conT (sqL 0 0 4 4) (sqL 1 1 3 3) = (3, 0, 0, true) := by kernel_rfl
theorem h5_c3 : conT (sqL 1 1 3 3) (sqL 0 0 4 4) = (2, 0, 0, true) := by kernel_rfl
theorem h5_c4 : conT (sqL 0 0 4 4) (sqL 5 0 7 2) = (0, 0, 0, false) := by kernel_rfl
theorem h5_p1 : isSepB (sqL 0 0 4 4) (sqL 6 1 8 3) 1 3 = true := by kernel_rfl
theorem h5_p2 : isSepB (sqL 0 0 4 4) (sqL 6 1 8 3) 0 0 = false := by kernel_rfl
theorem h5_t1 : touchB (sqL 0 0 4 4) (sqL 0 0 4 4) = true := by kernel_rfl
theorem h5_i1 : isConB (sqL 0 0 4 4) (sqL 4 4 6 6) 2 2 0 = true := by kernel_rfl
theorem allr_sq {x y a b : Int} (h1 : InR x) (h2 : InR y) (h3 : InR a) (h4 : InR b) : AllR2 (sqL x y a b) := fun i hi => by
  match i, hi with
  | 0, _ => exact ⟨h1, h2⟩
  | 1, _ => exact ⟨h3, h2⟩
  | 2, _ => exact ⟨h3, h4⟩
  | 3, _ => exact ⟨h1, h4⟩
theorem ar_A : AllR2 (sqL 0 0 4 4) := allr_sq (by unfold InR; omega) (by unfold InR; omega) (by unfold InR; omega) (by unfold InR; omega)
theorem ar_Q1 : AllR2 (sqL 6 1 8 3) := allr_sq (by unfold InR; omega) (by unfold InR; omega) (by unfold InR; omega) (by unfold InR; omega)
theorem ar_Q2 : AllR2 (sqL 4 4 6 6) := allr_sq (by unfold InR; omega) (by unfold InR; omega) (by unfold InR; omega) (by unfold InR; omega)
theorem ar_Q3 : AllR2 (sqL 1 1 3 3) := allr_sq (by unfold InR; omega) (by unfold InR; omega) (by unfold InR; omega) (by unfold InR; omega)
theorem ar_Q4 : AllR2 (sqL 5 0 7 2) := allr_sq (by unfold InR; omega) (by unfold InR; omega) (by unfold InR; omega) (by unfold InR; omega)

set_option maxRecDepth 100000 in
set_option maxHeartbeats 16000000 in
theorem head5_is (w : World) : Calls Try.prog 24 #[] w fun e w' => e = .returned (.bool true) ∧ Below w.heap.size w w' := by
  go_enter Try.func24, Try.ntmps24
  go_wp2_with fail
  refine (square_is 0 0 4 4 4 _ (Lib.hid (by omega)) (Lib.hid (by omega)) (by omega) (by omega) (by omega)).mono ?_
  rintro e w1 ⟨⟨g1, rfl, R1⟩, hb1⟩
  have HB := Lib.hid hb1
  clear hb1
  have RA := Lib.hid R1
  clear R1
  go_wp2_with fail
  refine (square_is 6 1 2 8 3 _ (Lib.hid (by omega)) (Lib.hid (by omega)) (by omega) (by omega) (by omega)).mono ?_
  rintro e w2 ⟨⟨g2, rfl, R2⟩, hb2⟩
  replace RA := Lib.hid (prow_below RA.out hb2)
  replace HB := Lib.hid (belT HB.out hb2)
  clear hb2
  have RB := Lib.hid R2
  clear R2
  go_wp2_with fail
  refine (sepedge_is (some ⟨g1, 0, none⟩) (some ⟨g2, 0, none⟩) 4 4 4 4 (sqL 0 0 4 4) (sqL 6 1 8 3) 0 1 true _ rfl rfl (Lib.hid h5_s1) (by omega) (by omega) (by omega) (by omega) RA.out RB.out ar_A ar_Q1).mono ?_
  rintro e w3 ⟨rfl, hb3⟩
  replace RA := Lib.hid (prow_below RA.out hb3)
  replace RB := Lib.hid (prow_below RB.out hb3)
  replace HB := Lib.hid (belT HB.out hb3)
  clear hb3
  go_wp2_with fail
  refine (square_is 4 4 2 6 6 _ (Lib.hid (by omega)) (Lib.hid (by omega)) (by omega) (by omega) (by omega)).mono ?_
  rintro e w4 ⟨⟨g4, rfl, R4⟩, hb4⟩
  replace RA := Lib.hid (prow_below (prow_alloc RA.out _) hb4)
  replace RB := Lib.hid (prow_below (prow_alloc RB.out _) hb4)
  have Z3 := Lib.hid (blk_call (blk_new w3 (.cells #[.int .i64 0, .int .i64 1] 35) _ rfl) hb4)
  replace HB := Lib.hid (belT (belA HB.out _) hb4)
  clear hb4
  clear RB
  have RB := Lib.hid R4
  clear R4
  go_wp2_with fail
  refine (sepedge_is (some ⟨g1, 0, none⟩) (some ⟨g4, 0, none⟩) 4 4 4 4 (sqL 0 0 4 4) (sqL 4 4 6 6) 0 0 false _ rfl rfl (Lib.hid h5_s2) (by omega) (by omega) (by omega) (by omega) RA.out RB.out ar_A ar_Q2).mono ?_
  rintro e w5 ⟨rfl, hb5⟩
  replace RA := Lib.hid (prow_below RA.out hb5)
  replace Z3 := Lib.hid (blk_call Z3.out hb5)
  replace RB := Lib.hid (prow_below RB.out hb5)
  replace HB := Lib.hid (belT HB.out hb5)
  clear hb5
  go_wp2_with fail
  refine (square_is 4 4 2 6 6 _ (Lib.hid (by omega)) (Lib.hid (by omega)) (by omega) (by omega) (by omega)).mono ?_
  rintro e w6 ⟨⟨g6, rfl, R6⟩, hb6⟩
  replace RA := Lib.hid (prow_below (prow_alloc RA.out _) hb6)
  replace Z3 := Lib.hid (blk_call (blk_alloc Z3.out _) hb6)
  replace RB := Lib.hid (prow_below (prow_alloc RB.out _) hb6)
  have Z5 := Lib.hid (blk_call (blk_new w5 (.cells #[.int .i64 0, .int .i64 0] 35) _ rfl) hb6)
  replace HB := Lib.hid (belT (belA HB.out _) hb6)
  clear hb6
  clear RB
  have RB := Lib.hid R6
  clear R6
  go_wp2_with fail
  refine (contact_is (some ⟨g1, 0, none⟩) (some ⟨g6, 0, none⟩) 4 4 4 4 (sqL 0 0 4 4) (sqL 4 4 6 6) 1 1 0 true _ rfl rfl (Lib.hid h5_c1) (by omega) (by omega) (by omega) (by omega) RA.out RB.out ar_A ar_Q2).mono ?_
  rintro e w7 ⟨rfl, hb7⟩
  replace RA := Lib.hid (prow_below RA.out hb7)
  replace Z3 := Lib.hid (blk_call Z3.out hb7)
  replace Z5 := Lib.hid (blk_call Z5.out hb7)
  replace RB := Lib.hid (prow_below RB.out hb7)
  replace HB := Lib.hid (belT HB.out hb7)
  clear hb7
  go_wp2_with fail
  refine (square_is 1 1 2 3 3 _ (Lib.hid (by omega)) (Lib.hid (by omega)) (by omega) (by omega) (by omega)).mono ?_
  rintro e w8 ⟨⟨g8, rfl, R8⟩, hb8⟩
  replace RA := Lib.hid (prow_below (prow_alloc RA.out _) hb8)
  replace Z3 := Lib.hid (blk_call (blk_alloc Z3.out _) hb8)
  replace Z5 := Lib.hid (blk_call (blk_alloc Z5.out _) hb8)
  replace RB := Lib.hid (prow_below (prow_alloc RB.out _) hb8)
  have Z7 := Lib.hid (blk_call (blk_new w7 (.cells #[.int .i64 1, .int .i64 1, .int .i64 0] 37) _ rfl) hb8)
  replace HB := Lib.hid (belT (belA HB.out _) hb8)
  clear hb8
  clear RB
  have RB := Lib.hid R8
  clear R8
  go_wp2_with fail
  refine (contact_is (some ⟨g1, 0, none⟩) (some ⟨g8, 0, none⟩) 4 4 4 4 (sqL 0 0 4 4) (sqL 1 1 3 3) 3 0 0 true _ rfl rfl (Lib.hid h5_c2) (by omega) (by omega) (by omega) (by omega) RA.out RB.out ar_A ar_Q3).mono ?_
  rintro e w9 ⟨rfl, hb9⟩
  replace RA := Lib.hid (prow_below RA.out hb9)
  replace Z3 := Lib.hid (blk_call Z3.out hb9)
  replace Z5 := Lib.hid (blk_call Z5.out hb9)
  replace Z7 := Lib.hid (blk_call Z7.out hb9)
  replace RB := Lib.hid (prow_below RB.out hb9)
  replace HB := Lib.hid (belT HB.out hb9)
  clear hb9
  go_wp2_with fail
  refine (square_is 1 1 2 3 3 _ (Lib.hid (by omega)) (Lib.hid (by omega)) (by omega) (by omega) (by omega)).mono ?_
  rintro e w10 ⟨⟨g10, rfl, R10⟩, hb10⟩
  replace RA := Lib.hid (prow_below (prow_alloc RA.out _) hb10)
  replace Z3 := Lib.hid (blk_call (blk_alloc Z3.out _) hb10)
  replace Z5 := Lib.hid (blk_call (blk_alloc Z5.out _) hb10)
  replace Z7 := Lib.hid (blk_call (blk_alloc Z7.out _) hb10)
  replace RB := Lib.hid (prow_below (prow_alloc RB.out _) hb10)
  have Z9 := Lib.hid (blk_call (blk_new w9 (.cells #[.int .i64 3, .int .i64 0, .int .i64 0] 37) _ rfl) hb10)
  replace HB := Lib.hid (belT (belA HB.out _) hb10)
  clear hb10
  clear RB
  have RB := Lib.hid R10
  clear R10
  go_wp2_with fail
  refine (contact_is (some ⟨g10, 0, none⟩) (some ⟨g1, 0, none⟩) 4 4 4 4 (sqL 1 1 3 3) (sqL 0 0 4 4) 2 0 0 true _ rfl rfl (Lib.hid h5_c3) (by omega) (by omega) (by omega) (by omega) RB.out RA.out ar_Q3 ar_A).mono ?_
  rintro e w11 ⟨rfl, hb11⟩
  replace RA := Lib.hid (prow_below RA.out hb11)
  replace Z3 := Lib.hid (blk_call Z3.out hb11)
  replace Z5 := Lib.hid (blk_call Z5.out hb11)
  replace Z7 := Lib.hid (blk_call Z7.out hb11)
  replace Z9 := Lib.hid (blk_call Z9.out hb11)
  replace RB := Lib.hid (prow_below RB.out hb11)
  replace HB := Lib.hid (belT HB.out hb11)
  clear hb11
  go_wp2_with fail
  refine (square_is 5 0 2 7 2 _ (Lib.hid (by omega)) (Lib.hid (by omega)) (by omega) (by omega) (by omega)).mono ?_
  rintro e w12 ⟨⟨g12, rfl, R12⟩, hb12⟩
  replace RA := Lib.hid (prow_below (prow_alloc RA.out _) hb12)
  replace Z3 := Lib.hid (blk_call (blk_alloc Z3.out _) hb12)
  replace Z5 := Lib.hid (blk_call (blk_alloc Z5.out _) hb12)
  replace Z7 := Lib.hid (blk_call (blk_alloc Z7.out _) hb12)
  replace Z9 := Lib.hid (blk_call (blk_alloc Z9.out _) hb12)
  replace RB := Lib.hid (prow_below (prow_alloc RB.out _) hb12)
  have Z11 := Lib.hid (blk_call (blk_new w11 (.cells #[.int .i64 2, .int .i64 0, .int .i64 0] 37) _ rfl) hb12)
  replace HB := Lib.hid (belT (belA HB.out _) hb12)
  clear hb12
  clear RB
  have RB := Lib.hid R12
  clear R12
  go_wp2_with fail
  refine (contact_is (some ⟨g1, 0, none⟩) (some ⟨g12, 0, none⟩) 4 4 4 4 (sqL 0 0 4 4) (sqL 5 0 7 2) 0 0 0 false _ rfl rfl (Lib.hid h5_c4) (by omega) (by omega) (by omega) (by omega) RA.out RB.out ar_A ar_Q4).mono ?_
  rintro e w13 ⟨rfl, hb13⟩
  replace RA := Lib.hid (prow_below RA.out hb13)
  replace Z3 := Lib.hid (blk_call Z3.out hb13)
  replace Z5 := Lib.hid (blk_call Z5.out hb13)
  replace Z7 := Lib.hid (blk_call Z7.out hb13)
  replace Z9 := Lib.hid (blk_call Z9.out hb13)
  replace Z11 := Lib.hid (blk_call Z11.out hb13)
  replace RB := Lib.hid (prow_below RB.out hb13)
  replace HB := Lib.hid (belT HB.out hb13)
  clear hb13
  have zZ3_0 := blk_cell (blk_alloc Z3.out (.cells #[.int .i64 0, .int .i64 0, .int .i64 0] 37)) 0 _ rfl
  have zZ3_1 := blk_cell (blk_alloc Z3.out (.cells #[.int .i64 0, .int .i64 0, .int .i64 0] 37)) 1 _ rfl
  have zZ5_0 := blk_cell (blk_alloc Z5.out (.cells #[.int .i64 0, .int .i64 0, .int .i64 0] 37)) 0 _ rfl
  have zZ5_1 := blk_cell (blk_alloc Z5.out (.cells #[.int .i64 0, .int .i64 0, .int .i64 0] 37)) 1 _ rfl
  have zZ7_0 := blk_cell (blk_alloc Z7.out (.cells #[.int .i64 0, .int .i64 0, .int .i64 0] 37)) 0 _ rfl
  have zZ7_1 := blk_cell (blk_alloc Z7.out (.cells #[.int .i64 0, .int .i64 0, .int .i64 0] 37)) 1 _ rfl
  have zZ7_2 := blk_cell (blk_alloc Z7.out (.cells #[.int .i64 0, .int .i64 0, .int .i64 0] 37)) 2 _ rfl
  have zZ9_0 := blk_cell (blk_alloc Z9.out (.cells #[.int .i64 0, .int .i64 0, .int .i64 0] 37)) 0 _ rfl
  have zZ9_1 := blk_cell (blk_alloc Z9.out (.cells #[.int .i64 0, .int .i64 0, .int .i64 0] 37)) 1 _ rfl
  have zZ9_2 := blk_cell (blk_alloc Z9.out (.cells #[.int .i64 0, .int .i64 0, .int .i64 0] 37)) 2 _ rfl
  have zZ11_0 := blk_cell (blk_alloc Z11.out (.cells #[.int .i64 0, .int .i64 0, .int .i64 0] 37)) 0 _ rfl
  have zZ11_1 := blk_cell (blk_alloc Z11.out (.cells #[.int .i64 0, .int .i64 0, .int .i64 0] 37)) 1 _ rfl
  have zZ11_2 := blk_cell (blk_alloc Z11.out (.cells #[.int .i64 0, .int .i64 0, .int .i64 0] 37)) 2 _ rfl
  go_wp2_with fail
  refine (square_is 6 1 2 8 3 _ (Lib.hid (by omega)) (Lib.hid (by omega)) (by omega) (by omega) (by omega)).mono ?_
  rintro e w14 ⟨⟨g14, rfl, R14⟩, hb14⟩
  clear zZ3_0 zZ3_1 zZ5_0 zZ5_1 zZ7_0 zZ7_1 zZ7_2 zZ9_0 zZ9_1 zZ9_2 zZ11_0 zZ11_1 zZ11_2
  replace RA := Lib.hid (prow_below (prow_alloc RA.out _) hb14)
  replace Z3 := Lib.hid (blk_call (blk_alloc Z3.out _) hb14)
  replace Z5 := Lib.hid (blk_call (blk_alloc Z5.out _) hb14)
  replace Z7 := Lib.hid (blk_call (blk_alloc Z7.out _) hb14)
  replace Z9 := Lib.hid (blk_call (blk_alloc Z9.out _) hb14)
  replace Z11 := Lib.hid (blk_call (blk_alloc Z11.out _) hb14)
  replace RB := Lib.hid (prow_below (prow_alloc RB.out _) hb14)
  have Z13 := Lib.hid (blk_call (blk_new w13 (.cells #[.int .i64 0, .int .i64 0, .int .i64 0] 37) _ rfl) hb14)
  replace HB := Lib.hid (belT (belA HB.out _) hb14)
  clear hb14
  clear RB
  have RB := Lib.hid R14
  clear R14
  go_wp2_with fail
  refine (issep_is (some ⟨g1, 0, none⟩) (some ⟨g14, 0, none⟩) 4 4 4 4 (sqL 0 0 4 4) (sqL 6 1 8 3) 1 3 true _ rfl rfl (Lib.hid h5_p1) (by omega) (by omega) RA.out RB.out ar_A ar_Q1).mono ?_
  rintro e w15 ⟨rfl, hb15⟩
  replace RA := Lib.hid (prow_below RA.out hb15)
  replace Z3 := Lib.hid (blk_call Z3.out hb15)
  replace Z5 := Lib.hid (blk_call Z5.out hb15)
  replace Z7 := Lib.hid (blk_call Z7.out hb15)
  replace Z9 := Lib.hid (blk_call Z9.out hb15)
  replace Z11 := Lib.hid (blk_call Z11.out hb15)
  replace Z13 := Lib.hid (blk_call Z13.out hb15)
  replace RB := Lib.hid (prow_below RB.out hb15)
  replace HB := Lib.hid (belT HB.out hb15)
  clear hb15
  go_wp2_with fail
  refine (square_is 6 1 2 8 3 _ (Lib.hid (by omega)) (Lib.hid (by omega)) (by omega) (by omega) (by omega)).mono ?_
  rintro e w16 ⟨⟨g16, rfl, R16⟩, hb16⟩
  replace RA := Lib.hid (prow_below RA.out hb16)
  replace Z3 := Lib.hid (blk_call Z3.out hb16)
  replace Z5 := Lib.hid (blk_call Z5.out hb16)
  replace Z7 := Lib.hid (blk_call Z7.out hb16)
  replace Z9 := Lib.hid (blk_call Z9.out hb16)
  replace Z11 := Lib.hid (blk_call Z11.out hb16)
  replace Z13 := Lib.hid (blk_call Z13.out hb16)
  replace RB := Lib.hid (prow_below RB.out hb16)
  replace HB := Lib.hid (belT HB.out hb16)
  clear hb16
  clear RB
  have RB := Lib.hid R16
  clear R16
  go_wp2_with fail
  refine (issep_is (some ⟨g1, 0, none⟩) (some ⟨g16, 0, none⟩) 4 4 4 4 (sqL 0 0 4 4) (sqL 6 1 8 3) 0 0 false _ rfl rfl (Lib.hid h5_p2) (by omega) (by omega) RA.out RB.out ar_A ar_Q1).mono ?_
  rintro e w17 ⟨rfl, hb17⟩
  replace RA := Lib.hid (prow_below RA.out hb17)
  replace Z3 := Lib.hid (blk_call Z3.out hb17)
  replace Z5 := Lib.hid (blk_call Z5.out hb17)
  replace Z7 := Lib.hid (blk_call Z7.out hb17)
  replace Z9 := Lib.hid (blk_call Z9.out hb17)
  replace Z11 := Lib.hid (blk_call Z11.out hb17)
  replace Z13 := Lib.hid (blk_call Z13.out hb17)
  replace RB := Lib.hid (prow_below RB.out hb17)
  replace HB := Lib.hid (belT HB.out hb17)
  clear hb17
  go_wp2_with fail
  refine (polygons_is (some ⟨g1, 0, none⟩) (some ⟨g1, 0, none⟩) 4 4 4 4 (sqL 0 0 4 4) (sqL 0 0 4 4) true _ rfl rfl (Lib.hid h5_t1) (by omega) (by omega) (by omega) (by omega) RA.out RA.out ar_A ar_A).mono ?_
  rintro e w18 ⟨rfl, hb18⟩
  replace RA := Lib.hid (prow_below RA.out hb18)
  replace Z3 := Lib.hid (blk_call Z3.out hb18)
  replace Z5 := Lib.hid (blk_call Z5.out hb18)
  replace Z7 := Lib.hid (blk_call Z7.out hb18)
  replace Z9 := Lib.hid (blk_call Z9.out hb18)
  replace Z11 := Lib.hid (blk_call Z11.out hb18)
  replace Z13 := Lib.hid (blk_call Z13.out hb18)
  replace RB := Lib.hid (prow_below RB.out hb18)
  replace HB := Lib.hid (belT HB.out hb18)
  clear hb18
  go_wp2_with fail
  refine (square_is 4 4 2 6 6 _ (Lib.hid (by omega)) (Lib.hid (by omega)) (by omega) (by omega) (by omega)).mono ?_
  rintro e w19 ⟨⟨g19, rfl, R19⟩, hb19⟩
  replace RA := Lib.hid (prow_below RA.out hb19)
  replace Z3 := Lib.hid (blk_call Z3.out hb19)
  replace Z5 := Lib.hid (blk_call Z5.out hb19)
  replace Z7 := Lib.hid (blk_call Z7.out hb19)
  replace Z9 := Lib.hid (blk_call Z9.out hb19)
  replace Z11 := Lib.hid (blk_call Z11.out hb19)
  replace Z13 := Lib.hid (blk_call Z13.out hb19)
  replace RB := Lib.hid (prow_below RB.out hb19)
  replace HB := Lib.hid (belT HB.out hb19)
  clear hb19
  clear RB
  have RB := Lib.hid R19
  clear R19
  go_wp2_with fail
  refine (iscon_is (some ⟨g1, 0, none⟩) (some ⟨g19, 0, none⟩) 4 4 4 4 (sqL 0 0 4 4) (sqL 4 4 6 6) 2 2 0 true _ rfl rfl (Lib.hid h5_i1) (by omega) (by omega) (by omega) (by omega) RA.out RB.out ar_A ar_Q2).mono ?_
  rintro e w20 ⟨rfl, hb20⟩
  replace RA := Lib.hid (prow_below RA.out hb20)
  replace Z3 := Lib.hid (blk_call Z3.out hb20)
  replace Z5 := Lib.hid (blk_call Z5.out hb20)
  replace Z7 := Lib.hid (blk_call Z7.out hb20)
  replace Z9 := Lib.hid (blk_call Z9.out hb20)
  replace Z11 := Lib.hid (blk_call Z11.out hb20)
  replace Z13 := Lib.hid (blk_call Z13.out hb20)
  replace RB := Lib.hid (prow_below RB.out hb20)
  replace HB := Lib.hid (belT HB.out hb20)
  clear hb20
  go_wp2_with fail
  go_ret
  exact ⟨rfl, HB.out⟩
end Go.Proofs.Ytojfonenpplahaa
