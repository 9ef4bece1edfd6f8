/- Contract of package geom: OnSegment. No condition on memory; the coordinates are bounded. -/
import Derived.Test.YthmcejeeohlafaaDoorGeoB
namespace Go.Proofs.YthmcejeeohlafaaDoor
open Go.ChangeShapes Go.WideShapes Go.ChangeAt Go.RowKit

def onB (a b c d p q : Int) : Bool := decide (mnI a c ≤ p) && decide (p ≤ mxI a c) && decide (mnI b d ≤ q) && decide (q ≤ mxI b d) && (ori a b c d p q == 0)

set_option maxHeartbeats 4000000 in
theorem onseg_any (a b c d p q : Int) (w : World) (ha : InR a) (hb : InR b) (hc : InR c) (hd : InR d) (hp : InR p) (hq : InR q) :
    Calls Tryd.prog 29 #[.agg #[.int .i64 a, .int .i64 b], .agg #[.int .i64 c, .int .i64 d], .agg #[.int .i64 p, .int .i64 q]] w fun e w' => e = .returned (.bool (onB a b c d p q)) ∧ Below w.heap.size w w' := by
  obtain ⟨x, hx⟩ : ∃ x, x = mnI a c := ⟨_, rfl⟩
  obtain ⟨y, hy⟩ : ∃ y, y = mnI b d := ⟨_, rfl⟩
  obtain ⟨X, hX⟩ : ∃ X, X = mxI a c := ⟨_, rfl⟩
  obtain ⟨Y, hY⟩ : ∃ Y, Y = mxI b d := ⟨_, rfl⟩
  have E : Hid (onB a b c d p q = (decide (x ≤ p) && decide (p ≤ X) && decide (y ≤ q) && decide (q ≤ Y) && (ori a b c d p q == 0))) := Lib.hid (by rw [hx, hX, hy, hY]; rfl)
  have L := lower_any a b c d
  have U := upper_any a b c d
  rw [← hx, ← hy] at L
  rw [← hX, ← hY] at U
  have HL := Lib.hid L
  have HU := Lib.hid U
  clear hx hy hX hY L U
  go_enter Tryd.func29, Tryd.ntmps29
  go_upto_region 1 with fail
  have k0 : (((w.alloc (.cells #[.int .i64 a, .int .i64 b] 25)).alloc (.cells #[.int .i64 c, .int .i64 d] 25)).alloc (.cells #[.int .i64 p, .int .i64 q] 25)).cell? ⟨w.heap.size, 0, none⟩ = some (.int .i64 a) := (cell_alloc (cell_alloc (show (w.alloc (.cells #[.int .i64 a, .int .i64 b] 25)).cell? ⟨w.heap.size, 0, none⟩ = some (.int .i64 a) from cb0 _ _ _ _ rfl) _) _)
  have k1 : (((w.alloc (.cells #[.int .i64 a, .int .i64 b] 25)).alloc (.cells #[.int .i64 c, .int .i64 d] 25)).alloc (.cells #[.int .i64 p, .int .i64 q] 25)).cell? ⟨w.heap.size, 1, none⟩ = some (.int .i64 b) := (cell_alloc (cell_alloc (show (w.alloc (.cells #[.int .i64 a, .int .i64 b] 25)).cell? ⟨w.heap.size, 1, none⟩ = some (.int .i64 b) from cb1 _ _ _ _ rfl) _) _)
  have k2 : (((w.alloc (.cells #[.int .i64 a, .int .i64 b] 25)).alloc (.cells #[.int .i64 c, .int .i64 d] 25)).alloc (.cells #[.int .i64 p, .int .i64 q] 25)).cell? ⟨w.heap.size + 1, 0, none⟩ = some (.int .i64 c) := (cell_alloc (show ((w.alloc (.cells #[.int .i64 a, .int .i64 b] 25)).alloc (.cells #[.int .i64 c, .int .i64 d] 25)).cell? ⟨w.heap.size + 1, 0, none⟩ = some (.int .i64 c) from cb0 _ _ _ _ (by simp)) _)
  have k3 : (((w.alloc (.cells #[.int .i64 a, .int .i64 b] 25)).alloc (.cells #[.int .i64 c, .int .i64 d] 25)).alloc (.cells #[.int .i64 p, .int .i64 q] 25)).cell? ⟨w.heap.size + 1, 1, none⟩ = some (.int .i64 d) := (cell_alloc (show ((w.alloc (.cells #[.int .i64 a, .int .i64 b] 25)).alloc (.cells #[.int .i64 c, .int .i64 d] 25)).cell? ⟨w.heap.size + 1, 1, none⟩ = some (.int .i64 d) from cb1 _ _ _ _ (by simp)) _)
  have k4 : (((w.alloc (.cells #[.int .i64 a, .int .i64 b] 25)).alloc (.cells #[.int .i64 c, .int .i64 d] 25)).alloc (.cells #[.int .i64 p, .int .i64 q] 25)).cell? ⟨w.heap.size + 1 + 1, 0, none⟩ = some (.int .i64 p) := (show (((w.alloc (.cells #[.int .i64 a, .int .i64 b] 25)).alloc (.cells #[.int .i64 c, .int .i64 d] 25)).alloc (.cells #[.int .i64 p, .int .i64 q] 25)).cell? ⟨w.heap.size + 1 + 1, 0, none⟩ = some (.int .i64 p) from cb0 _ _ _ _ (by simp))
  have k5 : (((w.alloc (.cells #[.int .i64 a, .int .i64 b] 25)).alloc (.cells #[.int .i64 c, .int .i64 d] 25)).alloc (.cells #[.int .i64 p, .int .i64 q] 25)).cell? ⟨w.heap.size + 1 + 1, 1, none⟩ = some (.int .i64 q) := (show (((w.alloc (.cells #[.int .i64 a, .int .i64 b] 25)).alloc (.cells #[.int .i64 c, .int .i64 d] 25)).alloc (.cells #[.int .i64 p, .int .i64 q] 25)).cell? ⟨w.heap.size + 1 + 1, 1, none⟩ = some (.int .i64 q) from cb1 _ _ _ _ (by simp))
  have hB : Below w.heap.size w (((w.alloc (.cells #[.int .i64 a, .int .i64 b] 25)).alloc (.cells #[.int .i64 c, .int .i64 d] 25)).alloc (.cells #[.int .i64 p, .int .i64 q] 25)) := ((((Below.refl _ _).alloc (Nat.le_refl _) _).alloc (by first | omega | (simp; done) | (simp; omega)) _).alloc (by first | omega | (simp; done) | (simp; omega)) _)
  have z0 : w.heap.size + 1 + 1 < (((w.alloc (.cells #[.int .i64 a, .int .i64 b] 25)).alloc (.cells #[.int .i64 c, .int .i64 d] 25)).alloc (.cells #[.int .i64 p, .int .i64 q] 25)).heap.size := by first | omega | (simp; done) | (simp; omega)
  generalize (((w.alloc (.cells #[.int .i64 a, .int .i64 b] 25)).alloc (.cells #[.int .i64 c, .int .i64 d] 25)).alloc (.cells #[.int .i64 p, .int .i64 q] 25)) = w3 at *
  have hS : Hid (∀ w', Below w3.heap.size w3 w' → w'.cell? ⟨w.heap.size, 0, none⟩ = some (.int .i64 a) ∧ w'.cell? ⟨w.heap.size, 1, none⟩ = some (.int .i64 b) ∧ w'.cell? ⟨w.heap.size + 1, 0, none⟩ = some (.int .i64 c) ∧ w'.cell? ⟨w.heap.size + 1, 1, none⟩ = some (.int .i64 d) ∧ w'.cell? ⟨w.heap.size + 1 + 1, 0, none⟩ = some (.int .i64 p) ∧ w'.cell? ⟨w.heap.size + 1 + 1, 1, none⟩ = some (.int .i64 q) ∧ Below w3.heap.size w3 w') := Lib.hid (fun w' h => ⟨cell_call k0 h, cell_call k1 h, cell_call k2 h, cell_call k3 h, cell_call k4 h, cell_call k5 h, h⟩)
  have b3 : Below w3.heap.size w3 w3 := Below.refl _ _
  go_cut [7, 8] (fun s7 s8 wx => ∃ g h : Nat, s7 = .pointer (some ⟨g, 0, none⟩) ∧ s8 = .pointer (some ⟨h, 0, none⟩) ∧ wx.cell? ⟨g, 0, none⟩ = some (.int .i64 x) ∧ wx.cell? ⟨g, 1, none⟩ = some (.int .i64 y) ∧ wx.cell? ⟨h, 0, none⟩ = some (.int .i64 X) ∧ wx.cell? ⟨h, 1, none⟩ = some (.int .i64 Y) ∧ Below w3.heap.size w3 wx)
  case first =>
    clear ha hb hc hd hp hq
    go_region_held3 (fun w' => w'.cell? ⟨w.heap.size, 0, none⟩ = some (.int .i64 a) ∧ w'.cell? ⟨w.heap.size, 1, none⟩ = some (.int .i64 b) ∧ w'.cell? ⟨w.heap.size + 1, 0, none⟩ = some (.int .i64 c) ∧ w'.cell? ⟨w.heap.size + 1, 1, none⟩ = some (.int .i64 d) ∧ w'.cell? ⟨w.heap.size + 1 + 1, 0, none⟩ = some (.int .i64 p) ∧ w'.cell? ⟨w.heap.size + 1 + 1, 1, none⟩ = some (.int .i64 q) ∧ Below w3.heap.size w3 w')
      ((go_split_ands; refine hS.out _ ?_; repeat (first | exact hb8 | assumption | apply Below.drew | (with_reducible refine belA ?_ _) | (with_reducible refine belS ?_ (by first | assumption | exact Nat.le_refl _ | exact Nat.le_succ _ | exact Nat.le_succ_of_le (by assumption)) _))))
      (first | (go_at_call 43; (first | (with_reducible refine (HL.out _).mono ?_)); rintro e w9 ⟨rfl, hb9⟩; have hb8 : Below w3.heap.size w3 w9 := belT (by go_split_ands; repeat (first | assumption | apply Below.drew | (with_reducible refine belA ?_ _))) hb9; have hz8 : w3.heap.size ≤ w9.heap.size := hb8.size; obtain ⟨hc9, hf9⟩ := bcell hb9; have hs9 := hb9.size; (try simp at hs9); (try have hs9b := Nat.lt_of_succ_le hs9); (try have hs9c := Nat.lt_of_succ_lt hs9b); (try have hs9d : w3.heap.size < w9.heap.size := by omega); (try have hs9e : w3.heap.size + 1 < w9.heap.size := by omega)) | (go_at_call 44; (first | (with_reducible refine (HU.out _).mono ?_)); rintro e w9 ⟨rfl, hb9⟩; have hb8 : Below w3.heap.size w3 w9 := belT (by go_split_ands; repeat (first | assumption | apply Below.drew | (with_reducible refine belA ?_ _))) hb9; have hz8 : w3.heap.size ≤ w9.heap.size := hb8.size; obtain ⟨hc9, hf9⟩ := bcell hb9; have hs9 := hb9.size; (try simp at hs9); (try have hs9b := Nat.lt_of_succ_le hs9); (try have hs9c := Nat.lt_of_succ_lt hs9b); (try have hs9d : w3.heap.size < w9.heap.size := by omega); (try have hs9e : w3.heap.size + 1 < w9.heap.size := by omega)))
    all_goals
      rename_i hH
      obtain ⟨_, _, _, _, _, _, bz⟩ := hH
      have fin := Lib.hid bz
      clear bz hS b3
      go_wp2_with fail
      go_meet
      refine ⟨_, _, rfl, rfl, ?_, ?_, ?_, ?_, fin.out⟩
      all_goals (first | rfl | (go_simp; done) | (go_simp; refine setc (x := .int .i64 0) ?_ _; go_simp; done))
  case rest =>
    obtain ⟨g, h, rfl, rfl, c1, c2, c3, c4, hB2⟩ := hcut
    have hB3 := Lib.hid (hB.trans (hB2.mono hB.size))
    have k0' := cell_call k0 hB2
    have k1' := cell_call k1 hB2
    have k2' := cell_call k2 hB2
    have k3' := cell_call k3 hB2
    have k4' := cell_call k4 hB2
    have k5' := cell_call k5 hB2
    clear hB hS b3 z0 k0 k1 k2 k3 k4 k5 hB2 HL HU
    go_wp2_with (go_at_call 40; refine (orient_any a b c d p q _ ha hb hc hd hp hq).mono ?_; rintro e w4 ⟨rfl, hb4⟩)
    go_ways
    all_goals
      go_ret
      refine ⟨ret_bool ?_, ?_⟩
      · rw [E.out]; simp [*]; try (intros; omega)
      · first | exact hB3.out | exact hB3.out.trans (hb4.mono hB3.out.size)
end Go.Proofs.YthmcejeeohlafaaDoor
