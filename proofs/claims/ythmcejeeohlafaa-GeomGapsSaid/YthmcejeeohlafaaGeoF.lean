/- Contract of package geom: BoxDistance. Condition: the cells of both slices read as the lists say; the coordinates are bounded. -/
import Derived.Test.YthmcejeeohlafaaGeoD
import Derived.Test.YthmcejeeohlafaaGeoE
namespace Go.Proofs.Ythmcejeeohlafaa
open Go.ChangeShapes Go.WideShapes Go.ChangeAt Go.RowKit

/-- All coordinates are bounded. -/
def AllR (l : List (Int × Int)) : Prop := ∀ i, i < l.length → InR (l.getD i (0, 0)).1 ∧ InR (l.getD i (0, 0)).2
theorem inr_mn {a b : Int} (h : InR a) (g : InR b) : InR (mnI a b) := by rcases (mnI_bd a b).2 with e | e <;> rw [e] <;> assumption
theorem inr_mx {a b : Int} (h : InR a) (g : InR b) : InR (mxI a b) := by rcases (mxI_bd a b).2 with e | e <;> rw [e] <;> assumption
theorem fold_inr (f : Int × Int → Int × Int → Int × Int) (hf : ∀ x y : Int × Int, (InR x.1 ∧ InR x.2) → (InR y.1 ∧ InR y.2) → InR (f x y).1 ∧ InR (f x y).2) (l : List (Int × Int)) (h : AllR l) :
    ∀ k, k ≤ l.length → InR (foldP f (l.take k)).1 ∧ InR (foldP f (l.take k)).2 := by
  intro k
  induction k with
  | zero => intro _; simp [foldP, InR]
  | succ k ih =>
    intro hk
    by_cases h0 : k = 0
    · subst h0
      rw [foldP_one f l (by omega)]
      exact h 0 (by omega)
    · rw [foldP_succ f l k (by omega) (by omega)]
      exact hf _ _ (ih (by omega)) (h k (by omega))
theorem low_inr (l : List (Int × Int)) (h : AllR l) : InR (foldP lowP l).1 ∧ InR (foldP lowP l).2 := by
  have := fold_inr lowP (fun x y hx hy => ⟨inr_mn hx.1 hy.1, inr_mn hx.2 hy.2⟩) l h l.length (Nat.le_refl _)
  rwa [List.take_length] at this
theorem upp_inr (l : List (Int × Int)) (h : AllR l) : InR (foldP uppP l).1 ∧ InR (foldP uppP l).2 := by
  have := fold_inr uppP (fun x y hx hy => ⟨inr_mx hx.1 hy.1, inr_mx hx.2 hy.2⟩) l h l.length (Nat.le_refl _)
  rwa [List.take_length] at this

/-- The distance of two boxes. -/
def gapI (a b c d p q r s : Int) : Int := foldI [0, p - c, q - d, a - r, b - s]
def boxD (la lb : List (Int × Int)) : Int := if la.length = 0 ∨ lb.length = 0 then 0 else
  gapI (foldP lowP la).1 (foldP lowP la).2 (foldP uppP la).1 (foldP uppP la).2 (foldP lowP lb).1 (foldP lowP lb).2 (foldP uppP lb).1 (foldP uppP lb).2

theorem irow5 (w : World) (T : TypeId) (x0 x1 x2 x3 x4 : Int) : IRow (w.alloc (.cells #[.int .i64 x0, .int .i64 x1, .int .i64 x2, .int .i64 x3, .int .i64 x4] T)) (some ⟨w.heap.size, 0, none⟩) [x0, x1, x2, x3, x4] := fun i hi => by
  refine ⟨w.heap.size, 0, rfl, cbx _ _ _ _ _ _ rfl ?_⟩
  have : i = 0 ∨ i = 1 ∨ i = 2 ∨ i = 3 ∨ i = 4 := by simp at hi; omega
  rcases this with rfl | rfl | rfl | rfl | rfl <;> rfl

theorem bbox_is (ao : Option Addr) (cap : Nat) (l : List (Int × Int)) (w : World) (hl : l.length ≤ 1000000) (hr : PRow w ao l) (a b c d : Int) (hL : Hid (foldP lowP l = (a, b))) (hU : Hid (foldP uppP l = (c, d))) :
    Calls Try.prog 8 #[.slice ao l.length cap] w fun e w' => e = .returned (.tuple #[.agg #[.int .i64 a, .int .i64 b], .agg #[.int .i64 c, .int .i64 d]]) ∧ Below w.heap.size w w' := by
  have := bbox_any ao cap l w hl hr
  rw [hL.out, hU.out] at this
  exact this

theorem boxdist_zero (ao bo : Option Addr) (ca cb : Nat) (la lb : List (Int × Int)) (w : World) (ha : la.length ≤ 1000000) (hb : lb.length ≤ 1000000) (h : la.length = 0 ∨ lb.length = 0) :
    Calls Try.prog 7 #[.slice ao la.length ca, .slice bo lb.length cb] w fun e w' => e = .returned (.int .i64 (boxD la lb)) ∧ Below w.heap.size w w' := by
  have E : Hid (boxD la lb = 0) := Lib.hid (by unfold boxD; rw [if_pos h])
  by_cases h0 : la.length = 0
  · rw [h0]
    clear h h0
    go_enter Try.func7, Try.ntmps7
    go_wp2
    go_ret
    exact ⟨ret_int E.out.symm, Below.refl _ _⟩
  · have h1 : lb.length = 0 := by omega
    have h2 : ¬ (la.length : Int) = 0 := by omega
    rw [h1]
    clear h h1
    go_enter Try.func7, Try.ntmps7
    go_wp2
    go_ret
    exact ⟨ret_int E.out.symm, Below.refl _ _⟩

set_option maxHeartbeats 4000000 in
theorem boxdist_some (ao bo : Option Addr) (ca cb : Nat) (la lb : List (Int × Int)) (w : World) (ha : la.length ≤ 1000000) (hb' : lb.length ≤ 1000000) (h0 : 0 < la.length) (h1 : 0 < lb.length) (ra : PRow w ao la) (rb : PRow w bo lb) (a b c d p q r s : Int) (ia : InR a) (ib : InR b) (ic : InR c) (id : InR d) (ip : InR p) (iq : InR q) (ir : InR r) (is : InR s)
    (hL : Hid (foldP lowP la = (a, b))) (hU : Hid (foldP uppP la = (c, d))) (hM : Hid (foldP lowP lb = (p, q))) (hV : Hid (foldP uppP lb = (r, s))) :
    Calls Try.prog 7 #[.slice ao la.length ca, .slice bo lb.length cb] w fun e w' => e = .returned (.int .i64 (gapI a b c d p q r s)) ∧ Below w.heap.size w w' := by
  have d1 := dif_bd ip ic
  have d2 := dif_bd iq id
  have d3 := dif_bd ia ir
  have d4 := dif_bd ib is
  have e1 : -9223372036854775808 ≤ p - c ∧ p - c ≤ 9223372036854775807 := by omega
  have e2 : -9223372036854775808 ≤ q - d ∧ q - d ≤ 9223372036854775807 := by omega
  have e3 : -9223372036854775808 ≤ a - r ∧ a - r ≤ 9223372036854775807 := by omega
  have e4 : -9223372036854775808 ≤ b - s ∧ b - s ≤ 9223372036854775807 := by omega
  clear ia ib ic id ip iq ir is d1 d2 d3 d4
  have n0 : ((la.length : Int) == 0) = false := by rw [beq_eq_false_iff_ne]; omega
  have n1 : ((lb.length : Int) == 0) = false := by rw [beq_eq_false_iff_ne]; omega
  have HA := Lib.hid ra
  have HB := Lib.hid rb
  clear ra rb
  have hB : Below w.heap.size w w := Below.refl _ _
  go_enter Try.func7, Try.ntmps7
  go_wp2_with fail
  refine (bbox_is ao ca la _ ha HA.out a b c d hL hU).mono ?_; rintro e w1 ⟨rfl, hb⟩
  replace hB := belT hB hb
  clear hb
  replace HB := Lib.hid (prow_below HB.out hB)
  go_wp2_with fail
  refine (bbox_is bo cb lb _ hb' (prow_alloc (prow_alloc HB.out _) _) p q r s hM hV).mono ?_; rintro e w2 ⟨rfl, hb⟩
  have k1 : w2.cell? ⟨w1.heap.size, 0, none⟩ = some (.int .i64 a) := cell_call (cell_alloc (cbx w1 #[.int .i64 a, .int .i64 b] 27 (w1.heap.size) 0 (.int .i64 a) (by simp) rfl) _) hb
  have k2 : w2.cell? ⟨w1.heap.size, 1, none⟩ = some (.int .i64 b) := cell_call (cell_alloc (cbx w1 #[.int .i64 a, .int .i64 b] 27 (w1.heap.size) 1 (.int .i64 b) (by simp) rfl) _) hb
  have k3 : w2.cell? ⟨w1.heap.size + 1, 0, none⟩ = some (.int .i64 c) := cell_call (cbx (w1.alloc (.cells #[.int .i64 a, .int .i64 b] 27)) #[.int .i64 c, .int .i64 d] 27 (w1.heap.size + 1) 0 (.int .i64 c) (by simp) rfl) hb
  have k4 : w2.cell? ⟨w1.heap.size + 1, 1, none⟩ = some (.int .i64 d) := cell_call (cbx (w1.alloc (.cells #[.int .i64 a, .int .i64 b] 27)) #[.int .i64 c, .int .i64 d] 27 (w1.heap.size + 1) 1 (.int .i64 d) (by simp) rfl) hb
  replace hB := belT (belA (belA hB _) _) hb
  clear hb
  have zk1 : w1.heap.size < w2.heap.size := World.block_lt_of_cell? w2 _ k1
  have zk3 : w1.heap.size + 1 < w2.heap.size := World.block_lt_of_cell? w2 _ k3
  clear HA HB hL hU hM hV
  go_upto_region 5 with fail
  replace k1 : ((w2.alloc (.cells #[.int .i64 p, .int .i64 q] 27)).alloc (.cells #[.int .i64 r, .int .i64 s] 27)).cell? ⟨w1.heap.size, 0, none⟩ = some (.int .i64 a) := (cell_alloc (cell_alloc k1 _) _)
  replace k2 : ((w2.alloc (.cells #[.int .i64 p, .int .i64 q] 27)).alloc (.cells #[.int .i64 r, .int .i64 s] 27)).cell? ⟨w1.heap.size, 1, none⟩ = some (.int .i64 b) := (cell_alloc (cell_alloc k2 _) _)
  replace k3 : ((w2.alloc (.cells #[.int .i64 p, .int .i64 q] 27)).alloc (.cells #[.int .i64 r, .int .i64 s] 27)).cell? ⟨w1.heap.size + 1, 0, none⟩ = some (.int .i64 c) := (cell_alloc (cell_alloc k3 _) _)
  replace k4 : ((w2.alloc (.cells #[.int .i64 p, .int .i64 q] 27)).alloc (.cells #[.int .i64 r, .int .i64 s] 27)).cell? ⟨w1.heap.size + 1, 1, none⟩ = some (.int .i64 d) := (cell_alloc (cell_alloc k4 _) _)
  have k5 : ((w2.alloc (.cells #[.int .i64 p, .int .i64 q] 27)).alloc (.cells #[.int .i64 r, .int .i64 s] 27)).cell? ⟨w2.heap.size, 0, none⟩ = some (.int .i64 p) := (cell_alloc (cbx w2 #[.int .i64 p, .int .i64 q] 27 (w2.heap.size) 0 (.int .i64 p) (by simp) rfl) _)
  have k6 : ((w2.alloc (.cells #[.int .i64 p, .int .i64 q] 27)).alloc (.cells #[.int .i64 r, .int .i64 s] 27)).cell? ⟨w2.heap.size, 1, none⟩ = some (.int .i64 q) := (cell_alloc (cbx w2 #[.int .i64 p, .int .i64 q] 27 (w2.heap.size) 1 (.int .i64 q) (by simp) rfl) _)
  have k7 : ((w2.alloc (.cells #[.int .i64 p, .int .i64 q] 27)).alloc (.cells #[.int .i64 r, .int .i64 s] 27)).cell? ⟨w2.heap.size + 1, 0, none⟩ = some (.int .i64 r) := (cbx (w2.alloc (.cells #[.int .i64 p, .int .i64 q] 27)) #[.int .i64 r, .int .i64 s] 27 (w2.heap.size + 1) 0 (.int .i64 r) (by simp) rfl)
  have k8 : ((w2.alloc (.cells #[.int .i64 p, .int .i64 q] 27)).alloc (.cells #[.int .i64 r, .int .i64 s] 27)).cell? ⟨w2.heap.size + 1, 1, none⟩ = some (.int .i64 s) := (cbx (w2.alloc (.cells #[.int .i64 p, .int .i64 q] 27)) #[.int .i64 r, .int .i64 s] 27 (w2.heap.size + 1) 1 (.int .i64 s) (by simp) rfl)
  replace hB : Below w.heap.size w ((w2.alloc (.cells #[.int .i64 p, .int .i64 q] 27)).alloc (.cells #[.int .i64 r, .int .i64 s] 27)) := (belA (belA hB _) _)
  generalize ((w2.alloc (.cells #[.int .i64 p, .int .i64 q] 27)).alloc (.cells #[.int .i64 r, .int .i64 s] 27)) = v3 at *
  have zk1 : w1.heap.size < v3.heap.size := World.block_lt_of_cell? v3 _ k1
  have zk3 : w1.heap.size + 1 < v3.heap.size := World.block_lt_of_cell? v3 _ k3
  have zk5 : w2.heap.size < v3.heap.size := World.block_lt_of_cell? v3 _ k5
  have zk7 : w2.heap.size + 1 < v3.heap.size := World.block_lt_of_cell? v3 _ k7
  have hS : Hid (∀ w', Below v3.heap.size v3 w' → w'.cell? ⟨w1.heap.size, 0, none⟩ = some (.int .i64 a) ∧ w'.cell? ⟨w1.heap.size, 1, none⟩ = some (.int .i64 b) ∧ w'.cell? ⟨w1.heap.size + 1, 0, none⟩ = some (.int .i64 c) ∧ w'.cell? ⟨w1.heap.size + 1, 1, none⟩ = some (.int .i64 d) ∧ w'.cell? ⟨w2.heap.size, 0, none⟩ = some (.int .i64 p) ∧ w'.cell? ⟨w2.heap.size, 1, none⟩ = some (.int .i64 q) ∧ w'.cell? ⟨w2.heap.size + 1, 0, none⟩ = some (.int .i64 r) ∧ w'.cell? ⟨w2.heap.size + 1, 1, none⟩ = some (.int .i64 s) ∧ Below v3.heap.size v3 w') := Lib.hid (fun w' h => ⟨cell_call k1 h, cell_call k2 h, cell_call k3 h, cell_call k4 h, cell_call k5 h, cell_call k6 h, cell_call k7 h, cell_call k8 h, h⟩)
  have b3 : Below v3.heap.size v3 v3 := Below.refl _ _
  go_cut [9, 10] (fun s9 s10 wx => ∃ g h : Nat, s9 = .pointer (some ⟨g, 0, none⟩) ∧ s10 = .pointer (some ⟨h, 0, none⟩) ∧ wx.cell? ⟨g, 0, none⟩ = some (.int .i64 (p - c)) ∧ wx.cell? ⟨g, 1, none⟩ = some (.int .i64 (q - d)) ∧ wx.cell? ⟨h, 0, none⟩ = some (.int .i64 (a - r)) ∧ wx.cell? ⟨h, 1, none⟩ = some (.int .i64 (b - s)) ∧ Below v3.heap.size v3 wx)
  case first =>
    go_region_held3 (fun w' => w'.cell? ⟨w1.heap.size, 0, none⟩ = some (.int .i64 a) ∧ w'.cell? ⟨w1.heap.size, 1, none⟩ = some (.int .i64 b) ∧ w'.cell? ⟨w1.heap.size + 1, 0, none⟩ = some (.int .i64 c) ∧ w'.cell? ⟨w1.heap.size + 1, 1, none⟩ = some (.int .i64 d) ∧ w'.cell? ⟨w2.heap.size, 0, none⟩ = some (.int .i64 p) ∧ w'.cell? ⟨w2.heap.size, 1, none⟩ = some (.int .i64 q) ∧ w'.cell? ⟨w2.heap.size + 1, 0, none⟩ = some (.int .i64 r) ∧ w'.cell? ⟨w2.heap.size + 1, 1, none⟩ = some (.int .i64 s) ∧ Below v3.heap.size v3 w')
      ((go_split_ands; refine hS.out _ ?_; repeat (first | exact hb8 | assumption | apply Below.drew | (with_reducible refine belA ?_ _) | (with_reducible refine belS ?_ (by first | assumption | exact Nat.le_refl _ | exact Nat.le_succ _ | exact Nat.le_succ_of_le (by assumption)) _))))
      (first | (go_at_call 14; (first | (with_reducible refine (sub_in p q c d _ e1 e2).mono ?_) | (with_reducible refine (sub_in a b r s _ e3 e4).mono ?_)); rintro e w9 ⟨rfl, hb9⟩; have hb8 : Below v3.heap.size v3 w9 := belT (by go_split_ands; repeat (first | assumption | apply Below.drew | (with_reducible refine belA ?_ _))) hb9; have hz8 : v3.heap.size ≤ w9.heap.size := hb8.size; obtain ⟨hc9, hf9⟩ := bcell hb9; have hs9 := hb9.size; (try simp at hs9); (try have hs9b := Nat.lt_of_succ_le hs9); (try have hs9c := Nat.lt_of_succ_lt hs9b); (try have hs9d : v3.heap.size < w9.heap.size := by omega); (try have hs9e : v3.heap.size + 1 < w9.heap.size := by omega)))
    all_goals
      rename_i hH
      obtain ⟨_, _, _, _, _, _, _, _, bz⟩ := hH
      have fin := Lib.hid bz
      clear bz hS b3
      go_wp2_with fail
      go_meet
      refine ⟨_, _, rfl, rfl, ?_, ?_, ?_, ?_, fin.out⟩
      all_goals (first | rfl | (go_simp; done) | (go_simp; refine setc (x := .int .i64 0) ?_ _; go_simp; done))
  case rest =>
    obtain ⟨g, h, rfl, rfl, c1, c2, c3, c4, hB2⟩ := hcut
    have hB3 := belT hB hB2
    clear hB hS b3 hB2 k1 k2 k3 k4 k5 k6 k7 k8 zk1 zk3 zk5 zk7
    go_wp2_with fail
    refine (fold_int _ _ [0, p - c, q - d, a - r, b - s] _ (by simp) (irow5 _ _ _ _ _ _ _)).mono ?_; rintro e w5 ⟨rfl, rfl⟩
    go_wp2_with fail
    go_ret
    exact ⟨rfl, belA hB3 _⟩

theorem boxdist_any (ao bo : Option Addr) (ca cb : Nat) (la lb : List (Int × Int)) (w : World) (ha : la.length ≤ 1000000) (hb' : lb.length ≤ 1000000) (ra : PRow w ao la) (rb : PRow w bo lb) (ia : AllR la) (ib : AllR lb) :
    Calls Try.prog 7 #[.slice ao la.length ca, .slice bo lb.length cb] w fun e w' => e = .returned (.int .i64 (boxD la lb)) ∧ Below w.heap.size w w' := by
  by_cases h : la.length = 0 ∨ lb.length = 0
  · exact boxdist_zero ao bo ca cb la lb w ha hb' h
  · have := boxdist_some ao bo ca cb la lb w ha hb' (by omega) (by omega) ra rb _ _ _ _ _ _ _ _ (low_inr la ia).1 (low_inr la ia).2 (upp_inr la ia).1 (upp_inr la ia).2 (low_inr lb ib).1 (low_inr lb ib).2 (upp_inr lb ib).1 (upp_inr lb ib).2 (Lib.hid rfl) (Lib.hid rfl) (Lib.hid rfl) (Lib.hid rfl)
    exact this.mono fun e w' ⟨he, hb⟩ => ⟨he.trans (ret_int (by unfold boxD; rw [if_neg h])), hb⟩
end Go.Proofs.Ythmcejeeohlafaa
