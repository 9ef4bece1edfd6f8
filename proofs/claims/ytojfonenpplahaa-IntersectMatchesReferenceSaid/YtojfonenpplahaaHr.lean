/- Helpers, merged: GeoG GeoP GeoL GeoR GeoK -/
import Derived.Test.YtojfonenpplahaaHb
import Derived.LoopN
import Derived.Test.YtojfonenpplahaaHp
/- head of the statements of layer 2: the chapter's examples; it returns true in every world. -/
namespace Go.Proofs.Ytojfonenpplahaa
open Go.ChangeShapes Go.WideShapes Go.ChangeAt Go.RowKit

theorem allr_of {l : List (Int × Int)} (h : (l.all fun p => decide (-1500000000 ≤ p.1 ∧ p.1 ≤ 1500000000) && decide (-1500000000 ≤ p.2 ∧ p.2 ≤ 1500000000)) = true) : AllR l := fun i hi => by
  have := List.all_eq_true.1 h (l[i]) (List.getElem_mem hi)
  simp only [Bool.and_eq_true, decide_eq_true_eq] at this
  rw [List.getD_eq_getElem?_getD, List.getElem?_eq_getElem hi]
  exact ⟨this.1, this.2⟩
end Go.Proofs.Ytojfonenpplahaa


/- Contract of pick: four points reduced to points in range or to points near the origin. No condition. -/
namespace Go.Proofs.Ytojfonenpplahaa
open Go.ChangeShapes Go.WideShapes Go.ChangeAt Go.RowKit

end Go.Proofs.Ytojfonenpplahaa


/- What the walks of layer 2 share: pick at named points; Orientation, OnSegment, SegmentsIntersect at named results; signs of determinants. -/
namespace Go.Proofs.Ytojfonenpplahaa
open Go.ChangeShapes Go.WideShapes Go.ChangeAt Go.RowKit

def InY (x : Int) : Prop := -439400000 ≤ x ∧ x ≤ 439400000
theorem InY.inr {x : Int} (h : InY x) : InR x := by unfold InY at h; unfold InR; omega
theorem tdiv2 (x : Int) : (0 ≤ x ∧ (2 * x.tdiv 2 = x ∨ 2 * x.tdiv 2 = x - 1)) ∨ (x ≤ 0 ∧ (2 * x.tdiv 2 = x ∨ 2 * x.tdiv 2 = x + 1)) := by
  have e := Int.mul_tdiv_add_tmod x 2
  have a := Int.tmod_eq_emod (a := x) (b := 2)
  split at a <;> omega
theorem sub_is (a b c d u v : Int) (w : World) (ia : InR a) (ib : InR b) (ic : InR c) (id : InR d) (hu : Hid (a - c = u)) (hv : Hid (b - d = v)) :
    Calls Try.prog 86 #[.agg #[.int .i64 a, .int .i64 b], .agg #[.int .i64 c, .int .i64 d]] w fun e w' => e = .returned (.agg #[.int .i64 u, .int .i64 v]) ∧ Below w.heap.size w w' := by
  have := sub_in a b c d w (by unfold InR at *; omega) (by unfold InR at *; omega)
  rw [hu.out, hv.out] at this
  exact this
end Go.Proofs.Ytojfonenpplahaa


/- Contracts of the reference ambidexterref02: Cross, Side, between, On. The coordinates are bounded. -/
namespace Go.Proofs.Ytojfonenpplahaa
open Go.ChangeShapes Go.WideShapes Go.ChangeAt Go.RowKit

theorem rdif {x y : Int} (hx : InY x) (hy : InY y) : -878800000 ≤ x - y ∧ x - y ≤ 878800000 := by unfold InY at *; omega
theorem rprod {x y : Int} (hx : -878800000 ≤ x ∧ x ≤ 878800000) (hy : -878800000 ≤ y ∧ y ≤ 878800000) : -772289440000000000 ≤ x * y ∧ x * y ≤ 772289440000000000 := by
  have := mul_bd hx hy
  omega

set_option maxHeartbeats 1000000 in
theorem rcross_any (a b c d p q : Int) (w : World) (ka : InY a) (kb : InY b) (kc : InY c) (kd : InY d) (kp : InY p) (kq : InY q) :
    Calls Try.prog 111 #[.agg #[.int .i64 a, .int .i64 b], .agg #[.int .i64 c, .int .i64 d], .agg #[.int .i64 p, .int .i64 q]] w fun e w' => e = .returned (.int .i64 ((c - a) * (q - b) - (d - b) * (p - a))) ∧ Below w.heap.size w w' := by
  have d1 := rdif kc ka
  have d2 := rdif kd kb
  have d3 := rdif kp ka
  have d4 := rdif kq kb
  obtain ⟨m1, m2⟩ := rprod d1 d4
  obtain ⟨m3, m4⟩ := rprod d2 d3
  obtain ⟨d11, d12⟩ := d1
  obtain ⟨d21, d22⟩ := d2
  obtain ⟨d31, d32⟩ := d3
  obtain ⟨d41, d42⟩ := d4
  clear ka kb kc kd kp kq
  go_enter Try.func111, Try.ntmps111
  go_wp2
  go_ret
  exact ⟨rfl, belA (belA (belA (Below.refl _ _) _) _) _⟩

set_option maxHeartbeats 1000000 in
theorem rside_any (a b c d p q : Int) (w : World) (ka : InY a) (kb : InY b) (kc : InY c) (kd : InY d) (kp : InY p) (kq : InY q) :
    Calls Try.prog 71 #[.agg #[.int .i64 a, .int .i64 b], .agg #[.int .i64 c, .int .i64 d], .agg #[.int .i64 p, .int .i64 q]] w fun e w' => e = .returned (.int .i64 (ori a b c d p q)) ∧ Below w.heap.size w w' := by
  obtain ⟨n, hn⟩ : ∃ n, (c - a) * (q - b) - (d - b) * (p - a) = n := ⟨_, rfl⟩
  have C := fun w => rcross_any a b c d p q w ka kb kc kd kp kq
  rw [hn] at C
  have HC := Lib.hid C
  have E : Hid (ori a b c d p q = cmpI n 0) := Lib.hid (cmpI_same (by omega))
  clear C hn ka kb kc kd kp kq
  rcases Int.lt_trichotomy n 0 with h | h | h
  all_goals
    go_enter Try.func71, Try.ntmps71
    go_wp2_with fail
    refine (HC.out _).mono ?_; rintro e w1 ⟨rfl, hb⟩
    have hB := belT (belA (belA (belA (Below.refl w.heap.size w) _) _) _) hb
    clear hb HC
    go_wp2
    go_ret
    exact ⟨ret_int (by rw [E.out]; first | rw [cmpI_lt h] | rw [cmpI_eq h] | rw [cmpI_gt h]), hB⟩

theorem rbetween_any (a b x : Int) (w : World) :
    Calls Try.prog 128 #[.int .i64 a, .int .i64 b, .int .i64 x] w fun e w' => e = .returned (.bool (decide (mnI a b ≤ x) && decide (x ≤ mxI a b))) ∧ w = w' := by
  have m1 := run_min2 a b
  have m2 := run_max2 a b
  obtain ⟨u, hu⟩ : ∃ u, mnI a b = u := ⟨_, rfl⟩
  obtain ⟨v, hv⟩ : ∃ v, mxI a b = v := ⟨_, rfl⟩
  rw [hu] at m1 ⊢
  rw [hv] at m2 ⊢
  clear hu hv
  go_enter Try.func128, Try.ntmps128
  go_wp2
  all_goals
    go_ret
    exact ⟨ret_bool (by simp [*]; try (intros; omega)), rfl⟩

set_option maxHeartbeats 1000000 in
theorem ron_any (a b c d p q : Int) (w : World) (ka : InY a) (kb : InY b) (kc : InY c) (kd : InY d) (kp : InY p) (kq : InY q) :
    Calls Try.prog 109 #[.agg #[.int .i64 a, .int .i64 b], .agg #[.int .i64 c, .int .i64 d], .agg #[.int .i64 p, .int .i64 q]] w fun e w' => e = .returned (.bool (onB a b c d p q)) ∧ Below w.heap.size w w' := by
  obtain ⟨n, hn⟩ : ∃ n, ori a b c d p q = n := ⟨_, rfl⟩
  have C := fun w => rside_any a b c d p q w ka kb kc kd kp kq
  have B1 := fun w => rbetween_any a c p w
  have B2 := fun w => rbetween_any b d q w
  obtain ⟨x, hx⟩ : ∃ x, (decide (mnI a c ≤ p) && decide (p ≤ mxI a c)) = x := ⟨_, rfl⟩
  obtain ⟨y, hy⟩ : ∃ y, (decide (mnI b d ≤ q) && decide (q ≤ mxI b d)) = y := ⟨_, rfl⟩
  rw [hn] at C
  rw [hx] at B1
  rw [hy] at B2
  have E : Hid (onB a b c d p q = ((n == 0) && x && y)) := Lib.hid (by
    unfold onB
    rw [hn, ← hx, ← hy]
    cases decide (mnI a c ≤ p) <;> cases decide (p ≤ mxI a c) <;> cases decide (mnI b d ≤ q) <;> cases decide (q ≤ mxI b d) <;> cases (n == 0) <;> rfl)
  have HC := Lib.hid C
  have H1 := Lib.hid B1
  have H2 := Lib.hid B2
  clear C B1 B2 hn hx hy ka kb kc kd kp kq
  by_cases h0 : n = 0
  · subst h0
    cases x
    · have hB : Below w.heap.size w w := Below.refl _ _
      go_enter Try.func109, Try.ntmps109
      go_wp2_with fail
      refine (HC.out _).mono ?_; rintro e w1 ⟨rfl, hb⟩
      have k1 : w1.cell? ⟨w.heap.size, 0, none⟩ = some (.int .i64 a) := cell_call (cell_alloc (cell_alloc (cbx w #[.int .i64 a, .int .i64 b] 47 (w.heap.size) 0 (.int .i64 a) (by simp) rfl) _) _) hb
      have k2 : w1.cell? ⟨w.heap.size, 1, none⟩ = some (.int .i64 b) := cell_call (cell_alloc (cell_alloc (cbx w #[.int .i64 a, .int .i64 b] 47 (w.heap.size) 1 (.int .i64 b) (by simp) rfl) _) _) hb
      have k3 : w1.cell? ⟨w.heap.size + 1, 0, none⟩ = some (.int .i64 c) := cell_call (cell_alloc (cbx (w.alloc (.cells #[.int .i64 a, .int .i64 b] 47)) #[.int .i64 c, .int .i64 d] 47 (w.heap.size + 1) 0 (.int .i64 c) (by simp) rfl) _) hb
      have k4 : w1.cell? ⟨w.heap.size + 1, 1, none⟩ = some (.int .i64 d) := cell_call (cell_alloc (cbx (w.alloc (.cells #[.int .i64 a, .int .i64 b] 47)) #[.int .i64 c, .int .i64 d] 47 (w.heap.size + 1) 1 (.int .i64 d) (by simp) rfl) _) hb
      have k5 : w1.cell? ⟨w.heap.size + 1 + 1, 0, none⟩ = some (.int .i64 p) := cell_call (cbx ((w.alloc (.cells #[.int .i64 a, .int .i64 b] 47)).alloc (.cells #[.int .i64 c, .int .i64 d] 47)) #[.int .i64 p, .int .i64 q] 47 (w.heap.size + 1 + 1) 0 (.int .i64 p) (by simp) rfl) hb
      have k6 : w1.cell? ⟨w.heap.size + 1 + 1, 1, none⟩ = some (.int .i64 q) := cell_call (cbx ((w.alloc (.cells #[.int .i64 a, .int .i64 b] 47)).alloc (.cells #[.int .i64 c, .int .i64 d] 47)) #[.int .i64 p, .int .i64 q] 47 (w.heap.size + 1 + 1) 1 (.int .i64 q) (by simp) rfl) hb
      replace hB := belT (belA (belA (belA hB _) _) _) hb
      clear hb
      have zk1 : w.heap.size < w1.heap.size := World.block_lt_of_cell? w1 _ k1
      have zk3 : w.heap.size + 1 < w1.heap.size := World.block_lt_of_cell? w1 _ k3
      have zk5 : w.heap.size + 1 + 1 < w1.heap.size := World.block_lt_of_cell? w1 _ k5
      go_wp2_with fail
      refine (H1.out _).mono ?_; rintro e w' ⟨rfl, rfl⟩
      go_wp2_with fail
      go_ret
      exact ⟨ret_bool (by rw [E.out]; simp [*]), hB⟩
    · cases y
      · have hB : Below w.heap.size w w := Below.refl _ _
        go_enter Try.func109, Try.ntmps109
        go_wp2_with fail
        refine (HC.out _).mono ?_; rintro e w1 ⟨rfl, hb⟩
        have k1 : w1.cell? ⟨w.heap.size, 0, none⟩ = some (.int .i64 a) := cell_call (cell_alloc (cell_alloc (cbx w #[.int .i64 a, .int .i64 b] 47 (w.heap.size) 0 (.int .i64 a) (by simp) rfl) _) _) hb
        have k2 : w1.cell? ⟨w.heap.size, 1, none⟩ = some (.int .i64 b) := cell_call (cell_alloc (cell_alloc (cbx w #[.int .i64 a, .int .i64 b] 47 (w.heap.size) 1 (.int .i64 b) (by simp) rfl) _) _) hb
        have k3 : w1.cell? ⟨w.heap.size + 1, 0, none⟩ = some (.int .i64 c) := cell_call (cell_alloc (cbx (w.alloc (.cells #[.int .i64 a, .int .i64 b] 47)) #[.int .i64 c, .int .i64 d] 47 (w.heap.size + 1) 0 (.int .i64 c) (by simp) rfl) _) hb
        have k4 : w1.cell? ⟨w.heap.size + 1, 1, none⟩ = some (.int .i64 d) := cell_call (cell_alloc (cbx (w.alloc (.cells #[.int .i64 a, .int .i64 b] 47)) #[.int .i64 c, .int .i64 d] 47 (w.heap.size + 1) 1 (.int .i64 d) (by simp) rfl) _) hb
        have k5 : w1.cell? ⟨w.heap.size + 1 + 1, 0, none⟩ = some (.int .i64 p) := cell_call (cbx ((w.alloc (.cells #[.int .i64 a, .int .i64 b] 47)).alloc (.cells #[.int .i64 c, .int .i64 d] 47)) #[.int .i64 p, .int .i64 q] 47 (w.heap.size + 1 + 1) 0 (.int .i64 p) (by simp) rfl) hb
        have k6 : w1.cell? ⟨w.heap.size + 1 + 1, 1, none⟩ = some (.int .i64 q) := cell_call (cbx ((w.alloc (.cells #[.int .i64 a, .int .i64 b] 47)).alloc (.cells #[.int .i64 c, .int .i64 d] 47)) #[.int .i64 p, .int .i64 q] 47 (w.heap.size + 1 + 1) 1 (.int .i64 q) (by simp) rfl) hb
        replace hB := belT (belA (belA (belA hB _) _) _) hb
        clear hb
        have zk1 : w.heap.size < w1.heap.size := World.block_lt_of_cell? w1 _ k1
        have zk3 : w.heap.size + 1 < w1.heap.size := World.block_lt_of_cell? w1 _ k3
        have zk5 : w.heap.size + 1 + 1 < w1.heap.size := World.block_lt_of_cell? w1 _ k5
        go_wp2_with fail
        refine (H1.out _).mono ?_; rintro e w' ⟨rfl, rfl⟩
        go_wp2_with fail
        refine (H2.out _).mono ?_; rintro e w' ⟨rfl, rfl⟩
        go_wp2_with fail
        go_ret
        exact ⟨ret_bool (by rw [E.out]; simp [*]), hB⟩
      · have hB : Below w.heap.size w w := Below.refl _ _
        go_enter Try.func109, Try.ntmps109
        go_wp2_with fail
        refine (HC.out _).mono ?_; rintro e w1 ⟨rfl, hb⟩
        have k1 : w1.cell? ⟨w.heap.size, 0, none⟩ = some (.int .i64 a) := cell_call (cell_alloc (cell_alloc (cbx w #[.int .i64 a, .int .i64 b] 47 (w.heap.size) 0 (.int .i64 a) (by simp) rfl) _) _) hb
        have k2 : w1.cell? ⟨w.heap.size, 1, none⟩ = some (.int .i64 b) := cell_call (cell_alloc (cell_alloc (cbx w #[.int .i64 a, .int .i64 b] 47 (w.heap.size) 1 (.int .i64 b) (by simp) rfl) _) _) hb
        have k3 : w1.cell? ⟨w.heap.size + 1, 0, none⟩ = some (.int .i64 c) := cell_call (cell_alloc (cbx (w.alloc (.cells #[.int .i64 a, .int .i64 b] 47)) #[.int .i64 c, .int .i64 d] 47 (w.heap.size + 1) 0 (.int .i64 c) (by simp) rfl) _) hb
        have k4 : w1.cell? ⟨w.heap.size + 1, 1, none⟩ = some (.int .i64 d) := cell_call (cell_alloc (cbx (w.alloc (.cells #[.int .i64 a, .int .i64 b] 47)) #[.int .i64 c, .int .i64 d] 47 (w.heap.size + 1) 1 (.int .i64 d) (by simp) rfl) _) hb
        have k5 : w1.cell? ⟨w.heap.size + 1 + 1, 0, none⟩ = some (.int .i64 p) := cell_call (cbx ((w.alloc (.cells #[.int .i64 a, .int .i64 b] 47)).alloc (.cells #[.int .i64 c, .int .i64 d] 47)) #[.int .i64 p, .int .i64 q] 47 (w.heap.size + 1 + 1) 0 (.int .i64 p) (by simp) rfl) hb
        have k6 : w1.cell? ⟨w.heap.size + 1 + 1, 1, none⟩ = some (.int .i64 q) := cell_call (cbx ((w.alloc (.cells #[.int .i64 a, .int .i64 b] 47)).alloc (.cells #[.int .i64 c, .int .i64 d] 47)) #[.int .i64 p, .int .i64 q] 47 (w.heap.size + 1 + 1) 1 (.int .i64 q) (by simp) rfl) hb
        replace hB := belT (belA (belA (belA hB _) _) _) hb
        clear hb
        have zk1 : w.heap.size < w1.heap.size := World.block_lt_of_cell? w1 _ k1
        have zk3 : w.heap.size + 1 < w1.heap.size := World.block_lt_of_cell? w1 _ k3
        have zk5 : w.heap.size + 1 + 1 < w1.heap.size := World.block_lt_of_cell? w1 _ k5
        go_wp2_with fail
        refine (H1.out _).mono ?_; rintro e w' ⟨rfl, rfl⟩
        go_wp2_with fail
        refine (H2.out _).mono ?_; rintro e w' ⟨rfl, rfl⟩
        go_wp2_with fail
        go_ret
        exact ⟨ret_bool (by rw [E.out]; simp [*]), hB⟩
  · have hB : Below w.heap.size w w := Below.refl _ _
    go_enter Try.func109, Try.ntmps109
    go_wp2_with fail
    refine (HC.out _).mono ?_; rintro e w1 ⟨rfl, hb⟩
    have k1 : w1.cell? ⟨w.heap.size, 0, none⟩ = some (.int .i64 a) := cell_call (cell_alloc (cell_alloc (cbx w #[.int .i64 a, .int .i64 b] 47 (w.heap.size) 0 (.int .i64 a) (by simp) rfl) _) _) hb
    have k2 : w1.cell? ⟨w.heap.size, 1, none⟩ = some (.int .i64 b) := cell_call (cell_alloc (cell_alloc (cbx w #[.int .i64 a, .int .i64 b] 47 (w.heap.size) 1 (.int .i64 b) (by simp) rfl) _) _) hb
    have k3 : w1.cell? ⟨w.heap.size + 1, 0, none⟩ = some (.int .i64 c) := cell_call (cell_alloc (cbx (w.alloc (.cells #[.int .i64 a, .int .i64 b] 47)) #[.int .i64 c, .int .i64 d] 47 (w.heap.size + 1) 0 (.int .i64 c) (by simp) rfl) _) hb
    have k4 : w1.cell? ⟨w.heap.size + 1, 1, none⟩ = some (.int .i64 d) := cell_call (cell_alloc (cbx (w.alloc (.cells #[.int .i64 a, .int .i64 b] 47)) #[.int .i64 c, .int .i64 d] 47 (w.heap.size + 1) 1 (.int .i64 d) (by simp) rfl) _) hb
    have k5 : w1.cell? ⟨w.heap.size + 1 + 1, 0, none⟩ = some (.int .i64 p) := cell_call (cbx ((w.alloc (.cells #[.int .i64 a, .int .i64 b] 47)).alloc (.cells #[.int .i64 c, .int .i64 d] 47)) #[.int .i64 p, .int .i64 q] 47 (w.heap.size + 1 + 1) 0 (.int .i64 p) (by simp) rfl) hb
    have k6 : w1.cell? ⟨w.heap.size + 1 + 1, 1, none⟩ = some (.int .i64 q) := cell_call (cbx ((w.alloc (.cells #[.int .i64 a, .int .i64 b] 47)).alloc (.cells #[.int .i64 c, .int .i64 d] 47)) #[.int .i64 p, .int .i64 q] 47 (w.heap.size + 1 + 1) 1 (.int .i64 q) (by simp) rfl) hb
    replace hB := belT (belA (belA (belA hB _) _) _) hb
    clear hb
    have zk1 : w.heap.size < w1.heap.size := World.block_lt_of_cell? w1 _ k1
    have zk3 : w.heap.size + 1 < w1.heap.size := World.block_lt_of_cell? w1 _ k3
    have zk5 : w.heap.size + 1 + 1 < w1.heap.size := World.block_lt_of_cell? w1 _ k5
    go_wp2_with fail
    go_ret
    exact ⟨ret_bool (by rw [E.out]; simp [*]), hB⟩
end Go.Proofs.Ytojfonenpplahaa


/- Contract of the reference ambidexterref02: Cut. The coordinates are bounded. -/
namespace Go.Proofs.Ytojfonenpplahaa
open Go.ChangeShapes Go.WideShapes Go.ChangeAt Go.RowKit

theorem ron_is (a b c d p q : Int) (v : Bool) (w : World) (ka : InY a) (kb : InY b) (kc : InY c) (kd : InY d) (kp : InY p) (kq : InY q) (h : Hid (onB a b c d p q = v)) :
    Calls Try.prog 109 #[.agg #[.int .i64 a, .int .i64 b], .agg #[.int .i64 c, .int .i64 d], .agg #[.int .i64 p, .int .i64 q]] w fun e w' => e = .returned (.bool v) ∧ Below w.heap.size w w' := by
  have := ron_any a b c d p q w ka kb kc kd kp kq
  rw [h.out] at this
  exact this
theorem rside_is (a b c d p q v : Int) (w : World) (ka : InY a) (kb : InY b) (kc : InY c) (kd : InY d) (kp : InY p) (kq : InY q) (h : Hid (ori a b c d p q = v)) :
    Calls Try.prog 71 #[.agg #[.int .i64 a, .int .i64 b], .agg #[.int .i64 c, .int .i64 d], .agg #[.int .i64 p, .int .i64 q]] w fun e w' => e = .returned (.int .i64 v) ∧ Below w.heap.size w w' := by
  have := rside_any a b c d p q w ka kb kc kd kp kq
  rw [h.out] at this
  exact this

set_option maxRecDepth 100000 in
set_option maxHeartbeats 4000000 in
theorem rcut_any (a b c d p q r s : Int) (w : World) (ka : InY a) (kb : InY b) (kc : InY c) (kd : InY d) (kp : InY p) (kq : InY q) (kr : InY r) (ks : InY s) :
    Calls Try.prog 68 #[.agg #[.int .i64 a, .int .i64 b], .agg #[.int .i64 c, .int .i64 d], .agg #[.int .i64 p, .int .i64 q], .agg #[.int .i64 r, .int .i64 s]] w fun e w' => e = .returned (.bool (segB a b c d p q r s)) ∧ Below w.heap.size w w' := by
  obtain ⟨e1, h1⟩ : ∃ x, onB a b c d p q = x := ⟨_, rfl⟩
  obtain ⟨e2, h2⟩ : ∃ x, onB a b c d r s = x := ⟨_, rfl⟩
  obtain ⟨e3, h3⟩ : ∃ x, onB p q r s a b = x := ⟨_, rfl⟩
  obtain ⟨e4, h4⟩ : ∃ x, onB p q r s c d = x := ⟨_, rfl⟩
  obtain ⟨o1, g1⟩ : ∃ x, ori a b c d p q = x := ⟨_, rfl⟩
  obtain ⟨o2, g2⟩ : ∃ x, ori a b c d r s = x := ⟨_, rfl⟩
  obtain ⟨o3, g3⟩ : ∃ x, ori p q r s a b = x := ⟨_, rfl⟩
  obtain ⟨o4, g4⟩ : ∃ x, ori p q r s c d = x := ⟨_, rfl⟩
  have b1 : -1 ≤ o1 ∧ o1 ≤ 1 := by rw [← g1]; exact cmpI_bd _ _
  have b2 : -1 ≤ o2 ∧ o2 ≤ 1 := by rw [← g2]; exact cmpI_bd _ _
  have b3 : -1 ≤ o3 ∧ o3 ≤ 1 := by rw [← g3]; exact cmpI_bd _ _
  have b4 : -1 ≤ o4 ∧ o4 ≤ 1 := by rw [← g4]; exact cmpI_bd _ _
  obtain ⟨m, hm⟩ : ∃ x, o1 * o2 = x := ⟨_, rfl⟩
  obtain ⟨n, hn⟩ : ∃ x, o3 * o4 = x := ⟨_, rfl⟩
  have M1 : IntKind.i64.wrap (o1 * o2) = m := by rw [← hm]; have := mul_bd b1 b2; exact IntWalk.i64_in _ (by omega)
  have M2 : IntKind.i64.wrap (o3 * o4) = n := by rw [← hn]; have := mul_bd b3 b4; exact IntWalk.i64_in _ (by omega)
  have E : Hid (segB a b c d p q r s = ((e1 || e2) || (e3 || e4) || (decide (m < 0) && decide (n < 0)))) := Lib.hid (by unfold segB oppB; rw [h1, h2, h3, h4, g1, g2, g3, g4, hm, hn])
  have H1 := Lib.hid h1
  have H2 := Lib.hid h2
  have H3 := Lib.hid h3
  have H4 := Lib.hid h4
  have G1 := Lib.hid g1
  have G2 := Lib.hid g2
  have G3 := Lib.hid g3
  have G4 := Lib.hid g4
  clear h1 h2 h3 h4 g1 g2 g3 g4 hm hn b1 b2 b3 b4
  cases e1
  · cases e2
    · cases e3
      · cases e4
        · by_cases x1 : m < 0
          · by_cases x2 : n < 0
            · have hB : Below w.heap.size w w := Below.refl _ _
              go_enter Try.func68, Try.ntmps68
              go_wp2_with fail
              refine (ron_is a b c d p q false _ ka kb kc kd kp kq H1).mono ?_; rintro e w1 ⟨rfl, hb⟩
              have k1 : w1.cell? ⟨w.heap.size, 0, none⟩ = some (.int .i64 a) := cell_call (cell_alloc (cell_alloc (cell_alloc (cbx w #[.int .i64 a, .int .i64 b] 47 (w.heap.size) 0 (.int .i64 a) (by simp) rfl) _) _) _) hb
              have k2 : w1.cell? ⟨w.heap.size, 1, none⟩ = some (.int .i64 b) := cell_call (cell_alloc (cell_alloc (cell_alloc (cbx w #[.int .i64 a, .int .i64 b] 47 (w.heap.size) 1 (.int .i64 b) (by simp) rfl) _) _) _) hb
              have k3 : w1.cell? ⟨w.heap.size + 1, 0, none⟩ = some (.int .i64 c) := cell_call (cell_alloc (cell_alloc (cbx (w.alloc (.cells #[.int .i64 a, .int .i64 b] 47)) #[.int .i64 c, .int .i64 d] 47 (w.heap.size + 1) 0 (.int .i64 c) (by simp) rfl) _) _) hb
              have k4 : w1.cell? ⟨w.heap.size + 1, 1, none⟩ = some (.int .i64 d) := cell_call (cell_alloc (cell_alloc (cbx (w.alloc (.cells #[.int .i64 a, .int .i64 b] 47)) #[.int .i64 c, .int .i64 d] 47 (w.heap.size + 1) 1 (.int .i64 d) (by simp) rfl) _) _) hb
              have k5 : w1.cell? ⟨w.heap.size + 1 + 1, 0, none⟩ = some (.int .i64 p) := cell_call (cell_alloc (cbx ((w.alloc (.cells #[.int .i64 a, .int .i64 b] 47)).alloc (.cells #[.int .i64 c, .int .i64 d] 47)) #[.int .i64 p, .int .i64 q] 47 (w.heap.size + 1 + 1) 0 (.int .i64 p) (by simp) rfl) _) hb
              have k6 : w1.cell? ⟨w.heap.size + 1 + 1, 1, none⟩ = some (.int .i64 q) := cell_call (cell_alloc (cbx ((w.alloc (.cells #[.int .i64 a, .int .i64 b] 47)).alloc (.cells #[.int .i64 c, .int .i64 d] 47)) #[.int .i64 p, .int .i64 q] 47 (w.heap.size + 1 + 1) 1 (.int .i64 q) (by simp) rfl) _) hb
              have k7 : w1.cell? ⟨w.heap.size + 1 + 1 + 1, 0, none⟩ = some (.int .i64 r) := cell_call (cbx (((w.alloc (.cells #[.int .i64 a, .int .i64 b] 47)).alloc (.cells #[.int .i64 c, .int .i64 d] 47)).alloc (.cells #[.int .i64 p, .int .i64 q] 47)) #[.int .i64 r, .int .i64 s] 47 (w.heap.size + 1 + 1 + 1) 0 (.int .i64 r) (by simp) rfl) hb
              have k8 : w1.cell? ⟨w.heap.size + 1 + 1 + 1, 1, none⟩ = some (.int .i64 s) := cell_call (cbx (((w.alloc (.cells #[.int .i64 a, .int .i64 b] 47)).alloc (.cells #[.int .i64 c, .int .i64 d] 47)).alloc (.cells #[.int .i64 p, .int .i64 q] 47)) #[.int .i64 r, .int .i64 s] 47 (w.heap.size + 1 + 1 + 1) 1 (.int .i64 s) (by simp) rfl) hb
              replace hB := belT (belA (belA (belA (belA hB _) _) _) _) hb
              clear hb
              have zk1 : w.heap.size < w1.heap.size := World.block_lt_of_cell? w1 _ k1
              have zk3 : w.heap.size + 1 < w1.heap.size := World.block_lt_of_cell? w1 _ k3
              have zk5 : w.heap.size + 1 + 1 < w1.heap.size := World.block_lt_of_cell? w1 _ k5
              have zk7 : w.heap.size + 1 + 1 + 1 < w1.heap.size := World.block_lt_of_cell? w1 _ k7
              go_wp2_with fail
              refine (ron_is a b c d r s false _ ka kb kc kd kr ks H2).mono ?_; rintro e w2 ⟨rfl, hb⟩
              replace k1 : w2.cell? ⟨w.heap.size, 0, none⟩ = some (.int .i64 a) := cell_call k1 hb
              replace k2 : w2.cell? ⟨w.heap.size, 1, none⟩ = some (.int .i64 b) := cell_call k2 hb
              replace k3 : w2.cell? ⟨w.heap.size + 1, 0, none⟩ = some (.int .i64 c) := cell_call k3 hb
              replace k4 : w2.cell? ⟨w.heap.size + 1, 1, none⟩ = some (.int .i64 d) := cell_call k4 hb
              replace k5 : w2.cell? ⟨w.heap.size + 1 + 1, 0, none⟩ = some (.int .i64 p) := cell_call k5 hb
              replace k6 : w2.cell? ⟨w.heap.size + 1 + 1, 1, none⟩ = some (.int .i64 q) := cell_call k6 hb
              replace k7 : w2.cell? ⟨w.heap.size + 1 + 1 + 1, 0, none⟩ = some (.int .i64 r) := cell_call k7 hb
              replace k8 : w2.cell? ⟨w.heap.size + 1 + 1 + 1, 1, none⟩ = some (.int .i64 s) := cell_call k8 hb
              replace hB := belT hB hb
              clear hb
              replace zk1 : w.heap.size < w2.heap.size := World.block_lt_of_cell? w2 _ k1
              replace zk3 : w.heap.size + 1 < w2.heap.size := World.block_lt_of_cell? w2 _ k3
              replace zk5 : w.heap.size + 1 + 1 < w2.heap.size := World.block_lt_of_cell? w2 _ k5
              replace zk7 : w.heap.size + 1 + 1 + 1 < w2.heap.size := World.block_lt_of_cell? w2 _ k7
              go_wp2_with fail
              refine (ron_is p q r s a b false _ kp kq kr ks ka kb H3).mono ?_; rintro e w3 ⟨rfl, hb⟩
              replace k1 : w3.cell? ⟨w.heap.size, 0, none⟩ = some (.int .i64 a) := cell_call k1 hb
              replace k2 : w3.cell? ⟨w.heap.size, 1, none⟩ = some (.int .i64 b) := cell_call k2 hb
              replace k3 : w3.cell? ⟨w.heap.size + 1, 0, none⟩ = some (.int .i64 c) := cell_call k3 hb
              replace k4 : w3.cell? ⟨w.heap.size + 1, 1, none⟩ = some (.int .i64 d) := cell_call k4 hb
              replace k5 : w3.cell? ⟨w.heap.size + 1 + 1, 0, none⟩ = some (.int .i64 p) := cell_call k5 hb
              replace k6 : w3.cell? ⟨w.heap.size + 1 + 1, 1, none⟩ = some (.int .i64 q) := cell_call k6 hb
              replace k7 : w3.cell? ⟨w.heap.size + 1 + 1 + 1, 0, none⟩ = some (.int .i64 r) := cell_call k7 hb
              replace k8 : w3.cell? ⟨w.heap.size + 1 + 1 + 1, 1, none⟩ = some (.int .i64 s) := cell_call k8 hb
              replace hB := belT hB hb
              clear hb
              replace zk1 : w.heap.size < w3.heap.size := World.block_lt_of_cell? w3 _ k1
              replace zk3 : w.heap.size + 1 < w3.heap.size := World.block_lt_of_cell? w3 _ k3
              replace zk5 : w.heap.size + 1 + 1 < w3.heap.size := World.block_lt_of_cell? w3 _ k5
              replace zk7 : w.heap.size + 1 + 1 + 1 < w3.heap.size := World.block_lt_of_cell? w3 _ k7
              go_wp2_with fail
              refine (ron_is p q r s c d false _ kp kq kr ks kc kd H4).mono ?_; rintro e w4 ⟨rfl, hb⟩
              replace k1 : w4.cell? ⟨w.heap.size, 0, none⟩ = some (.int .i64 a) := cell_call k1 hb
              replace k2 : w4.cell? ⟨w.heap.size, 1, none⟩ = some (.int .i64 b) := cell_call k2 hb
              replace k3 : w4.cell? ⟨w.heap.size + 1, 0, none⟩ = some (.int .i64 c) := cell_call k3 hb
              replace k4 : w4.cell? ⟨w.heap.size + 1, 1, none⟩ = some (.int .i64 d) := cell_call k4 hb
              replace k5 : w4.cell? ⟨w.heap.size + 1 + 1, 0, none⟩ = some (.int .i64 p) := cell_call k5 hb
              replace k6 : w4.cell? ⟨w.heap.size + 1 + 1, 1, none⟩ = some (.int .i64 q) := cell_call k6 hb
              replace k7 : w4.cell? ⟨w.heap.size + 1 + 1 + 1, 0, none⟩ = some (.int .i64 r) := cell_call k7 hb
              replace k8 : w4.cell? ⟨w.heap.size + 1 + 1 + 1, 1, none⟩ = some (.int .i64 s) := cell_call k8 hb
              replace hB := belT hB hb
              clear hb
              replace zk1 : w.heap.size < w4.heap.size := World.block_lt_of_cell? w4 _ k1
              replace zk3 : w.heap.size + 1 < w4.heap.size := World.block_lt_of_cell? w4 _ k3
              replace zk5 : w.heap.size + 1 + 1 < w4.heap.size := World.block_lt_of_cell? w4 _ k5
              replace zk7 : w.heap.size + 1 + 1 + 1 < w4.heap.size := World.block_lt_of_cell? w4 _ k7
              go_wp2_with fail
              replace k1 : w4.cell? ⟨w.heap.size, 0, none⟩ = some (.int .i64 a) := k1
              replace k2 : w4.cell? ⟨w.heap.size, 1, none⟩ = some (.int .i64 b) := k2
              replace k3 : w4.cell? ⟨w.heap.size + 1, 0, none⟩ = some (.int .i64 c) := k3
              replace k4 : w4.cell? ⟨w.heap.size + 1, 1, none⟩ = some (.int .i64 d) := k4
              replace k5 : w4.cell? ⟨w.heap.size + 1 + 1, 0, none⟩ = some (.int .i64 p) := k5
              replace k6 : w4.cell? ⟨w.heap.size + 1 + 1, 1, none⟩ = some (.int .i64 q) := k6
              replace k7 : w4.cell? ⟨w.heap.size + 1 + 1 + 1, 0, none⟩ = some (.int .i64 r) := k7
              replace k8 : w4.cell? ⟨w.heap.size + 1 + 1 + 1, 1, none⟩ = some (.int .i64 s) := k8
              replace hB : Below w.heap.size w w4 := hB
              have zk1 : w.heap.size < w4.heap.size := World.block_lt_of_cell? w4 _ k1
              have zk3 : w.heap.size + 1 < w4.heap.size := World.block_lt_of_cell? w4 _ k3
              have zk5 : w.heap.size + 1 + 1 < w4.heap.size := World.block_lt_of_cell? w4 _ k5
              have zk7 : w.heap.size + 1 + 1 + 1 < w4.heap.size := World.block_lt_of_cell? w4 _ k7
              obtain ⟨sp, hsp⟩ : ∃ sp : Told, sp = [none, none, none, none, none, none, none, none, some (.inl (.bool true)), none, none, none, none, none, none, none, none, none, none, none, none, none, none, none, none, none, none, none, none, none, none, some (.inl (.agg #[.int .i64 a, .int .i64 b])), some (.inl (.agg #[.int .i64 c, .int .i64 d])), some (.inl (.agg #[.int .i64 p, .int .i64 q])), some (.inl (.int .i64 o1)), some (.inl (.agg #[.int .i64 a, .int .i64 b])), some (.inl (.agg #[.int .i64 c, .int .i64 d])), some (.inl (.agg #[.int .i64 r, .int .i64 s])), some (.inl (.int .i64 o2)), some (.inl (.int .i64 m)), some (.inl (.bool true)), some (.inl (.bool true)), some (.inl (.agg #[.int .i64 p, .int .i64 q])), some (.inl (.agg #[.int .i64 r, .int .i64 s])), some (.inl (.agg #[.int .i64 a, .int .i64 b])), some (.inl (.int .i64 o3)), some (.inl (.agg #[.int .i64 p, .int .i64 q])), some (.inl (.agg #[.int .i64 r, .int .i64 s])), some (.inl (.agg #[.int .i64 c, .int .i64 d])), some (.inl (.int .i64 o4)), some (.inl (.int .i64 n)), some (.inl (.bool true)), some (.inl (.bool true))] := ⟨_, rfl⟩
              have s8 : sp.getD 8 none = some (.inl (.bool true)) := by rw [hsp]; rfl
              have s31 : sp.getD 31 none = some (.inl (.agg #[.int .i64 a, .int .i64 b])) := by rw [hsp]; rfl
              have s32 : sp.getD 32 none = some (.inl (.agg #[.int .i64 c, .int .i64 d])) := by rw [hsp]; rfl
              have s33 : sp.getD 33 none = some (.inl (.agg #[.int .i64 p, .int .i64 q])) := by rw [hsp]; rfl
              have s34 : sp.getD 34 none = some (.inl (.int .i64 o1)) := by rw [hsp]; rfl
              have s35 : sp.getD 35 none = some (.inl (.agg #[.int .i64 a, .int .i64 b])) := by rw [hsp]; rfl
              have s36 : sp.getD 36 none = some (.inl (.agg #[.int .i64 c, .int .i64 d])) := by rw [hsp]; rfl
              have s37 : sp.getD 37 none = some (.inl (.agg #[.int .i64 r, .int .i64 s])) := by rw [hsp]; rfl
              have s38 : sp.getD 38 none = some (.inl (.int .i64 o2)) := by rw [hsp]; rfl
              have s39 : sp.getD 39 none = some (.inl (.int .i64 m)) := by rw [hsp]; rfl
              have s40 : sp.getD 40 none = some (.inl (.bool true)) := by rw [hsp]; rfl
              have s41 : sp.getD 41 none = some (.inl (.bool true)) := by rw [hsp]; rfl
              have s42 : sp.getD 42 none = some (.inl (.agg #[.int .i64 p, .int .i64 q])) := by rw [hsp]; rfl
              have s43 : sp.getD 43 none = some (.inl (.agg #[.int .i64 r, .int .i64 s])) := by rw [hsp]; rfl
              have s44 : sp.getD 44 none = some (.inl (.agg #[.int .i64 a, .int .i64 b])) := by rw [hsp]; rfl
              have s45 : sp.getD 45 none = some (.inl (.int .i64 o3)) := by rw [hsp]; rfl
              have s46 : sp.getD 46 none = some (.inl (.agg #[.int .i64 p, .int .i64 q])) := by rw [hsp]; rfl
              have s47 : sp.getD 47 none = some (.inl (.agg #[.int .i64 r, .int .i64 s])) := by rw [hsp]; rfl
              have s48 : sp.getD 48 none = some (.inl (.agg #[.int .i64 c, .int .i64 d])) := by rw [hsp]; rfl
              have s49 : sp.getD 49 none = some (.inl (.int .i64 o4)) := by rw [hsp]; rfl
              have s50 : sp.getD 50 none = some (.inl (.int .i64 n)) := by rw [hsp]; rfl
              have s51 : sp.getD 51 none = some (.inl (.bool true)) := by rw [hsp]; rfl
              have s52 : sp.getD 52 none = some (.inl (.bool true)) := by rw [hsp]; rfl
              clear hsp
              refine region_obs sp (by kernel_rfl) (by kernel_rfl) ?_ ?_
              · rw [List.toList_toArray]
                refine obs_cons ?_ ?_
                · intro T wx K hB hF hD hK
                  have g4 : T[4]? = some (.pointer (some ⟨w.heap.size, 0, none⟩)) := hF 4 (free_of (by kernel_rfl))
                  refine ob_yes (wanted_none rfl) ?_
                  clear hF hD
                  have c0 := cell_call k1 hB
                  have c1 := cell_call k2 hB
                  go_simp
                  exact hK _ _ (Below.refl _ _) (rt_eq s31)
                refine obs_cons ?_ ?_
                · intro T wx K hB hF hD hK
                  have g5 : T[5]? = some (.pointer (some ⟨w.heap.size + 1, 0, none⟩)) := hF 5 (free_of (by kernel_rfl))
                  refine ob_yes (wanted_none rfl) ?_
                  clear hF hD
                  have c0 := cell_call k3 hB
                  have c1 := cell_call k4 hB
                  go_simp
                  exact hK _ _ (Below.refl _ _) (rt_eq s32)
                refine obs_cons ?_ ?_
                · intro T wx K hB hF hD hK
                  have g6 : T[6]? = some (.pointer (some ⟨w.heap.size + 1 + 1, 0, none⟩)) := hF 6 (free_of (by kernel_rfl))
                  refine ob_yes (wanted_none rfl) ?_
                  clear hF hD
                  have c0 := cell_call k5 hB
                  have c1 := cell_call k6 hB
                  go_simp
                  exact hK _ _ (Below.refl _ _) (rt_eq s33)
                refine obs_cons ?_ ?_
                · intro T wx K hB hF hD hK
                  have g31 := get_eq (hD 0 31 (by simp [Region.binds]) (by kernel_rfl)) s31
                  have g32 := get_eq (hD 1 32 (by simp [Region.binds]) (by kernel_rfl)) s32
                  have g33 := get_eq (hD 2 33 (by simp [Region.binds]) (by kernel_rfl)) s33
                  refine ob_yes (wanted_none rfl) ?_
                  clear hF hD
                  go_simp
                  refine (rside_is a b c d p q o1 _ ka kb kc kd kp kq G1).mono ?_; rintro e w9 ⟨rfl, hb⟩
                  exact hK _ _ hb (rt_eq s34)
                refine obs_cons ?_ ?_
                · intro T wx K hB hF hD hK
                  have g4 : T[4]? = some (.pointer (some ⟨w.heap.size, 0, none⟩)) := hF 4 (free_of (by kernel_rfl))
                  refine ob_yes (wanted_none rfl) ?_
                  clear hF hD
                  have c0 := cell_call k1 hB
                  have c1 := cell_call k2 hB
                  go_simp
                  exact hK _ _ (Below.refl _ _) (rt_eq s35)
                refine obs_cons ?_ ?_
                · intro T wx K hB hF hD hK
                  have g5 : T[5]? = some (.pointer (some ⟨w.heap.size + 1, 0, none⟩)) := hF 5 (free_of (by kernel_rfl))
                  refine ob_yes (wanted_none rfl) ?_
                  clear hF hD
                  have c0 := cell_call k3 hB
                  have c1 := cell_call k4 hB
                  go_simp
                  exact hK _ _ (Below.refl _ _) (rt_eq s36)
                refine obs_cons ?_ ?_
                · intro T wx K hB hF hD hK
                  have g7 : T[7]? = some (.pointer (some ⟨w.heap.size + 1 + 1 + 1, 0, none⟩)) := hF 7 (free_of (by kernel_rfl))
                  refine ob_yes (wanted_none rfl) ?_
                  clear hF hD
                  have c0 := cell_call k7 hB
                  have c1 := cell_call k8 hB
                  go_simp
                  exact hK _ _ (Below.refl _ _) (rt_eq s37)
                refine obs_cons ?_ ?_
                · intro T wx K hB hF hD hK
                  have g35 := get_eq (hD 4 35 (by simp [Region.binds]) (by kernel_rfl)) s35
                  have g36 := get_eq (hD 5 36 (by simp [Region.binds]) (by kernel_rfl)) s36
                  have g37 := get_eq (hD 6 37 (by simp [Region.binds]) (by kernel_rfl)) s37
                  refine ob_yes (wanted_none rfl) ?_
                  clear hF hD
                  go_simp
                  refine (rside_is a b c d r s o2 _ ka kb kc kd kr ks G2).mono ?_; rintro e w9 ⟨rfl, hb⟩
                  exact hK _ _ hb (rt_eq s38)
                refine obs_cons ?_ ?_
                · intro T wx K hB hF hD hK
                  have g34 := get_eq (hD 3 34 (by simp [Region.binds]) (by kernel_rfl)) s34
                  have g38 := get_eq (hD 7 38 (by simp [Region.binds]) (by kernel_rfl)) s38
                  refine ob_yes (wanted_none rfl) ?_
                  clear hF hD
                  go_simp
                  exact hK _ _ (Below.refl _ _) (rt_eq s39)
                refine obs_cons ?_ ?_
                · intro T wx K hB hF hD hK
                  have g39 := get_eq (hD 8 39 (by simp [Region.binds]) (by kernel_rfl)) s39
                  refine ob_yes (wanted_none rfl) ?_
                  clear hF hD
                  go_simp
                  exact hK _ _ (Below.refl _ _) (rt_eq s40)
                refine obs_cons ?_ ?_
                · intro T wx K hB hF hD hK
                  have g40 := get_eq (hD 9 40 (by simp [Region.binds]) (by kernel_rfl)) s40
                  refine ob_yes (wanted_none rfl) ?_
                  clear hF hD
                  go_simp
                  exact hK _ _ (Below.refl _ _) (rt_eq s41)
                refine obs_cons ?_ ?_
                · intro T wx K hB hF hD hK
                  have g41 := get_eq (hD 10 41 (by simp [Region.binds]) (by kernel_rfl)) s41
                  have g6 : T[6]? = some (.pointer (some ⟨w.heap.size + 1 + 1, 0, none⟩)) := hF 6 (free_of (by kernel_rfl))
                  refine ob_yes (wanted_yes rfl (by kernel_rfl) g41) ?_
                  clear hF hD
                  have c0 := cell_call k5 hB
                  have c1 := cell_call k6 hB
                  go_simp
                  exact hK _ _ (Below.refl _ _) (rt_eq s42)
                refine obs_cons ?_ ?_
                · intro T wx K hB hF hD hK
                  have g41 := get_eq (hD 10 41 (by simp [Region.binds]) (by kernel_rfl)) s41
                  have g7 : T[7]? = some (.pointer (some ⟨w.heap.size + 1 + 1 + 1, 0, none⟩)) := hF 7 (free_of (by kernel_rfl))
                  refine ob_yes (wanted_yes rfl (by kernel_rfl) g41) ?_
                  clear hF hD
                  have c0 := cell_call k7 hB
                  have c1 := cell_call k8 hB
                  go_simp
                  exact hK _ _ (Below.refl _ _) (rt_eq s43)
                refine obs_cons ?_ ?_
                · intro T wx K hB hF hD hK
                  have g41 := get_eq (hD 10 41 (by simp [Region.binds]) (by kernel_rfl)) s41
                  have g4 : T[4]? = some (.pointer (some ⟨w.heap.size, 0, none⟩)) := hF 4 (free_of (by kernel_rfl))
                  refine ob_yes (wanted_yes rfl (by kernel_rfl) g41) ?_
                  clear hF hD
                  have c0 := cell_call k1 hB
                  have c1 := cell_call k2 hB
                  go_simp
                  exact hK _ _ (Below.refl _ _) (rt_eq s44)
                refine obs_cons ?_ ?_
                · intro T wx K hB hF hD hK
                  have g41 := get_eq (hD 10 41 (by simp [Region.binds]) (by kernel_rfl)) s41
                  have g42 := get_eq (hD 11 42 (by simp [Region.binds]) (by kernel_rfl)) s42
                  have g43 := get_eq (hD 12 43 (by simp [Region.binds]) (by kernel_rfl)) s43
                  have g44 := get_eq (hD 13 44 (by simp [Region.binds]) (by kernel_rfl)) s44
                  refine ob_yes (wanted_yes rfl (by kernel_rfl) g41) ?_
                  clear hF hD
                  go_simp
                  refine (rside_is p q r s a b o3 _ kp kq kr ks ka kb G3).mono ?_; rintro e w9 ⟨rfl, hb⟩
                  exact hK _ _ hb (rt_eq s45)
                refine obs_cons ?_ ?_
                · intro T wx K hB hF hD hK
                  have g41 := get_eq (hD 10 41 (by simp [Region.binds]) (by kernel_rfl)) s41
                  have g6 : T[6]? = some (.pointer (some ⟨w.heap.size + 1 + 1, 0, none⟩)) := hF 6 (free_of (by kernel_rfl))
                  refine ob_yes (wanted_yes rfl (by kernel_rfl) g41) ?_
                  clear hF hD
                  have c0 := cell_call k5 hB
                  have c1 := cell_call k6 hB
                  go_simp
                  exact hK _ _ (Below.refl _ _) (rt_eq s46)
                refine obs_cons ?_ ?_
                · intro T wx K hB hF hD hK
                  have g41 := get_eq (hD 10 41 (by simp [Region.binds]) (by kernel_rfl)) s41
                  have g7 : T[7]? = some (.pointer (some ⟨w.heap.size + 1 + 1 + 1, 0, none⟩)) := hF 7 (free_of (by kernel_rfl))
                  refine ob_yes (wanted_yes rfl (by kernel_rfl) g41) ?_
                  clear hF hD
                  have c0 := cell_call k7 hB
                  have c1 := cell_call k8 hB
                  go_simp
                  exact hK _ _ (Below.refl _ _) (rt_eq s47)
                refine obs_cons ?_ ?_
                · intro T wx K hB hF hD hK
                  have g41 := get_eq (hD 10 41 (by simp [Region.binds]) (by kernel_rfl)) s41
                  have g5 : T[5]? = some (.pointer (some ⟨w.heap.size + 1, 0, none⟩)) := hF 5 (free_of (by kernel_rfl))
                  refine ob_yes (wanted_yes rfl (by kernel_rfl) g41) ?_
                  clear hF hD
                  have c0 := cell_call k3 hB
                  have c1 := cell_call k4 hB
                  go_simp
                  exact hK _ _ (Below.refl _ _) (rt_eq s48)
                refine obs_cons ?_ ?_
                · intro T wx K hB hF hD hK
                  have g41 := get_eq (hD 10 41 (by simp [Region.binds]) (by kernel_rfl)) s41
                  have g46 := get_eq (hD 15 46 (by simp [Region.binds]) (by kernel_rfl)) s46
                  have g47 := get_eq (hD 16 47 (by simp [Region.binds]) (by kernel_rfl)) s47
                  have g48 := get_eq (hD 17 48 (by simp [Region.binds]) (by kernel_rfl)) s48
                  refine ob_yes (wanted_yes rfl (by kernel_rfl) g41) ?_
                  clear hF hD
                  go_simp
                  refine (rside_is p q r s c d o4 _ kp kq kr ks kc kd G4).mono ?_; rintro e w9 ⟨rfl, hb⟩
                  exact hK _ _ hb (rt_eq s49)
                refine obs_cons ?_ ?_
                · intro T wx K hB hF hD hK
                  have g41 := get_eq (hD 10 41 (by simp [Region.binds]) (by kernel_rfl)) s41
                  have g45 := get_eq (hD 14 45 (by simp [Region.binds]) (by kernel_rfl)) s45
                  have g49 := get_eq (hD 18 49 (by simp [Region.binds]) (by kernel_rfl)) s49
                  refine ob_yes (wanted_yes rfl (by kernel_rfl) g41) ?_
                  clear hF hD
                  go_simp
                  exact hK _ _ (Below.refl _ _) (rt_eq s50)
                refine obs_cons ?_ ?_
                · intro T wx K hB hF hD hK
                  have g41 := get_eq (hD 10 41 (by simp [Region.binds]) (by kernel_rfl)) s41
                  have g50 := get_eq (hD 19 50 (by simp [Region.binds]) (by kernel_rfl)) s50
                  refine ob_yes (wanted_yes rfl (by kernel_rfl) g41) ?_
                  clear hF hD
                  go_simp
                  exact hK _ _ (Below.refl _ _) (rt_eq s51)
                refine obs_cons ?_ ?_
                · intro T wx K hB hF hD hK
                  have g41 := get_eq (hD 10 41 (by simp [Region.binds]) (by kernel_rfl)) s41
                  have g51 := get_eq (hD 20 51 (by simp [Region.binds]) (by kernel_rfl)) s51
                  refine ob_yes (wanted_none rfl) ?_
                  clear hF hD
                  go_simp
                  exact hK _ _ (Below.refl _ _) (rt_eq s52)
                refine obs_cons ?_ ?_
                · intro T wx K hB hF hD hK
                  have g52 := get_eq (hD 21 52 (by simp [Region.binds]) (by kernel_rfl)) s52
                  refine ob_yes (wanted_none rfl) ?_
                  clear hF hD
                  go_simp
                  exact hK _ _ (Below.refl _ _) (rt_eq s8)
                exact obs_nil
              · intro T w' hb hF hs hD
                have g8 := get_eq (hD 22 8 (by kernel_rfl)) s8
                have fin := Lib.hid (hB.trans (hb.mono hB.size))
                clear hF hD hs hb
                go_wp2_with fail
                refine bodyPost_ret (v := .bool true) (by simp [results, Try.results68, go_sem, g8]) rfl ?_
                exact ⟨ret_bool (by rw [E.out]; simp [*]; try (intros; omega)), fin.out⟩
            · have hB : Below w.heap.size w w := Below.refl _ _
              go_enter Try.func68, Try.ntmps68
              go_wp2_with fail
              refine (ron_is a b c d p q false _ ka kb kc kd kp kq H1).mono ?_; rintro e w1 ⟨rfl, hb⟩
              have k1 : w1.cell? ⟨w.heap.size, 0, none⟩ = some (.int .i64 a) := cell_call (cell_alloc (cell_alloc (cell_alloc (cbx w #[.int .i64 a, .int .i64 b] 47 (w.heap.size) 0 (.int .i64 a) (by simp) rfl) _) _) _) hb
              have k2 : w1.cell? ⟨w.heap.size, 1, none⟩ = some (.int .i64 b) := cell_call (cell_alloc (cell_alloc (cell_alloc (cbx w #[.int .i64 a, .int .i64 b] 47 (w.heap.size) 1 (.int .i64 b) (by simp) rfl) _) _) _) hb
              have k3 : w1.cell? ⟨w.heap.size + 1, 0, none⟩ = some (.int .i64 c) := cell_call (cell_alloc (cell_alloc (cbx (w.alloc (.cells #[.int .i64 a, .int .i64 b] 47)) #[.int .i64 c, .int .i64 d] 47 (w.heap.size + 1) 0 (.int .i64 c) (by simp) rfl) _) _) hb
              have k4 : w1.cell? ⟨w.heap.size + 1, 1, none⟩ = some (.int .i64 d) := cell_call (cell_alloc (cell_alloc (cbx (w.alloc (.cells #[.int .i64 a, .int .i64 b] 47)) #[.int .i64 c, .int .i64 d] 47 (w.heap.size + 1) 1 (.int .i64 d) (by simp) rfl) _) _) hb
              have k5 : w1.cell? ⟨w.heap.size + 1 + 1, 0, none⟩ = some (.int .i64 p) := cell_call (cell_alloc (cbx ((w.alloc (.cells #[.int .i64 a, .int .i64 b] 47)).alloc (.cells #[.int .i64 c, .int .i64 d] 47)) #[.int .i64 p, .int .i64 q] 47 (w.heap.size + 1 + 1) 0 (.int .i64 p) (by simp) rfl) _) hb
              have k6 : w1.cell? ⟨w.heap.size + 1 + 1, 1, none⟩ = some (.int .i64 q) := cell_call (cell_alloc (cbx ((w.alloc (.cells #[.int .i64 a, .int .i64 b] 47)).alloc (.cells #[.int .i64 c, .int .i64 d] 47)) #[.int .i64 p, .int .i64 q] 47 (w.heap.size + 1 + 1) 1 (.int .i64 q) (by simp) rfl) _) hb
              have k7 : w1.cell? ⟨w.heap.size + 1 + 1 + 1, 0, none⟩ = some (.int .i64 r) := cell_call (cbx (((w.alloc (.cells #[.int .i64 a, .int .i64 b] 47)).alloc (.cells #[.int .i64 c, .int .i64 d] 47)).alloc (.cells #[.int .i64 p, .int .i64 q] 47)) #[.int .i64 r, .int .i64 s] 47 (w.heap.size + 1 + 1 + 1) 0 (.int .i64 r) (by simp) rfl) hb
              have k8 : w1.cell? ⟨w.heap.size + 1 + 1 + 1, 1, none⟩ = some (.int .i64 s) := cell_call (cbx (((w.alloc (.cells #[.int .i64 a, .int .i64 b] 47)).alloc (.cells #[.int .i64 c, .int .i64 d] 47)).alloc (.cells #[.int .i64 p, .int .i64 q] 47)) #[.int .i64 r, .int .i64 s] 47 (w.heap.size + 1 + 1 + 1) 1 (.int .i64 s) (by simp) rfl) hb
              replace hB := belT (belA (belA (belA (belA hB _) _) _) _) hb
              clear hb
              have zk1 : w.heap.size < w1.heap.size := World.block_lt_of_cell? w1 _ k1
              have zk3 : w.heap.size + 1 < w1.heap.size := World.block_lt_of_cell? w1 _ k3
              have zk5 : w.heap.size + 1 + 1 < w1.heap.size := World.block_lt_of_cell? w1 _ k5
              have zk7 : w.heap.size + 1 + 1 + 1 < w1.heap.size := World.block_lt_of_cell? w1 _ k7
              go_wp2_with fail
              refine (ron_is a b c d r s false _ ka kb kc kd kr ks H2).mono ?_; rintro e w2 ⟨rfl, hb⟩
              replace k1 : w2.cell? ⟨w.heap.size, 0, none⟩ = some (.int .i64 a) := cell_call k1 hb
              replace k2 : w2.cell? ⟨w.heap.size, 1, none⟩ = some (.int .i64 b) := cell_call k2 hb
              replace k3 : w2.cell? ⟨w.heap.size + 1, 0, none⟩ = some (.int .i64 c) := cell_call k3 hb
              replace k4 : w2.cell? ⟨w.heap.size + 1, 1, none⟩ = some (.int .i64 d) := cell_call k4 hb
              replace k5 : w2.cell? ⟨w.heap.size + 1 + 1, 0, none⟩ = some (.int .i64 p) := cell_call k5 hb
              replace k6 : w2.cell? ⟨w.heap.size + 1 + 1, 1, none⟩ = some (.int .i64 q) := cell_call k6 hb
              replace k7 : w2.cell? ⟨w.heap.size + 1 + 1 + 1, 0, none⟩ = some (.int .i64 r) := cell_call k7 hb
              replace k8 : w2.cell? ⟨w.heap.size + 1 + 1 + 1, 1, none⟩ = some (.int .i64 s) := cell_call k8 hb
              replace hB := belT hB hb
              clear hb
              replace zk1 : w.heap.size < w2.heap.size := World.block_lt_of_cell? w2 _ k1
              replace zk3 : w.heap.size + 1 < w2.heap.size := World.block_lt_of_cell? w2 _ k3
              replace zk5 : w.heap.size + 1 + 1 < w2.heap.size := World.block_lt_of_cell? w2 _ k5
              replace zk7 : w.heap.size + 1 + 1 + 1 < w2.heap.size := World.block_lt_of_cell? w2 _ k7
              go_wp2_with fail
              refine (ron_is p q r s a b false _ kp kq kr ks ka kb H3).mono ?_; rintro e w3 ⟨rfl, hb⟩
              replace k1 : w3.cell? ⟨w.heap.size, 0, none⟩ = some (.int .i64 a) := cell_call k1 hb
              replace k2 : w3.cell? ⟨w.heap.size, 1, none⟩ = some (.int .i64 b) := cell_call k2 hb
              replace k3 : w3.cell? ⟨w.heap.size + 1, 0, none⟩ = some (.int .i64 c) := cell_call k3 hb
              replace k4 : w3.cell? ⟨w.heap.size + 1, 1, none⟩ = some (.int .i64 d) := cell_call k4 hb
              replace k5 : w3.cell? ⟨w.heap.size + 1 + 1, 0, none⟩ = some (.int .i64 p) := cell_call k5 hb
              replace k6 : w3.cell? ⟨w.heap.size + 1 + 1, 1, none⟩ = some (.int .i64 q) := cell_call k6 hb
              replace k7 : w3.cell? ⟨w.heap.size + 1 + 1 + 1, 0, none⟩ = some (.int .i64 r) := cell_call k7 hb
              replace k8 : w3.cell? ⟨w.heap.size + 1 + 1 + 1, 1, none⟩ = some (.int .i64 s) := cell_call k8 hb
              replace hB := belT hB hb
              clear hb
              replace zk1 : w.heap.size < w3.heap.size := World.block_lt_of_cell? w3 _ k1
              replace zk3 : w.heap.size + 1 < w3.heap.size := World.block_lt_of_cell? w3 _ k3
              replace zk5 : w.heap.size + 1 + 1 < w3.heap.size := World.block_lt_of_cell? w3 _ k5
              replace zk7 : w.heap.size + 1 + 1 + 1 < w3.heap.size := World.block_lt_of_cell? w3 _ k7
              go_wp2_with fail
              refine (ron_is p q r s c d false _ kp kq kr ks kc kd H4).mono ?_; rintro e w4 ⟨rfl, hb⟩
              replace k1 : w4.cell? ⟨w.heap.size, 0, none⟩ = some (.int .i64 a) := cell_call k1 hb
              replace k2 : w4.cell? ⟨w.heap.size, 1, none⟩ = some (.int .i64 b) := cell_call k2 hb
              replace k3 : w4.cell? ⟨w.heap.size + 1, 0, none⟩ = some (.int .i64 c) := cell_call k3 hb
              replace k4 : w4.cell? ⟨w.heap.size + 1, 1, none⟩ = some (.int .i64 d) := cell_call k4 hb
              replace k5 : w4.cell? ⟨w.heap.size + 1 + 1, 0, none⟩ = some (.int .i64 p) := cell_call k5 hb
              replace k6 : w4.cell? ⟨w.heap.size + 1 + 1, 1, none⟩ = some (.int .i64 q) := cell_call k6 hb
              replace k7 : w4.cell? ⟨w.heap.size + 1 + 1 + 1, 0, none⟩ = some (.int .i64 r) := cell_call k7 hb
              replace k8 : w4.cell? ⟨w.heap.size + 1 + 1 + 1, 1, none⟩ = some (.int .i64 s) := cell_call k8 hb
              replace hB := belT hB hb
              clear hb
              replace zk1 : w.heap.size < w4.heap.size := World.block_lt_of_cell? w4 _ k1
              replace zk3 : w.heap.size + 1 < w4.heap.size := World.block_lt_of_cell? w4 _ k3
              replace zk5 : w.heap.size + 1 + 1 < w4.heap.size := World.block_lt_of_cell? w4 _ k5
              replace zk7 : w.heap.size + 1 + 1 + 1 < w4.heap.size := World.block_lt_of_cell? w4 _ k7
              go_wp2_with fail
              replace k1 : w4.cell? ⟨w.heap.size, 0, none⟩ = some (.int .i64 a) := k1
              replace k2 : w4.cell? ⟨w.heap.size, 1, none⟩ = some (.int .i64 b) := k2
              replace k3 : w4.cell? ⟨w.heap.size + 1, 0, none⟩ = some (.int .i64 c) := k3
              replace k4 : w4.cell? ⟨w.heap.size + 1, 1, none⟩ = some (.int .i64 d) := k4
              replace k5 : w4.cell? ⟨w.heap.size + 1 + 1, 0, none⟩ = some (.int .i64 p) := k5
              replace k6 : w4.cell? ⟨w.heap.size + 1 + 1, 1, none⟩ = some (.int .i64 q) := k6
              replace k7 : w4.cell? ⟨w.heap.size + 1 + 1 + 1, 0, none⟩ = some (.int .i64 r) := k7
              replace k8 : w4.cell? ⟨w.heap.size + 1 + 1 + 1, 1, none⟩ = some (.int .i64 s) := k8
              replace hB : Below w.heap.size w w4 := hB
              have zk1 : w.heap.size < w4.heap.size := World.block_lt_of_cell? w4 _ k1
              have zk3 : w.heap.size + 1 < w4.heap.size := World.block_lt_of_cell? w4 _ k3
              have zk5 : w.heap.size + 1 + 1 < w4.heap.size := World.block_lt_of_cell? w4 _ k5
              have zk7 : w.heap.size + 1 + 1 + 1 < w4.heap.size := World.block_lt_of_cell? w4 _ k7
              have dn : decide (n < 0) = false := by simpa using x2
              obtain ⟨sp, hsp⟩ : ∃ sp : Told, sp = [none, none, none, none, none, none, none, none, some (.inl (.bool false)), none, none, none, none, none, none, none, none, none, none, none, none, none, none, none, none, none, none, none, none, none, none, some (.inl (.agg #[.int .i64 a, .int .i64 b])), some (.inl (.agg #[.int .i64 c, .int .i64 d])), some (.inl (.agg #[.int .i64 p, .int .i64 q])), some (.inl (.int .i64 o1)), some (.inl (.agg #[.int .i64 a, .int .i64 b])), some (.inl (.agg #[.int .i64 c, .int .i64 d])), some (.inl (.agg #[.int .i64 r, .int .i64 s])), some (.inl (.int .i64 o2)), some (.inl (.int .i64 m)), some (.inl (.bool true)), some (.inl (.bool true)), some (.inl (.agg #[.int .i64 p, .int .i64 q])), some (.inl (.agg #[.int .i64 r, .int .i64 s])), some (.inl (.agg #[.int .i64 a, .int .i64 b])), some (.inl (.int .i64 o3)), some (.inl (.agg #[.int .i64 p, .int .i64 q])), some (.inl (.agg #[.int .i64 r, .int .i64 s])), some (.inl (.agg #[.int .i64 c, .int .i64 d])), some (.inl (.int .i64 o4)), some (.inl (.int .i64 n)), some (.inl (.bool false)), some (.inl (.bool false))] := ⟨_, rfl⟩
              have s8 : sp.getD 8 none = some (.inl (.bool false)) := by rw [hsp]; rfl
              have s31 : sp.getD 31 none = some (.inl (.agg #[.int .i64 a, .int .i64 b])) := by rw [hsp]; rfl
              have s32 : sp.getD 32 none = some (.inl (.agg #[.int .i64 c, .int .i64 d])) := by rw [hsp]; rfl
              have s33 : sp.getD 33 none = some (.inl (.agg #[.int .i64 p, .int .i64 q])) := by rw [hsp]; rfl
              have s34 : sp.getD 34 none = some (.inl (.int .i64 o1)) := by rw [hsp]; rfl
              have s35 : sp.getD 35 none = some (.inl (.agg #[.int .i64 a, .int .i64 b])) := by rw [hsp]; rfl
              have s36 : sp.getD 36 none = some (.inl (.agg #[.int .i64 c, .int .i64 d])) := by rw [hsp]; rfl
              have s37 : sp.getD 37 none = some (.inl (.agg #[.int .i64 r, .int .i64 s])) := by rw [hsp]; rfl
              have s38 : sp.getD 38 none = some (.inl (.int .i64 o2)) := by rw [hsp]; rfl
              have s39 : sp.getD 39 none = some (.inl (.int .i64 m)) := by rw [hsp]; rfl
              have s40 : sp.getD 40 none = some (.inl (.bool true)) := by rw [hsp]; rfl
              have s41 : sp.getD 41 none = some (.inl (.bool true)) := by rw [hsp]; rfl
              have s42 : sp.getD 42 none = some (.inl (.agg #[.int .i64 p, .int .i64 q])) := by rw [hsp]; rfl
              have s43 : sp.getD 43 none = some (.inl (.agg #[.int .i64 r, .int .i64 s])) := by rw [hsp]; rfl
              have s44 : sp.getD 44 none = some (.inl (.agg #[.int .i64 a, .int .i64 b])) := by rw [hsp]; rfl
              have s45 : sp.getD 45 none = some (.inl (.int .i64 o3)) := by rw [hsp]; rfl
              have s46 : sp.getD 46 none = some (.inl (.agg #[.int .i64 p, .int .i64 q])) := by rw [hsp]; rfl
              have s47 : sp.getD 47 none = some (.inl (.agg #[.int .i64 r, .int .i64 s])) := by rw [hsp]; rfl
              have s48 : sp.getD 48 none = some (.inl (.agg #[.int .i64 c, .int .i64 d])) := by rw [hsp]; rfl
              have s49 : sp.getD 49 none = some (.inl (.int .i64 o4)) := by rw [hsp]; rfl
              have s50 : sp.getD 50 none = some (.inl (.int .i64 n)) := by rw [hsp]; rfl
              have s51 : sp.getD 51 none = some (.inl (.bool false)) := by rw [hsp]; rfl
              have s52 : sp.getD 52 none = some (.inl (.bool false)) := by rw [hsp]; rfl
              clear hsp
              refine region_obs sp (by kernel_rfl) (by kernel_rfl) ?_ ?_
              · rw [List.toList_toArray]
                refine obs_cons ?_ ?_
                · intro T wx K hB hF hD hK
                  have g4 : T[4]? = some (.pointer (some ⟨w.heap.size, 0, none⟩)) := hF 4 (free_of (by kernel_rfl))
                  refine ob_yes (wanted_none rfl) ?_
                  clear hF hD
                  have c0 := cell_call k1 hB
                  have c1 := cell_call k2 hB
                  go_simp
                  exact hK _ _ (Below.refl _ _) (rt_eq s31)
                refine obs_cons ?_ ?_
                · intro T wx K hB hF hD hK
                  have g5 : T[5]? = some (.pointer (some ⟨w.heap.size + 1, 0, none⟩)) := hF 5 (free_of (by kernel_rfl))
                  refine ob_yes (wanted_none rfl) ?_
                  clear hF hD
                  have c0 := cell_call k3 hB
                  have c1 := cell_call k4 hB
                  go_simp
                  exact hK _ _ (Below.refl _ _) (rt_eq s32)
                refine obs_cons ?_ ?_
                · intro T wx K hB hF hD hK
                  have g6 : T[6]? = some (.pointer (some ⟨w.heap.size + 1 + 1, 0, none⟩)) := hF 6 (free_of (by kernel_rfl))
                  refine ob_yes (wanted_none rfl) ?_
                  clear hF hD
                  have c0 := cell_call k5 hB
                  have c1 := cell_call k6 hB
                  go_simp
                  exact hK _ _ (Below.refl _ _) (rt_eq s33)
                refine obs_cons ?_ ?_
                · intro T wx K hB hF hD hK
                  have g31 := get_eq (hD 0 31 (by simp [Region.binds]) (by kernel_rfl)) s31
                  have g32 := get_eq (hD 1 32 (by simp [Region.binds]) (by kernel_rfl)) s32
                  have g33 := get_eq (hD 2 33 (by simp [Region.binds]) (by kernel_rfl)) s33
                  refine ob_yes (wanted_none rfl) ?_
                  clear hF hD
                  go_simp
                  refine (rside_is a b c d p q o1 _ ka kb kc kd kp kq G1).mono ?_; rintro e w9 ⟨rfl, hb⟩
                  exact hK _ _ hb (rt_eq s34)
                refine obs_cons ?_ ?_
                · intro T wx K hB hF hD hK
                  have g4 : T[4]? = some (.pointer (some ⟨w.heap.size, 0, none⟩)) := hF 4 (free_of (by kernel_rfl))
                  refine ob_yes (wanted_none rfl) ?_
                  clear hF hD
                  have c0 := cell_call k1 hB
                  have c1 := cell_call k2 hB
                  go_simp
                  exact hK _ _ (Below.refl _ _) (rt_eq s35)
                refine obs_cons ?_ ?_
                · intro T wx K hB hF hD hK
                  have g5 : T[5]? = some (.pointer (some ⟨w.heap.size + 1, 0, none⟩)) := hF 5 (free_of (by kernel_rfl))
                  refine ob_yes (wanted_none rfl) ?_
                  clear hF hD
                  have c0 := cell_call k3 hB
                  have c1 := cell_call k4 hB
                  go_simp
                  exact hK _ _ (Below.refl _ _) (rt_eq s36)
                refine obs_cons ?_ ?_
                · intro T wx K hB hF hD hK
                  have g7 : T[7]? = some (.pointer (some ⟨w.heap.size + 1 + 1 + 1, 0, none⟩)) := hF 7 (free_of (by kernel_rfl))
                  refine ob_yes (wanted_none rfl) ?_
                  clear hF hD
                  have c0 := cell_call k7 hB
                  have c1 := cell_call k8 hB
                  go_simp
                  exact hK _ _ (Below.refl _ _) (rt_eq s37)
                refine obs_cons ?_ ?_
                · intro T wx K hB hF hD hK
                  have g35 := get_eq (hD 4 35 (by simp [Region.binds]) (by kernel_rfl)) s35
                  have g36 := get_eq (hD 5 36 (by simp [Region.binds]) (by kernel_rfl)) s36
                  have g37 := get_eq (hD 6 37 (by simp [Region.binds]) (by kernel_rfl)) s37
                  refine ob_yes (wanted_none rfl) ?_
                  clear hF hD
                  go_simp
                  refine (rside_is a b c d r s o2 _ ka kb kc kd kr ks G2).mono ?_; rintro e w9 ⟨rfl, hb⟩
                  exact hK _ _ hb (rt_eq s38)
                refine obs_cons ?_ ?_
                · intro T wx K hB hF hD hK
                  have g34 := get_eq (hD 3 34 (by simp [Region.binds]) (by kernel_rfl)) s34
                  have g38 := get_eq (hD 7 38 (by simp [Region.binds]) (by kernel_rfl)) s38
                  refine ob_yes (wanted_none rfl) ?_
                  clear hF hD
                  go_simp
                  exact hK _ _ (Below.refl _ _) (rt_eq s39)
                refine obs_cons ?_ ?_
                · intro T wx K hB hF hD hK
                  have g39 := get_eq (hD 8 39 (by simp [Region.binds]) (by kernel_rfl)) s39
                  refine ob_yes (wanted_none rfl) ?_
                  clear hF hD
                  go_simp
                  exact hK _ _ (Below.refl _ _) (rt_eq s40)
                refine obs_cons ?_ ?_
                · intro T wx K hB hF hD hK
                  have g40 := get_eq (hD 9 40 (by simp [Region.binds]) (by kernel_rfl)) s40
                  refine ob_yes (wanted_none rfl) ?_
                  clear hF hD
                  go_simp
                  exact hK _ _ (Below.refl _ _) (rt_eq s41)
                refine obs_cons ?_ ?_
                · intro T wx K hB hF hD hK
                  have g41 := get_eq (hD 10 41 (by simp [Region.binds]) (by kernel_rfl)) s41
                  have g6 : T[6]? = some (.pointer (some ⟨w.heap.size + 1 + 1, 0, none⟩)) := hF 6 (free_of (by kernel_rfl))
                  refine ob_yes (wanted_yes rfl (by kernel_rfl) g41) ?_
                  clear hF hD
                  have c0 := cell_call k5 hB
                  have c1 := cell_call k6 hB
                  go_simp
                  exact hK _ _ (Below.refl _ _) (rt_eq s42)
                refine obs_cons ?_ ?_
                · intro T wx K hB hF hD hK
                  have g41 := get_eq (hD 10 41 (by simp [Region.binds]) (by kernel_rfl)) s41
                  have g7 : T[7]? = some (.pointer (some ⟨w.heap.size + 1 + 1 + 1, 0, none⟩)) := hF 7 (free_of (by kernel_rfl))
                  refine ob_yes (wanted_yes rfl (by kernel_rfl) g41) ?_
                  clear hF hD
                  have c0 := cell_call k7 hB
                  have c1 := cell_call k8 hB
                  go_simp
                  exact hK _ _ (Below.refl _ _) (rt_eq s43)
                refine obs_cons ?_ ?_
                · intro T wx K hB hF hD hK
                  have g41 := get_eq (hD 10 41 (by simp [Region.binds]) (by kernel_rfl)) s41
                  have g4 : T[4]? = some (.pointer (some ⟨w.heap.size, 0, none⟩)) := hF 4 (free_of (by kernel_rfl))
                  refine ob_yes (wanted_yes rfl (by kernel_rfl) g41) ?_
                  clear hF hD
                  have c0 := cell_call k1 hB
                  have c1 := cell_call k2 hB
                  go_simp
                  exact hK _ _ (Below.refl _ _) (rt_eq s44)
                refine obs_cons ?_ ?_
                · intro T wx K hB hF hD hK
                  have g41 := get_eq (hD 10 41 (by simp [Region.binds]) (by kernel_rfl)) s41
                  have g42 := get_eq (hD 11 42 (by simp [Region.binds]) (by kernel_rfl)) s42
                  have g43 := get_eq (hD 12 43 (by simp [Region.binds]) (by kernel_rfl)) s43
                  have g44 := get_eq (hD 13 44 (by simp [Region.binds]) (by kernel_rfl)) s44
                  refine ob_yes (wanted_yes rfl (by kernel_rfl) g41) ?_
                  clear hF hD
                  go_simp
                  refine (rside_is p q r s a b o3 _ kp kq kr ks ka kb G3).mono ?_; rintro e w9 ⟨rfl, hb⟩
                  exact hK _ _ hb (rt_eq s45)
                refine obs_cons ?_ ?_
                · intro T wx K hB hF hD hK
                  have g41 := get_eq (hD 10 41 (by simp [Region.binds]) (by kernel_rfl)) s41
                  have g6 : T[6]? = some (.pointer (some ⟨w.heap.size + 1 + 1, 0, none⟩)) := hF 6 (free_of (by kernel_rfl))
                  refine ob_yes (wanted_yes rfl (by kernel_rfl) g41) ?_
                  clear hF hD
                  have c0 := cell_call k5 hB
                  have c1 := cell_call k6 hB
                  go_simp
                  exact hK _ _ (Below.refl _ _) (rt_eq s46)
                refine obs_cons ?_ ?_
                · intro T wx K hB hF hD hK
                  have g41 := get_eq (hD 10 41 (by simp [Region.binds]) (by kernel_rfl)) s41
                  have g7 : T[7]? = some (.pointer (some ⟨w.heap.size + 1 + 1 + 1, 0, none⟩)) := hF 7 (free_of (by kernel_rfl))
                  refine ob_yes (wanted_yes rfl (by kernel_rfl) g41) ?_
                  clear hF hD
                  have c0 := cell_call k7 hB
                  have c1 := cell_call k8 hB
                  go_simp
                  exact hK _ _ (Below.refl _ _) (rt_eq s47)
                refine obs_cons ?_ ?_
                · intro T wx K hB hF hD hK
                  have g41 := get_eq (hD 10 41 (by simp [Region.binds]) (by kernel_rfl)) s41
                  have g5 : T[5]? = some (.pointer (some ⟨w.heap.size + 1, 0, none⟩)) := hF 5 (free_of (by kernel_rfl))
                  refine ob_yes (wanted_yes rfl (by kernel_rfl) g41) ?_
                  clear hF hD
                  have c0 := cell_call k3 hB
                  have c1 := cell_call k4 hB
                  go_simp
                  exact hK _ _ (Below.refl _ _) (rt_eq s48)
                refine obs_cons ?_ ?_
                · intro T wx K hB hF hD hK
                  have g41 := get_eq (hD 10 41 (by simp [Region.binds]) (by kernel_rfl)) s41
                  have g46 := get_eq (hD 15 46 (by simp [Region.binds]) (by kernel_rfl)) s46
                  have g47 := get_eq (hD 16 47 (by simp [Region.binds]) (by kernel_rfl)) s47
                  have g48 := get_eq (hD 17 48 (by simp [Region.binds]) (by kernel_rfl)) s48
                  refine ob_yes (wanted_yes rfl (by kernel_rfl) g41) ?_
                  clear hF hD
                  go_simp
                  refine (rside_is p q r s c d o4 _ kp kq kr ks kc kd G4).mono ?_; rintro e w9 ⟨rfl, hb⟩
                  exact hK _ _ hb (rt_eq s49)
                refine obs_cons ?_ ?_
                · intro T wx K hB hF hD hK
                  have g41 := get_eq (hD 10 41 (by simp [Region.binds]) (by kernel_rfl)) s41
                  have g45 := get_eq (hD 14 45 (by simp [Region.binds]) (by kernel_rfl)) s45
                  have g49 := get_eq (hD 18 49 (by simp [Region.binds]) (by kernel_rfl)) s49
                  refine ob_yes (wanted_yes rfl (by kernel_rfl) g41) ?_
                  clear hF hD
                  go_simp
                  exact hK _ _ (Below.refl _ _) (rt_eq s50)
                refine obs_cons ?_ ?_
                · intro T wx K hB hF hD hK
                  have g41 := get_eq (hD 10 41 (by simp [Region.binds]) (by kernel_rfl)) s41
                  have g50 := get_eq (hD 19 50 (by simp [Region.binds]) (by kernel_rfl)) s50
                  refine ob_yes (wanted_yes rfl (by kernel_rfl) g41) ?_
                  clear hF hD
                  go_simp
                  exact hK _ _ (Below.refl _ _) (rt_eq s51)
                refine obs_cons ?_ ?_
                · intro T wx K hB hF hD hK
                  have g41 := get_eq (hD 10 41 (by simp [Region.binds]) (by kernel_rfl)) s41
                  have g51 := get_eq (hD 20 51 (by simp [Region.binds]) (by kernel_rfl)) s51
                  refine ob_yes (wanted_none rfl) ?_
                  clear hF hD
                  go_simp
                  exact hK _ _ (Below.refl _ _) (rt_eq s52)
                refine obs_cons ?_ ?_
                · intro T wx K hB hF hD hK
                  have g52 := get_eq (hD 21 52 (by simp [Region.binds]) (by kernel_rfl)) s52
                  refine ob_yes (wanted_none rfl) ?_
                  clear hF hD
                  go_simp
                  exact hK _ _ (Below.refl _ _) (rt_eq s8)
                exact obs_nil
              · intro T w' hb hF hs hD
                have g8 := get_eq (hD 22 8 (by kernel_rfl)) s8
                have fin := Lib.hid (hB.trans (hb.mono hB.size))
                clear hF hD hs hb
                go_wp2_with fail
                refine bodyPost_ret (v := .bool false) (by simp [results, Try.results68, go_sem, g8]) rfl ?_
                exact ⟨ret_bool (by rw [E.out]; simp [*]; try (intros; omega)), fin.out⟩
          · have hB : Below w.heap.size w w := Below.refl _ _
            go_enter Try.func68, Try.ntmps68
            go_wp2_with fail
            refine (ron_is a b c d p q false _ ka kb kc kd kp kq H1).mono ?_; rintro e w1 ⟨rfl, hb⟩
            have k1 : w1.cell? ⟨w.heap.size, 0, none⟩ = some (.int .i64 a) := cell_call (cell_alloc (cell_alloc (cell_alloc (cbx w #[.int .i64 a, .int .i64 b] 47 (w.heap.size) 0 (.int .i64 a) (by simp) rfl) _) _) _) hb
            have k2 : w1.cell? ⟨w.heap.size, 1, none⟩ = some (.int .i64 b) := cell_call (cell_alloc (cell_alloc (cell_alloc (cbx w #[.int .i64 a, .int .i64 b] 47 (w.heap.size) 1 (.int .i64 b) (by simp) rfl) _) _) _) hb
            have k3 : w1.cell? ⟨w.heap.size + 1, 0, none⟩ = some (.int .i64 c) := cell_call (cell_alloc (cell_alloc (cbx (w.alloc (.cells #[.int .i64 a, .int .i64 b] 47)) #[.int .i64 c, .int .i64 d] 47 (w.heap.size + 1) 0 (.int .i64 c) (by simp) rfl) _) _) hb
            have k4 : w1.cell? ⟨w.heap.size + 1, 1, none⟩ = some (.int .i64 d) := cell_call (cell_alloc (cell_alloc (cbx (w.alloc (.cells #[.int .i64 a, .int .i64 b] 47)) #[.int .i64 c, .int .i64 d] 47 (w.heap.size + 1) 1 (.int .i64 d) (by simp) rfl) _) _) hb
            have k5 : w1.cell? ⟨w.heap.size + 1 + 1, 0, none⟩ = some (.int .i64 p) := cell_call (cell_alloc (cbx ((w.alloc (.cells #[.int .i64 a, .int .i64 b] 47)).alloc (.cells #[.int .i64 c, .int .i64 d] 47)) #[.int .i64 p, .int .i64 q] 47 (w.heap.size + 1 + 1) 0 (.int .i64 p) (by simp) rfl) _) hb
            have k6 : w1.cell? ⟨w.heap.size + 1 + 1, 1, none⟩ = some (.int .i64 q) := cell_call (cell_alloc (cbx ((w.alloc (.cells #[.int .i64 a, .int .i64 b] 47)).alloc (.cells #[.int .i64 c, .int .i64 d] 47)) #[.int .i64 p, .int .i64 q] 47 (w.heap.size + 1 + 1) 1 (.int .i64 q) (by simp) rfl) _) hb
            have k7 : w1.cell? ⟨w.heap.size + 1 + 1 + 1, 0, none⟩ = some (.int .i64 r) := cell_call (cbx (((w.alloc (.cells #[.int .i64 a, .int .i64 b] 47)).alloc (.cells #[.int .i64 c, .int .i64 d] 47)).alloc (.cells #[.int .i64 p, .int .i64 q] 47)) #[.int .i64 r, .int .i64 s] 47 (w.heap.size + 1 + 1 + 1) 0 (.int .i64 r) (by simp) rfl) hb
            have k8 : w1.cell? ⟨w.heap.size + 1 + 1 + 1, 1, none⟩ = some (.int .i64 s) := cell_call (cbx (((w.alloc (.cells #[.int .i64 a, .int .i64 b] 47)).alloc (.cells #[.int .i64 c, .int .i64 d] 47)).alloc (.cells #[.int .i64 p, .int .i64 q] 47)) #[.int .i64 r, .int .i64 s] 47 (w.heap.size + 1 + 1 + 1) 1 (.int .i64 s) (by simp) rfl) hb
            replace hB := belT (belA (belA (belA (belA hB _) _) _) _) hb
            clear hb
            have zk1 : w.heap.size < w1.heap.size := World.block_lt_of_cell? w1 _ k1
            have zk3 : w.heap.size + 1 < w1.heap.size := World.block_lt_of_cell? w1 _ k3
            have zk5 : w.heap.size + 1 + 1 < w1.heap.size := World.block_lt_of_cell? w1 _ k5
            have zk7 : w.heap.size + 1 + 1 + 1 < w1.heap.size := World.block_lt_of_cell? w1 _ k7
            go_wp2_with fail
            refine (ron_is a b c d r s false _ ka kb kc kd kr ks H2).mono ?_; rintro e w2 ⟨rfl, hb⟩
            replace k1 : w2.cell? ⟨w.heap.size, 0, none⟩ = some (.int .i64 a) := cell_call k1 hb
            replace k2 : w2.cell? ⟨w.heap.size, 1, none⟩ = some (.int .i64 b) := cell_call k2 hb
            replace k3 : w2.cell? ⟨w.heap.size + 1, 0, none⟩ = some (.int .i64 c) := cell_call k3 hb
            replace k4 : w2.cell? ⟨w.heap.size + 1, 1, none⟩ = some (.int .i64 d) := cell_call k4 hb
            replace k5 : w2.cell? ⟨w.heap.size + 1 + 1, 0, none⟩ = some (.int .i64 p) := cell_call k5 hb
            replace k6 : w2.cell? ⟨w.heap.size + 1 + 1, 1, none⟩ = some (.int .i64 q) := cell_call k6 hb
            replace k7 : w2.cell? ⟨w.heap.size + 1 + 1 + 1, 0, none⟩ = some (.int .i64 r) := cell_call k7 hb
            replace k8 : w2.cell? ⟨w.heap.size + 1 + 1 + 1, 1, none⟩ = some (.int .i64 s) := cell_call k8 hb
            replace hB := belT hB hb
            clear hb
            replace zk1 : w.heap.size < w2.heap.size := World.block_lt_of_cell? w2 _ k1
            replace zk3 : w.heap.size + 1 < w2.heap.size := World.block_lt_of_cell? w2 _ k3
            replace zk5 : w.heap.size + 1 + 1 < w2.heap.size := World.block_lt_of_cell? w2 _ k5
            replace zk7 : w.heap.size + 1 + 1 + 1 < w2.heap.size := World.block_lt_of_cell? w2 _ k7
            go_wp2_with fail
            refine (ron_is p q r s a b false _ kp kq kr ks ka kb H3).mono ?_; rintro e w3 ⟨rfl, hb⟩
            replace k1 : w3.cell? ⟨w.heap.size, 0, none⟩ = some (.int .i64 a) := cell_call k1 hb
            replace k2 : w3.cell? ⟨w.heap.size, 1, none⟩ = some (.int .i64 b) := cell_call k2 hb
            replace k3 : w3.cell? ⟨w.heap.size + 1, 0, none⟩ = some (.int .i64 c) := cell_call k3 hb
            replace k4 : w3.cell? ⟨w.heap.size + 1, 1, none⟩ = some (.int .i64 d) := cell_call k4 hb
            replace k5 : w3.cell? ⟨w.heap.size + 1 + 1, 0, none⟩ = some (.int .i64 p) := cell_call k5 hb
            replace k6 : w3.cell? ⟨w.heap.size + 1 + 1, 1, none⟩ = some (.int .i64 q) := cell_call k6 hb
            replace k7 : w3.cell? ⟨w.heap.size + 1 + 1 + 1, 0, none⟩ = some (.int .i64 r) := cell_call k7 hb
            replace k8 : w3.cell? ⟨w.heap.size + 1 + 1 + 1, 1, none⟩ = some (.int .i64 s) := cell_call k8 hb
            replace hB := belT hB hb
            clear hb
            replace zk1 : w.heap.size < w3.heap.size := World.block_lt_of_cell? w3 _ k1
            replace zk3 : w.heap.size + 1 < w3.heap.size := World.block_lt_of_cell? w3 _ k3
            replace zk5 : w.heap.size + 1 + 1 < w3.heap.size := World.block_lt_of_cell? w3 _ k5
            replace zk7 : w.heap.size + 1 + 1 + 1 < w3.heap.size := World.block_lt_of_cell? w3 _ k7
            go_wp2_with fail
            refine (ron_is p q r s c d false _ kp kq kr ks kc kd H4).mono ?_; rintro e w4 ⟨rfl, hb⟩
            replace k1 : w4.cell? ⟨w.heap.size, 0, none⟩ = some (.int .i64 a) := cell_call k1 hb
            replace k2 : w4.cell? ⟨w.heap.size, 1, none⟩ = some (.int .i64 b) := cell_call k2 hb
            replace k3 : w4.cell? ⟨w.heap.size + 1, 0, none⟩ = some (.int .i64 c) := cell_call k3 hb
            replace k4 : w4.cell? ⟨w.heap.size + 1, 1, none⟩ = some (.int .i64 d) := cell_call k4 hb
            replace k5 : w4.cell? ⟨w.heap.size + 1 + 1, 0, none⟩ = some (.int .i64 p) := cell_call k5 hb
            replace k6 : w4.cell? ⟨w.heap.size + 1 + 1, 1, none⟩ = some (.int .i64 q) := cell_call k6 hb
            replace k7 : w4.cell? ⟨w.heap.size + 1 + 1 + 1, 0, none⟩ = some (.int .i64 r) := cell_call k7 hb
            replace k8 : w4.cell? ⟨w.heap.size + 1 + 1 + 1, 1, none⟩ = some (.int .i64 s) := cell_call k8 hb
            replace hB := belT hB hb
            clear hb
            replace zk1 : w.heap.size < w4.heap.size := World.block_lt_of_cell? w4 _ k1
            replace zk3 : w.heap.size + 1 < w4.heap.size := World.block_lt_of_cell? w4 _ k3
            replace zk5 : w.heap.size + 1 + 1 < w4.heap.size := World.block_lt_of_cell? w4 _ k5
            replace zk7 : w.heap.size + 1 + 1 + 1 < w4.heap.size := World.block_lt_of_cell? w4 _ k7
            go_wp2_with fail
            replace k1 : w4.cell? ⟨w.heap.size, 0, none⟩ = some (.int .i64 a) := k1
            replace k2 : w4.cell? ⟨w.heap.size, 1, none⟩ = some (.int .i64 b) := k2
            replace k3 : w4.cell? ⟨w.heap.size + 1, 0, none⟩ = some (.int .i64 c) := k3
            replace k4 : w4.cell? ⟨w.heap.size + 1, 1, none⟩ = some (.int .i64 d) := k4
            replace k5 : w4.cell? ⟨w.heap.size + 1 + 1, 0, none⟩ = some (.int .i64 p) := k5
            replace k6 : w4.cell? ⟨w.heap.size + 1 + 1, 1, none⟩ = some (.int .i64 q) := k6
            replace k7 : w4.cell? ⟨w.heap.size + 1 + 1 + 1, 0, none⟩ = some (.int .i64 r) := k7
            replace k8 : w4.cell? ⟨w.heap.size + 1 + 1 + 1, 1, none⟩ = some (.int .i64 s) := k8
            replace hB : Below w.heap.size w w4 := hB
            have zk1 : w.heap.size < w4.heap.size := World.block_lt_of_cell? w4 _ k1
            have zk3 : w.heap.size + 1 < w4.heap.size := World.block_lt_of_cell? w4 _ k3
            have zk5 : w.heap.size + 1 + 1 < w4.heap.size := World.block_lt_of_cell? w4 _ k5
            have zk7 : w.heap.size + 1 + 1 + 1 < w4.heap.size := World.block_lt_of_cell? w4 _ k7
            have dm : decide (m < 0) = false := by simpa using x1
            obtain ⟨sp, hsp⟩ : ∃ sp : Told, sp = [none, none, none, none, none, none, none, none, some (.inl (.bool false)), none, none, none, none, none, none, none, none, none, none, none, none, none, none, none, none, none, none, none, none, none, none, some (.inl (.agg #[.int .i64 a, .int .i64 b])), some (.inl (.agg #[.int .i64 c, .int .i64 d])), some (.inl (.agg #[.int .i64 p, .int .i64 q])), some (.inl (.int .i64 o1)), some (.inl (.agg #[.int .i64 a, .int .i64 b])), some (.inl (.agg #[.int .i64 c, .int .i64 d])), some (.inl (.agg #[.int .i64 r, .int .i64 s])), some (.inl (.int .i64 o2)), some (.inl (.int .i64 m)), some (.inl (.bool false)), some (.inl (.bool false)), none, none, none, none, none, none, none, none, none, none, some (.inl (.bool false))] := ⟨_, rfl⟩
            have s8 : sp.getD 8 none = some (.inl (.bool false)) := by rw [hsp]; rfl
            have s31 : sp.getD 31 none = some (.inl (.agg #[.int .i64 a, .int .i64 b])) := by rw [hsp]; rfl
            have s32 : sp.getD 32 none = some (.inl (.agg #[.int .i64 c, .int .i64 d])) := by rw [hsp]; rfl
            have s33 : sp.getD 33 none = some (.inl (.agg #[.int .i64 p, .int .i64 q])) := by rw [hsp]; rfl
            have s34 : sp.getD 34 none = some (.inl (.int .i64 o1)) := by rw [hsp]; rfl
            have s35 : sp.getD 35 none = some (.inl (.agg #[.int .i64 a, .int .i64 b])) := by rw [hsp]; rfl
            have s36 : sp.getD 36 none = some (.inl (.agg #[.int .i64 c, .int .i64 d])) := by rw [hsp]; rfl
            have s37 : sp.getD 37 none = some (.inl (.agg #[.int .i64 r, .int .i64 s])) := by rw [hsp]; rfl
            have s38 : sp.getD 38 none = some (.inl (.int .i64 o2)) := by rw [hsp]; rfl
            have s39 : sp.getD 39 none = some (.inl (.int .i64 m)) := by rw [hsp]; rfl
            have s40 : sp.getD 40 none = some (.inl (.bool false)) := by rw [hsp]; rfl
            have s41 : sp.getD 41 none = some (.inl (.bool false)) := by rw [hsp]; rfl
            have s42 : sp.getD 42 none = none := by rw [hsp]; rfl
            have s43 : sp.getD 43 none = none := by rw [hsp]; rfl
            have s44 : sp.getD 44 none = none := by rw [hsp]; rfl
            have s45 : sp.getD 45 none = none := by rw [hsp]; rfl
            have s46 : sp.getD 46 none = none := by rw [hsp]; rfl
            have s47 : sp.getD 47 none = none := by rw [hsp]; rfl
            have s48 : sp.getD 48 none = none := by rw [hsp]; rfl
            have s49 : sp.getD 49 none = none := by rw [hsp]; rfl
            have s50 : sp.getD 50 none = none := by rw [hsp]; rfl
            have s51 : sp.getD 51 none = none := by rw [hsp]; rfl
            have s52 : sp.getD 52 none = some (.inl (.bool false)) := by rw [hsp]; rfl
            clear hsp
            refine region_obs sp (by kernel_rfl) (by kernel_rfl) ?_ ?_
            · rw [List.toList_toArray]
              refine obs_cons ?_ ?_
              · intro T wx K hB hF hD hK
                have g4 : T[4]? = some (.pointer (some ⟨w.heap.size, 0, none⟩)) := hF 4 (free_of (by kernel_rfl))
                refine ob_yes (wanted_none rfl) ?_
                clear hF hD
                have c0 := cell_call k1 hB
                have c1 := cell_call k2 hB
                go_simp
                exact hK _ _ (Below.refl _ _) (rt_eq s31)
              refine obs_cons ?_ ?_
              · intro T wx K hB hF hD hK
                have g5 : T[5]? = some (.pointer (some ⟨w.heap.size + 1, 0, none⟩)) := hF 5 (free_of (by kernel_rfl))
                refine ob_yes (wanted_none rfl) ?_
                clear hF hD
                have c0 := cell_call k3 hB
                have c1 := cell_call k4 hB
                go_simp
                exact hK _ _ (Below.refl _ _) (rt_eq s32)
              refine obs_cons ?_ ?_
              · intro T wx K hB hF hD hK
                have g6 : T[6]? = some (.pointer (some ⟨w.heap.size + 1 + 1, 0, none⟩)) := hF 6 (free_of (by kernel_rfl))
                refine ob_yes (wanted_none rfl) ?_
                clear hF hD
                have c0 := cell_call k5 hB
                have c1 := cell_call k6 hB
                go_simp
                exact hK _ _ (Below.refl _ _) (rt_eq s33)
              refine obs_cons ?_ ?_
              · intro T wx K hB hF hD hK
                have g31 := get_eq (hD 0 31 (by simp [Region.binds]) (by kernel_rfl)) s31
                have g32 := get_eq (hD 1 32 (by simp [Region.binds]) (by kernel_rfl)) s32
                have g33 := get_eq (hD 2 33 (by simp [Region.binds]) (by kernel_rfl)) s33
                refine ob_yes (wanted_none rfl) ?_
                clear hF hD
                go_simp
                refine (rside_is a b c d p q o1 _ ka kb kc kd kp kq G1).mono ?_; rintro e w9 ⟨rfl, hb⟩
                exact hK _ _ hb (rt_eq s34)
              refine obs_cons ?_ ?_
              · intro T wx K hB hF hD hK
                have g4 : T[4]? = some (.pointer (some ⟨w.heap.size, 0, none⟩)) := hF 4 (free_of (by kernel_rfl))
                refine ob_yes (wanted_none rfl) ?_
                clear hF hD
                have c0 := cell_call k1 hB
                have c1 := cell_call k2 hB
                go_simp
                exact hK _ _ (Below.refl _ _) (rt_eq s35)
              refine obs_cons ?_ ?_
              · intro T wx K hB hF hD hK
                have g5 : T[5]? = some (.pointer (some ⟨w.heap.size + 1, 0, none⟩)) := hF 5 (free_of (by kernel_rfl))
                refine ob_yes (wanted_none rfl) ?_
                clear hF hD
                have c0 := cell_call k3 hB
                have c1 := cell_call k4 hB
                go_simp
                exact hK _ _ (Below.refl _ _) (rt_eq s36)
              refine obs_cons ?_ ?_
              · intro T wx K hB hF hD hK
                have g7 : T[7]? = some (.pointer (some ⟨w.heap.size + 1 + 1 + 1, 0, none⟩)) := hF 7 (free_of (by kernel_rfl))
                refine ob_yes (wanted_none rfl) ?_
                clear hF hD
                have c0 := cell_call k7 hB
                have c1 := cell_call k8 hB
                go_simp
                exact hK _ _ (Below.refl _ _) (rt_eq s37)
              refine obs_cons ?_ ?_
              · intro T wx K hB hF hD hK
                have g35 := get_eq (hD 4 35 (by simp [Region.binds]) (by kernel_rfl)) s35
                have g36 := get_eq (hD 5 36 (by simp [Region.binds]) (by kernel_rfl)) s36
                have g37 := get_eq (hD 6 37 (by simp [Region.binds]) (by kernel_rfl)) s37
                refine ob_yes (wanted_none rfl) ?_
                clear hF hD
                go_simp
                refine (rside_is a b c d r s o2 _ ka kb kc kd kr ks G2).mono ?_; rintro e w9 ⟨rfl, hb⟩
                exact hK _ _ hb (rt_eq s38)
              refine obs_cons ?_ ?_
              · intro T wx K hB hF hD hK
                have g34 := get_eq (hD 3 34 (by simp [Region.binds]) (by kernel_rfl)) s34
                have g38 := get_eq (hD 7 38 (by simp [Region.binds]) (by kernel_rfl)) s38
                refine ob_yes (wanted_none rfl) ?_
                clear hF hD
                go_simp
                exact hK _ _ (Below.refl _ _) (rt_eq s39)
              refine obs_cons ?_ ?_
              · intro T wx K hB hF hD hK
                have g39 := get_eq (hD 8 39 (by simp [Region.binds]) (by kernel_rfl)) s39
                refine ob_yes (wanted_none rfl) ?_
                clear hF hD
                go_simp
                exact hK _ _ (Below.refl _ _) (rt_eq s40)
              refine obs_cons ?_ ?_
              · intro T wx K hB hF hD hK
                have g40 := get_eq (hD 9 40 (by simp [Region.binds]) (by kernel_rfl)) s40
                refine ob_yes (wanted_none rfl) ?_
                clear hF hD
                go_simp
                exact hK _ _ (Below.refl _ _) (rt_eq s41)
              refine obs_cons ?_ ?_
              · intro T wx K hB hF hD hK
                have g41 := get_eq (hD 10 41 (by simp [Region.binds]) (by kernel_rfl)) s41
                refine ob_no (wanted_no rfl (by kernel_rfl) g41 rfl) ?_
                exact hK _ _ (Below.refl _ _) (rt_any s42)
              refine obs_cons ?_ ?_
              · intro T wx K hB hF hD hK
                have g41 := get_eq (hD 10 41 (by simp [Region.binds]) (by kernel_rfl)) s41
                refine ob_no (wanted_no rfl (by kernel_rfl) g41 rfl) ?_
                exact hK _ _ (Below.refl _ _) (rt_any s43)
              refine obs_cons ?_ ?_
              · intro T wx K hB hF hD hK
                have g41 := get_eq (hD 10 41 (by simp [Region.binds]) (by kernel_rfl)) s41
                refine ob_no (wanted_no rfl (by kernel_rfl) g41 rfl) ?_
                exact hK _ _ (Below.refl _ _) (rt_any s44)
              refine obs_cons ?_ ?_
              · intro T wx K hB hF hD hK
                have g41 := get_eq (hD 10 41 (by simp [Region.binds]) (by kernel_rfl)) s41
                refine ob_no (wanted_no rfl (by kernel_rfl) g41 rfl) ?_
                exact hK _ _ (Below.refl _ _) (rt_any s45)
              refine obs_cons ?_ ?_
              · intro T wx K hB hF hD hK
                have g41 := get_eq (hD 10 41 (by simp [Region.binds]) (by kernel_rfl)) s41
                refine ob_no (wanted_no rfl (by kernel_rfl) g41 rfl) ?_
                exact hK _ _ (Below.refl _ _) (rt_any s46)
              refine obs_cons ?_ ?_
              · intro T wx K hB hF hD hK
                have g41 := get_eq (hD 10 41 (by simp [Region.binds]) (by kernel_rfl)) s41
                refine ob_no (wanted_no rfl (by kernel_rfl) g41 rfl) ?_
                exact hK _ _ (Below.refl _ _) (rt_any s47)
              refine obs_cons ?_ ?_
              · intro T wx K hB hF hD hK
                have g41 := get_eq (hD 10 41 (by simp [Region.binds]) (by kernel_rfl)) s41
                refine ob_no (wanted_no rfl (by kernel_rfl) g41 rfl) ?_
                exact hK _ _ (Below.refl _ _) (rt_any s48)
              refine obs_cons ?_ ?_
              · intro T wx K hB hF hD hK
                have g41 := get_eq (hD 10 41 (by simp [Region.binds]) (by kernel_rfl)) s41
                refine ob_no (wanted_no rfl (by kernel_rfl) g41 rfl) ?_
                exact hK _ _ (Below.refl _ _) (rt_any s49)
              refine obs_cons ?_ ?_
              · intro T wx K hB hF hD hK
                have g41 := get_eq (hD 10 41 (by simp [Region.binds]) (by kernel_rfl)) s41
                refine ob_no (wanted_no rfl (by kernel_rfl) g41 rfl) ?_
                exact hK _ _ (Below.refl _ _) (rt_any s50)
              refine obs_cons ?_ ?_
              · intro T wx K hB hF hD hK
                have g41 := get_eq (hD 10 41 (by simp [Region.binds]) (by kernel_rfl)) s41
                refine ob_no (wanted_no rfl (by kernel_rfl) g41 rfl) ?_
                exact hK _ _ (Below.refl _ _) (rt_any s51)
              refine obs_cons ?_ ?_
              · intro T wx K hB hF hD hK
                have g41 := get_eq (hD 10 41 (by simp [Region.binds]) (by kernel_rfl)) s41
                refine ob_yes (wanted_none rfl) ?_
                clear hF hD
                go_simp
                exact hK _ _ (Below.refl _ _) (rt_eq s52)
              refine obs_cons ?_ ?_
              · intro T wx K hB hF hD hK
                have g52 := get_eq (hD 21 52 (by simp [Region.binds]) (by kernel_rfl)) s52
                refine ob_yes (wanted_none rfl) ?_
                clear hF hD
                go_simp
                exact hK _ _ (Below.refl _ _) (rt_eq s8)
              exact obs_nil
            · intro T w' hb hF hs hD
              have g8 := get_eq (hD 22 8 (by kernel_rfl)) s8
              have fin := Lib.hid (hB.trans (hb.mono hB.size))
              clear hF hD hs hb
              go_wp2_with fail
              refine bodyPost_ret (v := .bool false) (by simp [results, Try.results68, go_sem, g8]) rfl ?_
              exact ⟨ret_bool (by rw [E.out]; simp [*]; try (intros; omega)), fin.out⟩
        · have hB : Below w.heap.size w w := Below.refl _ _
          clear M1 M2
          go_enter Try.func68, Try.ntmps68
          go_wp2_with fail
          refine (ron_is a b c d p q false _ ka kb kc kd kp kq H1).mono ?_; rintro e w1 ⟨rfl, hb⟩
          have k1 : w1.cell? ⟨w.heap.size, 0, none⟩ = some (.int .i64 a) := cell_call (cell_alloc (cell_alloc (cell_alloc (cbx w #[.int .i64 a, .int .i64 b] 47 (w.heap.size) 0 (.int .i64 a) (by simp) rfl) _) _) _) hb
          have k2 : w1.cell? ⟨w.heap.size, 1, none⟩ = some (.int .i64 b) := cell_call (cell_alloc (cell_alloc (cell_alloc (cbx w #[.int .i64 a, .int .i64 b] 47 (w.heap.size) 1 (.int .i64 b) (by simp) rfl) _) _) _) hb
          have k3 : w1.cell? ⟨w.heap.size + 1, 0, none⟩ = some (.int .i64 c) := cell_call (cell_alloc (cell_alloc (cbx (w.alloc (.cells #[.int .i64 a, .int .i64 b] 47)) #[.int .i64 c, .int .i64 d] 47 (w.heap.size + 1) 0 (.int .i64 c) (by simp) rfl) _) _) hb
          have k4 : w1.cell? ⟨w.heap.size + 1, 1, none⟩ = some (.int .i64 d) := cell_call (cell_alloc (cell_alloc (cbx (w.alloc (.cells #[.int .i64 a, .int .i64 b] 47)) #[.int .i64 c, .int .i64 d] 47 (w.heap.size + 1) 1 (.int .i64 d) (by simp) rfl) _) _) hb
          have k5 : w1.cell? ⟨w.heap.size + 1 + 1, 0, none⟩ = some (.int .i64 p) := cell_call (cell_alloc (cbx ((w.alloc (.cells #[.int .i64 a, .int .i64 b] 47)).alloc (.cells #[.int .i64 c, .int .i64 d] 47)) #[.int .i64 p, .int .i64 q] 47 (w.heap.size + 1 + 1) 0 (.int .i64 p) (by simp) rfl) _) hb
          have k6 : w1.cell? ⟨w.heap.size + 1 + 1, 1, none⟩ = some (.int .i64 q) := cell_call (cell_alloc (cbx ((w.alloc (.cells #[.int .i64 a, .int .i64 b] 47)).alloc (.cells #[.int .i64 c, .int .i64 d] 47)) #[.int .i64 p, .int .i64 q] 47 (w.heap.size + 1 + 1) 1 (.int .i64 q) (by simp) rfl) _) hb
          have k7 : w1.cell? ⟨w.heap.size + 1 + 1 + 1, 0, none⟩ = some (.int .i64 r) := cell_call (cbx (((w.alloc (.cells #[.int .i64 a, .int .i64 b] 47)).alloc (.cells #[.int .i64 c, .int .i64 d] 47)).alloc (.cells #[.int .i64 p, .int .i64 q] 47)) #[.int .i64 r, .int .i64 s] 47 (w.heap.size + 1 + 1 + 1) 0 (.int .i64 r) (by simp) rfl) hb
          have k8 : w1.cell? ⟨w.heap.size + 1 + 1 + 1, 1, none⟩ = some (.int .i64 s) := cell_call (cbx (((w.alloc (.cells #[.int .i64 a, .int .i64 b] 47)).alloc (.cells #[.int .i64 c, .int .i64 d] 47)).alloc (.cells #[.int .i64 p, .int .i64 q] 47)) #[.int .i64 r, .int .i64 s] 47 (w.heap.size + 1 + 1 + 1) 1 (.int .i64 s) (by simp) rfl) hb
          replace hB := belT (belA (belA (belA (belA hB _) _) _) _) hb
          clear hb
          have zk1 : w.heap.size < w1.heap.size := World.block_lt_of_cell? w1 _ k1
          have zk3 : w.heap.size + 1 < w1.heap.size := World.block_lt_of_cell? w1 _ k3
          have zk5 : w.heap.size + 1 + 1 < w1.heap.size := World.block_lt_of_cell? w1 _ k5
          have zk7 : w.heap.size + 1 + 1 + 1 < w1.heap.size := World.block_lt_of_cell? w1 _ k7
          go_wp2_with fail
          refine (ron_is a b c d r s false _ ka kb kc kd kr ks H2).mono ?_; rintro e w2 ⟨rfl, hb⟩
          replace k1 : w2.cell? ⟨w.heap.size, 0, none⟩ = some (.int .i64 a) := cell_call k1 hb
          replace k2 : w2.cell? ⟨w.heap.size, 1, none⟩ = some (.int .i64 b) := cell_call k2 hb
          replace k3 : w2.cell? ⟨w.heap.size + 1, 0, none⟩ = some (.int .i64 c) := cell_call k3 hb
          replace k4 : w2.cell? ⟨w.heap.size + 1, 1, none⟩ = some (.int .i64 d) := cell_call k4 hb
          replace k5 : w2.cell? ⟨w.heap.size + 1 + 1, 0, none⟩ = some (.int .i64 p) := cell_call k5 hb
          replace k6 : w2.cell? ⟨w.heap.size + 1 + 1, 1, none⟩ = some (.int .i64 q) := cell_call k6 hb
          replace k7 : w2.cell? ⟨w.heap.size + 1 + 1 + 1, 0, none⟩ = some (.int .i64 r) := cell_call k7 hb
          replace k8 : w2.cell? ⟨w.heap.size + 1 + 1 + 1, 1, none⟩ = some (.int .i64 s) := cell_call k8 hb
          replace hB := belT hB hb
          clear hb
          replace zk1 : w.heap.size < w2.heap.size := World.block_lt_of_cell? w2 _ k1
          replace zk3 : w.heap.size + 1 < w2.heap.size := World.block_lt_of_cell? w2 _ k3
          replace zk5 : w.heap.size + 1 + 1 < w2.heap.size := World.block_lt_of_cell? w2 _ k5
          replace zk7 : w.heap.size + 1 + 1 + 1 < w2.heap.size := World.block_lt_of_cell? w2 _ k7
          go_wp2_with fail
          refine (ron_is p q r s a b false _ kp kq kr ks ka kb H3).mono ?_; rintro e w3 ⟨rfl, hb⟩
          replace k1 : w3.cell? ⟨w.heap.size, 0, none⟩ = some (.int .i64 a) := cell_call k1 hb
          replace k2 : w3.cell? ⟨w.heap.size, 1, none⟩ = some (.int .i64 b) := cell_call k2 hb
          replace k3 : w3.cell? ⟨w.heap.size + 1, 0, none⟩ = some (.int .i64 c) := cell_call k3 hb
          replace k4 : w3.cell? ⟨w.heap.size + 1, 1, none⟩ = some (.int .i64 d) := cell_call k4 hb
          replace k5 : w3.cell? ⟨w.heap.size + 1 + 1, 0, none⟩ = some (.int .i64 p) := cell_call k5 hb
          replace k6 : w3.cell? ⟨w.heap.size + 1 + 1, 1, none⟩ = some (.int .i64 q) := cell_call k6 hb
          replace k7 : w3.cell? ⟨w.heap.size + 1 + 1 + 1, 0, none⟩ = some (.int .i64 r) := cell_call k7 hb
          replace k8 : w3.cell? ⟨w.heap.size + 1 + 1 + 1, 1, none⟩ = some (.int .i64 s) := cell_call k8 hb
          replace hB := belT hB hb
          clear hb
          replace zk1 : w.heap.size < w3.heap.size := World.block_lt_of_cell? w3 _ k1
          replace zk3 : w.heap.size + 1 < w3.heap.size := World.block_lt_of_cell? w3 _ k3
          replace zk5 : w.heap.size + 1 + 1 < w3.heap.size := World.block_lt_of_cell? w3 _ k5
          replace zk7 : w.heap.size + 1 + 1 + 1 < w3.heap.size := World.block_lt_of_cell? w3 _ k7
          go_wp2_with fail
          refine (ron_is p q r s c d true _ kp kq kr ks kc kd H4).mono ?_; rintro e w4 ⟨rfl, hb⟩
          replace k1 : w4.cell? ⟨w.heap.size, 0, none⟩ = some (.int .i64 a) := cell_call k1 hb
          replace k2 : w4.cell? ⟨w.heap.size, 1, none⟩ = some (.int .i64 b) := cell_call k2 hb
          replace k3 : w4.cell? ⟨w.heap.size + 1, 0, none⟩ = some (.int .i64 c) := cell_call k3 hb
          replace k4 : w4.cell? ⟨w.heap.size + 1, 1, none⟩ = some (.int .i64 d) := cell_call k4 hb
          replace k5 : w4.cell? ⟨w.heap.size + 1 + 1, 0, none⟩ = some (.int .i64 p) := cell_call k5 hb
          replace k6 : w4.cell? ⟨w.heap.size + 1 + 1, 1, none⟩ = some (.int .i64 q) := cell_call k6 hb
          replace k7 : w4.cell? ⟨w.heap.size + 1 + 1 + 1, 0, none⟩ = some (.int .i64 r) := cell_call k7 hb
          replace k8 : w4.cell? ⟨w.heap.size + 1 + 1 + 1, 1, none⟩ = some (.int .i64 s) := cell_call k8 hb
          replace hB := belT hB hb
          clear hb
          replace zk1 : w.heap.size < w4.heap.size := World.block_lt_of_cell? w4 _ k1
          replace zk3 : w.heap.size + 1 < w4.heap.size := World.block_lt_of_cell? w4 _ k3
          replace zk5 : w.heap.size + 1 + 1 < w4.heap.size := World.block_lt_of_cell? w4 _ k5
          replace zk7 : w.heap.size + 1 + 1 + 1 < w4.heap.size := World.block_lt_of_cell? w4 _ k7
          go_wp2_with fail
          go_ret
          exact ⟨ret_bool (by rw [E.out]; simp), hB⟩
      · have hB : Below w.heap.size w w := Below.refl _ _
        clear M1 M2
        go_enter Try.func68, Try.ntmps68
        go_wp2_with fail
        refine (ron_is a b c d p q false _ ka kb kc kd kp kq H1).mono ?_; rintro e w1 ⟨rfl, hb⟩
        have k1 : w1.cell? ⟨w.heap.size, 0, none⟩ = some (.int .i64 a) := cell_call (cell_alloc (cell_alloc (cell_alloc (cbx w #[.int .i64 a, .int .i64 b] 47 (w.heap.size) 0 (.int .i64 a) (by simp) rfl) _) _) _) hb
        have k2 : w1.cell? ⟨w.heap.size, 1, none⟩ = some (.int .i64 b) := cell_call (cell_alloc (cell_alloc (cell_alloc (cbx w #[.int .i64 a, .int .i64 b] 47 (w.heap.size) 1 (.int .i64 b) (by simp) rfl) _) _) _) hb
        have k3 : w1.cell? ⟨w.heap.size + 1, 0, none⟩ = some (.int .i64 c) := cell_call (cell_alloc (cell_alloc (cbx (w.alloc (.cells #[.int .i64 a, .int .i64 b] 47)) #[.int .i64 c, .int .i64 d] 47 (w.heap.size + 1) 0 (.int .i64 c) (by simp) rfl) _) _) hb
        have k4 : w1.cell? ⟨w.heap.size + 1, 1, none⟩ = some (.int .i64 d) := cell_call (cell_alloc (cell_alloc (cbx (w.alloc (.cells #[.int .i64 a, .int .i64 b] 47)) #[.int .i64 c, .int .i64 d] 47 (w.heap.size + 1) 1 (.int .i64 d) (by simp) rfl) _) _) hb
        have k5 : w1.cell? ⟨w.heap.size + 1 + 1, 0, none⟩ = some (.int .i64 p) := cell_call (cell_alloc (cbx ((w.alloc (.cells #[.int .i64 a, .int .i64 b] 47)).alloc (.cells #[.int .i64 c, .int .i64 d] 47)) #[.int .i64 p, .int .i64 q] 47 (w.heap.size + 1 + 1) 0 (.int .i64 p) (by simp) rfl) _) hb
        have k6 : w1.cell? ⟨w.heap.size + 1 + 1, 1, none⟩ = some (.int .i64 q) := cell_call (cell_alloc (cbx ((w.alloc (.cells #[.int .i64 a, .int .i64 b] 47)).alloc (.cells #[.int .i64 c, .int .i64 d] 47)) #[.int .i64 p, .int .i64 q] 47 (w.heap.size + 1 + 1) 1 (.int .i64 q) (by simp) rfl) _) hb
        have k7 : w1.cell? ⟨w.heap.size + 1 + 1 + 1, 0, none⟩ = some (.int .i64 r) := cell_call (cbx (((w.alloc (.cells #[.int .i64 a, .int .i64 b] 47)).alloc (.cells #[.int .i64 c, .int .i64 d] 47)).alloc (.cells #[.int .i64 p, .int .i64 q] 47)) #[.int .i64 r, .int .i64 s] 47 (w.heap.size + 1 + 1 + 1) 0 (.int .i64 r) (by simp) rfl) hb
        have k8 : w1.cell? ⟨w.heap.size + 1 + 1 + 1, 1, none⟩ = some (.int .i64 s) := cell_call (cbx (((w.alloc (.cells #[.int .i64 a, .int .i64 b] 47)).alloc (.cells #[.int .i64 c, .int .i64 d] 47)).alloc (.cells #[.int .i64 p, .int .i64 q] 47)) #[.int .i64 r, .int .i64 s] 47 (w.heap.size + 1 + 1 + 1) 1 (.int .i64 s) (by simp) rfl) hb
        replace hB := belT (belA (belA (belA (belA hB _) _) _) _) hb
        clear hb
        have zk1 : w.heap.size < w1.heap.size := World.block_lt_of_cell? w1 _ k1
        have zk3 : w.heap.size + 1 < w1.heap.size := World.block_lt_of_cell? w1 _ k3
        have zk5 : w.heap.size + 1 + 1 < w1.heap.size := World.block_lt_of_cell? w1 _ k5
        have zk7 : w.heap.size + 1 + 1 + 1 < w1.heap.size := World.block_lt_of_cell? w1 _ k7
        go_wp2_with fail
        refine (ron_is a b c d r s false _ ka kb kc kd kr ks H2).mono ?_; rintro e w2 ⟨rfl, hb⟩
        replace k1 : w2.cell? ⟨w.heap.size, 0, none⟩ = some (.int .i64 a) := cell_call k1 hb
        replace k2 : w2.cell? ⟨w.heap.size, 1, none⟩ = some (.int .i64 b) := cell_call k2 hb
        replace k3 : w2.cell? ⟨w.heap.size + 1, 0, none⟩ = some (.int .i64 c) := cell_call k3 hb
        replace k4 : w2.cell? ⟨w.heap.size + 1, 1, none⟩ = some (.int .i64 d) := cell_call k4 hb
        replace k5 : w2.cell? ⟨w.heap.size + 1 + 1, 0, none⟩ = some (.int .i64 p) := cell_call k5 hb
        replace k6 : w2.cell? ⟨w.heap.size + 1 + 1, 1, none⟩ = some (.int .i64 q) := cell_call k6 hb
        replace k7 : w2.cell? ⟨w.heap.size + 1 + 1 + 1, 0, none⟩ = some (.int .i64 r) := cell_call k7 hb
        replace k8 : w2.cell? ⟨w.heap.size + 1 + 1 + 1, 1, none⟩ = some (.int .i64 s) := cell_call k8 hb
        replace hB := belT hB hb
        clear hb
        replace zk1 : w.heap.size < w2.heap.size := World.block_lt_of_cell? w2 _ k1
        replace zk3 : w.heap.size + 1 < w2.heap.size := World.block_lt_of_cell? w2 _ k3
        replace zk5 : w.heap.size + 1 + 1 < w2.heap.size := World.block_lt_of_cell? w2 _ k5
        replace zk7 : w.heap.size + 1 + 1 + 1 < w2.heap.size := World.block_lt_of_cell? w2 _ k7
        go_wp2_with fail
        refine (ron_is p q r s a b true _ kp kq kr ks ka kb H3).mono ?_; rintro e w3 ⟨rfl, hb⟩
        replace k1 : w3.cell? ⟨w.heap.size, 0, none⟩ = some (.int .i64 a) := cell_call k1 hb
        replace k2 : w3.cell? ⟨w.heap.size, 1, none⟩ = some (.int .i64 b) := cell_call k2 hb
        replace k3 : w3.cell? ⟨w.heap.size + 1, 0, none⟩ = some (.int .i64 c) := cell_call k3 hb
        replace k4 : w3.cell? ⟨w.heap.size + 1, 1, none⟩ = some (.int .i64 d) := cell_call k4 hb
        replace k5 : w3.cell? ⟨w.heap.size + 1 + 1, 0, none⟩ = some (.int .i64 p) := cell_call k5 hb
        replace k6 : w3.cell? ⟨w.heap.size + 1 + 1, 1, none⟩ = some (.int .i64 q) := cell_call k6 hb
        replace k7 : w3.cell? ⟨w.heap.size + 1 + 1 + 1, 0, none⟩ = some (.int .i64 r) := cell_call k7 hb
        replace k8 : w3.cell? ⟨w.heap.size + 1 + 1 + 1, 1, none⟩ = some (.int .i64 s) := cell_call k8 hb
        replace hB := belT hB hb
        clear hb
        replace zk1 : w.heap.size < w3.heap.size := World.block_lt_of_cell? w3 _ k1
        replace zk3 : w.heap.size + 1 < w3.heap.size := World.block_lt_of_cell? w3 _ k3
        replace zk5 : w.heap.size + 1 + 1 < w3.heap.size := World.block_lt_of_cell? w3 _ k5
        replace zk7 : w.heap.size + 1 + 1 + 1 < w3.heap.size := World.block_lt_of_cell? w3 _ k7
        go_wp2_with fail
        go_ret
        exact ⟨ret_bool (by rw [E.out]; simp), hB⟩
    · have hB : Below w.heap.size w w := Below.refl _ _
      clear M1 M2
      go_enter Try.func68, Try.ntmps68
      go_wp2_with fail
      refine (ron_is a b c d p q false _ ka kb kc kd kp kq H1).mono ?_; rintro e w1 ⟨rfl, hb⟩
      have k1 : w1.cell? ⟨w.heap.size, 0, none⟩ = some (.int .i64 a) := cell_call (cell_alloc (cell_alloc (cell_alloc (cbx w #[.int .i64 a, .int .i64 b] 47 (w.heap.size) 0 (.int .i64 a) (by simp) rfl) _) _) _) hb
      have k2 : w1.cell? ⟨w.heap.size, 1, none⟩ = some (.int .i64 b) := cell_call (cell_alloc (cell_alloc (cell_alloc (cbx w #[.int .i64 a, .int .i64 b] 47 (w.heap.size) 1 (.int .i64 b) (by simp) rfl) _) _) _) hb
      have k3 : w1.cell? ⟨w.heap.size + 1, 0, none⟩ = some (.int .i64 c) := cell_call (cell_alloc (cell_alloc (cbx (w.alloc (.cells #[.int .i64 a, .int .i64 b] 47)) #[.int .i64 c, .int .i64 d] 47 (w.heap.size + 1) 0 (.int .i64 c) (by simp) rfl) _) _) hb
      have k4 : w1.cell? ⟨w.heap.size + 1, 1, none⟩ = some (.int .i64 d) := cell_call (cell_alloc (cell_alloc (cbx (w.alloc (.cells #[.int .i64 a, .int .i64 b] 47)) #[.int .i64 c, .int .i64 d] 47 (w.heap.size + 1) 1 (.int .i64 d) (by simp) rfl) _) _) hb
      have k5 : w1.cell? ⟨w.heap.size + 1 + 1, 0, none⟩ = some (.int .i64 p) := cell_call (cell_alloc (cbx ((w.alloc (.cells #[.int .i64 a, .int .i64 b] 47)).alloc (.cells #[.int .i64 c, .int .i64 d] 47)) #[.int .i64 p, .int .i64 q] 47 (w.heap.size + 1 + 1) 0 (.int .i64 p) (by simp) rfl) _) hb
      have k6 : w1.cell? ⟨w.heap.size + 1 + 1, 1, none⟩ = some (.int .i64 q) := cell_call (cell_alloc (cbx ((w.alloc (.cells #[.int .i64 a, .int .i64 b] 47)).alloc (.cells #[.int .i64 c, .int .i64 d] 47)) #[.int .i64 p, .int .i64 q] 47 (w.heap.size + 1 + 1) 1 (.int .i64 q) (by simp) rfl) _) hb
      have k7 : w1.cell? ⟨w.heap.size + 1 + 1 + 1, 0, none⟩ = some (.int .i64 r) := cell_call (cbx (((w.alloc (.cells #[.int .i64 a, .int .i64 b] 47)).alloc (.cells #[.int .i64 c, .int .i64 d] 47)).alloc (.cells #[.int .i64 p, .int .i64 q] 47)) #[.int .i64 r, .int .i64 s] 47 (w.heap.size + 1 + 1 + 1) 0 (.int .i64 r) (by simp) rfl) hb
      have k8 : w1.cell? ⟨w.heap.size + 1 + 1 + 1, 1, none⟩ = some (.int .i64 s) := cell_call (cbx (((w.alloc (.cells #[.int .i64 a, .int .i64 b] 47)).alloc (.cells #[.int .i64 c, .int .i64 d] 47)).alloc (.cells #[.int .i64 p, .int .i64 q] 47)) #[.int .i64 r, .int .i64 s] 47 (w.heap.size + 1 + 1 + 1) 1 (.int .i64 s) (by simp) rfl) hb
      replace hB := belT (belA (belA (belA (belA hB _) _) _) _) hb
      clear hb
      have zk1 : w.heap.size < w1.heap.size := World.block_lt_of_cell? w1 _ k1
      have zk3 : w.heap.size + 1 < w1.heap.size := World.block_lt_of_cell? w1 _ k3
      have zk5 : w.heap.size + 1 + 1 < w1.heap.size := World.block_lt_of_cell? w1 _ k5
      have zk7 : w.heap.size + 1 + 1 + 1 < w1.heap.size := World.block_lt_of_cell? w1 _ k7
      go_wp2_with fail
      refine (ron_is a b c d r s true _ ka kb kc kd kr ks H2).mono ?_; rintro e w2 ⟨rfl, hb⟩
      replace k1 : w2.cell? ⟨w.heap.size, 0, none⟩ = some (.int .i64 a) := cell_call k1 hb
      replace k2 : w2.cell? ⟨w.heap.size, 1, none⟩ = some (.int .i64 b) := cell_call k2 hb
      replace k3 : w2.cell? ⟨w.heap.size + 1, 0, none⟩ = some (.int .i64 c) := cell_call k3 hb
      replace k4 : w2.cell? ⟨w.heap.size + 1, 1, none⟩ = some (.int .i64 d) := cell_call k4 hb
      replace k5 : w2.cell? ⟨w.heap.size + 1 + 1, 0, none⟩ = some (.int .i64 p) := cell_call k5 hb
      replace k6 : w2.cell? ⟨w.heap.size + 1 + 1, 1, none⟩ = some (.int .i64 q) := cell_call k6 hb
      replace k7 : w2.cell? ⟨w.heap.size + 1 + 1 + 1, 0, none⟩ = some (.int .i64 r) := cell_call k7 hb
      replace k8 : w2.cell? ⟨w.heap.size + 1 + 1 + 1, 1, none⟩ = some (.int .i64 s) := cell_call k8 hb
      replace hB := belT hB hb
      clear hb
      replace zk1 : w.heap.size < w2.heap.size := World.block_lt_of_cell? w2 _ k1
      replace zk3 : w.heap.size + 1 < w2.heap.size := World.block_lt_of_cell? w2 _ k3
      replace zk5 : w.heap.size + 1 + 1 < w2.heap.size := World.block_lt_of_cell? w2 _ k5
      replace zk7 : w.heap.size + 1 + 1 + 1 < w2.heap.size := World.block_lt_of_cell? w2 _ k7
      go_wp2_with fail
      go_ret
      exact ⟨ret_bool (by rw [E.out]; simp), hB⟩
  · have hB : Below w.heap.size w w := Below.refl _ _
    clear M1 M2
    go_enter Try.func68, Try.ntmps68
    go_wp2_with fail
    refine (ron_is a b c d p q true _ ka kb kc kd kp kq H1).mono ?_; rintro e w1 ⟨rfl, hb⟩
    have k1 : w1.cell? ⟨w.heap.size, 0, none⟩ = some (.int .i64 a) := cell_call (cell_alloc (cell_alloc (cell_alloc (cbx w #[.int .i64 a, .int .i64 b] 47 (w.heap.size) 0 (.int .i64 a) (by simp) rfl) _) _) _) hb
    have k2 : w1.cell? ⟨w.heap.size, 1, none⟩ = some (.int .i64 b) := cell_call (cell_alloc (cell_alloc (cell_alloc (cbx w #[.int .i64 a, .int .i64 b] 47 (w.heap.size) 1 (.int .i64 b) (by simp) rfl) _) _) _) hb
    have k3 : w1.cell? ⟨w.heap.size + 1, 0, none⟩ = some (.int .i64 c) := cell_call (cell_alloc (cell_alloc (cbx (w.alloc (.cells #[.int .i64 a, .int .i64 b] 47)) #[.int .i64 c, .int .i64 d] 47 (w.heap.size + 1) 0 (.int .i64 c) (by simp) rfl) _) _) hb
    have k4 : w1.cell? ⟨w.heap.size + 1, 1, none⟩ = some (.int .i64 d) := cell_call (cell_alloc (cell_alloc (cbx (w.alloc (.cells #[.int .i64 a, .int .i64 b] 47)) #[.int .i64 c, .int .i64 d] 47 (w.heap.size + 1) 1 (.int .i64 d) (by simp) rfl) _) _) hb
    have k5 : w1.cell? ⟨w.heap.size + 1 + 1, 0, none⟩ = some (.int .i64 p) := cell_call (cell_alloc (cbx ((w.alloc (.cells #[.int .i64 a, .int .i64 b] 47)).alloc (.cells #[.int .i64 c, .int .i64 d] 47)) #[.int .i64 p, .int .i64 q] 47 (w.heap.size + 1 + 1) 0 (.int .i64 p) (by simp) rfl) _) hb
    have k6 : w1.cell? ⟨w.heap.size + 1 + 1, 1, none⟩ = some (.int .i64 q) := cell_call (cell_alloc (cbx ((w.alloc (.cells #[.int .i64 a, .int .i64 b] 47)).alloc (.cells #[.int .i64 c, .int .i64 d] 47)) #[.int .i64 p, .int .i64 q] 47 (w.heap.size + 1 + 1) 1 (.int .i64 q) (by simp) rfl) _) hb
    have k7 : w1.cell? ⟨w.heap.size + 1 + 1 + 1, 0, none⟩ = some (.int .i64 r) := cell_call (cbx (((w.alloc (.cells #[.int .i64 a, .int .i64 b] 47)).alloc (.cells #[.int .i64 c, .int .i64 d] 47)).alloc (.cells #[.int .i64 p, .int .i64 q] 47)) #[.int .i64 r, .int .i64 s] 47 (w.heap.size + 1 + 1 + 1) 0 (.int .i64 r) (by simp) rfl) hb
    have k8 : w1.cell? ⟨w.heap.size + 1 + 1 + 1, 1, none⟩ = some (.int .i64 s) := cell_call (cbx (((w.alloc (.cells #[.int .i64 a, .int .i64 b] 47)).alloc (.cells #[.int .i64 c, .int .i64 d] 47)).alloc (.cells #[.int .i64 p, .int .i64 q] 47)) #[.int .i64 r, .int .i64 s] 47 (w.heap.size + 1 + 1 + 1) 1 (.int .i64 s) (by simp) rfl) hb
    replace hB := belT (belA (belA (belA (belA hB _) _) _) _) hb
    clear hb
    have zk1 : w.heap.size < w1.heap.size := World.block_lt_of_cell? w1 _ k1
    have zk3 : w.heap.size + 1 < w1.heap.size := World.block_lt_of_cell? w1 _ k3
    have zk5 : w.heap.size + 1 + 1 < w1.heap.size := World.block_lt_of_cell? w1 _ k5
    have zk7 : w.heap.size + 1 + 1 + 1 < w1.heap.size := World.block_lt_of_cell? w1 _ k7
    go_wp2_with fail
    go_ret
    exact ⟨ret_bool (by rw [E.out]; simp), hB⟩
end Go.Proofs.Ytojfonenpplahaa


