/- The hull of a valid polygon: its area, its box, what it shares with another. Mathematics alone. -/
import Derived.Test.YtojfonenpplahaaIyB
namespace Go.Proofs.Ytojfonenpplahaa
open Go.ChangeShapes Go.WideShapes Go.ChangeAt Go.RowKit
set_option linter.unusedVariables false
set_option linter.unusedSimpArgs false

/-! ### The number of its corners -/
theorem sub_len5 : ∀ (h l : List (Int × Int)), h.Nodup → (∀ q, q ∈ h → q ∈ l) → h.length ≤ l.length
  | [], l, _, _ => Nat.zero_le _
  | x :: h, l, hn, hs => by
    obtain ⟨hx', hn'⟩ := List.nodup_cons.1 hn
    have hx := hs x List.mem_cons_self
    have ih := sub_len5 h (l.erase x) hn' fun q hq => (List.mem_erase_of_ne (fun e => by rw [e] at hq; exact hx' hq)).2 (hs q (List.mem_cons_of_mem _ hq))
    have := List.length_erase_of_mem hx
    have := List.length_pos_of_mem hx
    rw [List.length_cons]
    omega
theorem hull_le {l h : List (Int × Int)} (hH : IsHull l h) : h.length ≤ l.length := by
  refine sub_len5 h l ?_ fun q hq => ?_
  · rw [List.Nodup, List.pairwise_iff_getElem]
    intro i j hi hj hij e
    have := conv_inj hH.1 hi hj (by rw [gp_lt hi, gp_lt hj]; exact e)
    omega
  · obtain ⟨i, hi, rfl⟩ := mem_gp hq
    exact hH.2.1 i hi
theorem valid_hull {a : List (Int × Int)} (h : validP a = true) : hullL a ≠ [] ∧ IsHull a (hullL a) := by
  rcases hull_cases a with ⟨_, k⟩ | k
  · exfalso
    have hG := (ccw_valid h).good
    obtain ⟨parts, hp⟩ := clips_ex a.length a rfl hG
    cases parts with
    | nil => cases hp
    | cons t r =>
      obtain ⟨t3, tD, tm⟩ := hp.part hG List.mem_cons_self
      match t, t3 with
      | [x, y, z], _ =>
        have := k x (tm x (by simp)) y (tm y (by simp)) z (tm z (by simp))
        have tD : 0 < dt x y z := tD
        omega
  · exact k
theorem hull_allV {a h : List (Int × Int)} (hH : IsHull a h) (hV : AllV a) : AllV h := allV_sub hV fun y hy => by
  obtain ⟨i, hi, rfl⟩ := mem_gp hy
  exact hH.2.1 i hi

/-! ### What lies in the polygon lies in its hull -/
theorem in_hull {a h : List (Int × Int)} (hA : Good a) (hH : IsHull a h) {N X Y : Int} (hN : 0 < N) (k : 0 ≤ locE (scL N a) X Y) : 0 ≤ locE (scL N h) X Y := by
  refine (conv_loc _ (scL N h) rfl (hH.1.sc hN) (X, Y)).2 fun i hi => ?_
  rw [scL_len] at hi ⊢
  rw [gp_sc, gp_sc]
  refine good_left (hA.sc hN) (c := 0) k fun y hy => ?_
  obtain ⟨p, hp, rfl⟩ := mem_sc.1 hy
  exact (nng_det hN _ _ _ _ _ _).2 (hH.2.2.1 i hi p hp)
theorem both_hull {a b h k : List (Int × Int)} (hA : Good a) (hB : Good b) (hH : IsHull a h) (hK : IsHull b k) (t : Both a b) : Both h k := by
  obtain ⟨N, X, Y, hN, k1, k2⟩ := t
  exact ⟨N, X, Y, hN, in_hull hA hH hN k1, in_hull hB hK hN k2⟩
theorem hull_least {a h : List (Int × Int)} (hH : IsHull a h) {u v : Int × Int} {c : Int} (hl : ∀ y, y ∈ h → c ≤ dt u v y) {q : Int × Int} (hq : q ∈ a) : c ≤ dt u v q :=
  good_left (conv_good hH.1) ((conv_loc _ h rfl hH.1 q).2 fun i hi => hH.2.2.1 i hi q hq) hl

/-! ### Boxes -/
theorem low_spec : ∀ (r : List (Int × Int)) (x : Int × Int), ((r.foldl lowP x).1 ≤ x.1 ∧ (r.foldl lowP x).2 ≤ x.2) ∧ (∀ p ∈ r, (r.foldl lowP x).1 ≤ p.1 ∧ (r.foldl lowP x).2 ≤ p.2) ∧ (∃ p ∈ x :: r, p.1 = (r.foldl lowP x).1) ∧ ∃ p ∈ x :: r, p.2 = (r.foldl lowP x).2
  | [], x => ⟨⟨Int.le_refl _, Int.le_refl _⟩, fun p hp => absurd hp List.not_mem_nil, ⟨x, List.mem_cons_self, rfl⟩, ⟨x, List.mem_cons_self, rfl⟩⟩
  | y :: r, x => by
    obtain ⟨h1, h2, ⟨p, hp, e1⟩, ⟨q, hq, e2⟩⟩ := low_spec r (lowP x y)
    have m1 := mnI_bd x.1 y.1
    have m2 := mnI_bd x.2 y.2
    have a1 : (lowP x y).1 = mnI x.1 y.1 := rfl
    have a2 : (lowP x y).2 = mnI x.2 y.2 := rfl
    rw [a1] at h1
    rw [a2] at h1
    refine ⟨⟨Int.le_trans h1.1 m1.1.1, Int.le_trans h1.2 m2.1.1⟩, fun z hz => ?_, ?_, ?_⟩
    · rcases List.mem_cons.1 hz with rfl | hz
      · exact ⟨Int.le_trans h1.1 m1.1.2, Int.le_trans h1.2 m2.1.2⟩
      · exact h2 z hz
    · show ∃ p ∈ x :: y :: r, p.1 = (r.foldl lowP (lowP x y)).1
      rcases List.mem_cons.1 hp with rfl | hp
      · rw [a1] at e1
        rcases m1.2 with g | g
        · exact ⟨x, by simp, by rw [← e1, g]⟩
        · exact ⟨y, by simp, by rw [← e1, g]⟩
      · exact ⟨p, by simp [hp], e1⟩
    · show ∃ p ∈ x :: y :: r, p.2 = (r.foldl lowP (lowP x y)).2
      rcases List.mem_cons.1 hq with rfl | hq
      · rw [a2] at e2
        rcases m2.2 with g | g
        · exact ⟨x, by simp, by rw [← e2, g]⟩
        · exact ⟨y, by simp, by rw [← e2, g]⟩
      · exact ⟨q, by simp [hq], e2⟩
theorem upp_spec : ∀ (r : List (Int × Int)) (x : Int × Int), (x.1 ≤ (r.foldl uppP x).1 ∧ x.2 ≤ (r.foldl uppP x).2) ∧ (∀ p ∈ r, p.1 ≤ (r.foldl uppP x).1 ∧ p.2 ≤ (r.foldl uppP x).2) ∧ (∃ p ∈ x :: r, p.1 = (r.foldl uppP x).1) ∧ ∃ p ∈ x :: r, p.2 = (r.foldl uppP x).2
  | [], x => ⟨⟨Int.le_refl _, Int.le_refl _⟩, fun p hp => absurd hp List.not_mem_nil, ⟨x, List.mem_cons_self, rfl⟩, ⟨x, List.mem_cons_self, rfl⟩⟩
  | y :: r, x => by
    obtain ⟨h1, h2, ⟨p, hp, e1⟩, ⟨q, hq, e2⟩⟩ := upp_spec r (uppP x y)
    have m1 := mxI_bd x.1 y.1
    have m2 := mxI_bd x.2 y.2
    have a1 : (uppP x y).1 = mxI x.1 y.1 := rfl
    have a2 : (uppP x y).2 = mxI x.2 y.2 := rfl
    rw [a1] at h1
    rw [a2] at h1
    refine ⟨⟨Int.le_trans m1.1.1 h1.1, Int.le_trans m2.1.1 h1.2⟩, fun z hz => ?_, ?_, ?_⟩
    · rcases List.mem_cons.1 hz with rfl | hz
      · exact ⟨Int.le_trans m1.1.2 h1.1, Int.le_trans m2.1.2 h1.2⟩
      · exact h2 z hz
    · show ∃ p ∈ x :: y :: r, p.1 = (r.foldl uppP (uppP x y)).1
      rcases List.mem_cons.1 hp with rfl | hp
      · rw [a1] at e1
        rcases m1.2 with g | g
        · exact ⟨x, by simp, by rw [← e1, g]⟩
        · exact ⟨y, by simp, by rw [← e1, g]⟩
      · exact ⟨p, by simp [hp], e1⟩
    · show ∃ p ∈ x :: y :: r, p.2 = (r.foldl uppP (uppP x y)).2
      rcases List.mem_cons.1 hq with rfl | hq
      · rw [a2] at e2
        rcases m2.2 with g | g
        · exact ⟨x, by simp, by rw [← e2, g]⟩
        · exact ⟨y, by simp, by rw [← e2, g]⟩
      · exact ⟨q, by simp [hq], e2⟩
theorem low_all {l : List (Int × Int)} (h : l ≠ []) : (∀ p ∈ l, (foldP lowP l).1 ≤ p.1 ∧ (foldP lowP l).2 ≤ p.2) ∧ (∃ p ∈ l, p.1 = (foldP lowP l).1) ∧ ∃ p ∈ l, p.2 = (foldP lowP l).2 := by
  match l, h with
  | x :: r, _ =>
    obtain ⟨h1, h2, h3, h4⟩ := low_spec r x
    exact ⟨fun p hp => (List.mem_cons.1 hp).elim (fun e => e ▸ h1) (h2 p), h3, h4⟩
theorem upp_all {l : List (Int × Int)} (h : l ≠ []) : (∀ p ∈ l, p.1 ≤ (foldP uppP l).1 ∧ p.2 ≤ (foldP uppP l).2) ∧ (∃ p ∈ l, p.1 = (foldP uppP l).1) ∧ ∃ p ∈ l, p.2 = (foldP uppP l).2 := by
  match l, h with
  | x :: r, _ =>
    obtain ⟨h1, h2, h3, h4⟩ := upp_spec r x
    exact ⟨fun p hp => (List.mem_cons.1 hp).elim (fun e => e ▸ h1) (h2 p), h3, h4⟩
theorem dt_x (c d : Int) (q : Int × Int) : dt (c, 0) (c, d) q = -d * (q.1 - c) := by unfold dt det; simp only; grind
theorem dt_y (c d : Int) (q : Int × Int) : dt (0, c) (d, c) q = d * (q.2 - c) := by unfold dt det; simp only; grind
theorem hull_box {a h : List (Int × Int)} (hH : IsHull a h) (ha : a ≠ []) : foldP lowP h = foldP lowP a ∧ foldP uppP h = foldP uppP a := by
  have hh : h ≠ [] := fun e => by have := hH.1.1; rw [e] at this; simp at this
  have sub : ∀ y, y ∈ h → y ∈ a := fun y hy => by obtain ⟨i, hi, rfl⟩ := mem_gp hy; exact hH.2.1 i hi
  obtain ⟨l1, ⟨p1, m1, e1⟩, ⟨p2, m2, e2⟩⟩ := low_all hh
  obtain ⟨k1, ⟨q1, n1, f1⟩, ⟨q2, n2, f2⟩⟩ := low_all ha
  obtain ⟨l3, ⟨p3, m3, e3⟩, ⟨p4, m4, e4⟩⟩ := upp_all hh
  obtain ⟨k3, ⟨q3, n3, f3⟩, ⟨q4, n4, f4⟩⟩ := upp_all ha
  have r1 := hull_least hH (u := ((foldP lowP h).1, 0)) (v := ((foldP lowP h).1, -1)) (c := 0) (fun y hy => by rw [dt_x]; have := l1 y hy; omega) n1
  have r2 := hull_least hH (u := (0, (foldP lowP h).2)) (v := (1, (foldP lowP h).2)) (c := 0) (fun y hy => by rw [dt_y]; have := l1 y hy; omega) n2
  have r3 := hull_least hH (u := ((foldP uppP h).1, 0)) (v := ((foldP uppP h).1, 1)) (c := 0) (fun y hy => by rw [dt_x]; have := l3 y hy; omega) n3
  have r4 := hull_least hH (u := (0, (foldP uppP h).2)) (v := (-1, (foldP uppP h).2)) (c := 0) (fun y hy => by rw [dt_y]; have := l3 y hy; omega) n4
  rw [dt_x] at r1 r3
  rw [dt_y] at r2 r4
  have s1 := k1 p1 (sub _ m1)
  have s2 := k1 p2 (sub _ m2)
  have s3 := k3 p3 (sub _ m3)
  have s4 := k3 p4 (sub _ m4)
  exact ⟨Prod.ext (by omega) (by omega), Prod.ext (by omega) (by omega)⟩
theorem hull_boxD {a b h k : List (Int × Int)} (hH : IsHull a h) (hK : IsHull b k) (ha : a ≠ []) (hb : b ≠ []) : boxD h k = boxD a b := by
  obtain ⟨e1, e2⟩ := hull_box hH ha
  obtain ⟨e3, e4⟩ := hull_box hK hb
  have h3 := hH.1.1
  have k3 := hK.1.1
  have a0 : a.length ≠ 0 := fun e => ha (List.eq_nil_of_length_eq_zero e)
  have b0 : b.length ≠ 0 := fun e => hb (List.eq_nil_of_length_eq_zero e)
  unfold boxD
  rw [if_neg (by omega), if_neg (by omega), e1, e2, e3, e4]
theorem mx_le {a b c : Int} (h1 : a ≤ c) (h2 : b ≤ c) : mxI a b ≤ c := by unfold mxI; split <;> omega
theorem gap_le {a b c d p q r s : Int} (h1 : p ≤ c) (h2 : q ≤ d) (h3 : a ≤ r) (h4 : b ≤ s) : gapI a b c d p q r s ≤ 0 := by
  show mxI (mxI (mxI (mxI 0 (p - c)) (q - d)) (a - r)) (b - s) ≤ 0
  exact mx_le (mx_le (mx_le (mx_le (by omega) (by omega)) (by omega)) (by omega)) (by omega)
theorem both_box {a b : List (Int × Int)} (hA : Good a) (hB : Good b) (t : Both a b) : boxD a b ≤ 0 := by
  obtain ⟨N, X, Y, hN, k1, k2⟩ := t
  have a3 := hA.1.1
  have b3 := hB.1.1
  have ha : a ≠ [] := fun e => by rw [e] at a3; simp at a3
  have hb : b ≠ [] := fun e => by rw [e] at b3; simp at b3
  have low : ∀ l : List (Int × Int), Good l → l ≠ [] → 0 ≤ locE (scL N l) X Y → (N * (foldP lowP l).1 ≤ X ∧ N * (foldP lowP l).2 ≤ Y) ∧ X ≤ N * (foldP uppP l).1 ∧ Y ≤ N * (foldP uppP l).2 := fun l hl hne k => by
    have e1 := (low_all hne).1
    have e2 := (upp_all hne).1
    have le : ∀ x y : Int, x ≤ y → N * x ≤ N * y := fun x y h => Int.mul_le_mul_of_nonneg_left h (by omega)
    have r1 := good_left (hl.sc hN) (q := (X, Y)) (a := (N * (foldP lowP l).1, 0)) (b := (N * (foldP lowP l).1, -1)) (c := 0) k (fun y hy => by
      obtain ⟨p, hp, rfl⟩ := mem_sc.1 hy
      rw [dt_x]; have := le _ _ (e1 p hp).1; simp only; omega)
    have r2 := good_left (hl.sc hN) (q := (X, Y)) (a := (0, N * (foldP lowP l).2)) (b := (1, N * (foldP lowP l).2)) (c := 0) k (fun y hy => by
      obtain ⟨p, hp, rfl⟩ := mem_sc.1 hy
      rw [dt_y]; have := le _ _ (e1 p hp).2; simp only; omega)
    have r3 := good_left (hl.sc hN) (q := (X, Y)) (a := (N * (foldP uppP l).1, 0)) (b := (N * (foldP uppP l).1, 1)) (c := 0) k (fun y hy => by
      obtain ⟨p, hp, rfl⟩ := mem_sc.1 hy
      rw [dt_x]; have := le _ _ (e2 p hp).1; simp only; omega)
    have r4 := good_left (hl.sc hN) (q := (X, Y)) (a := (0, N * (foldP uppP l).2)) (b := (-1, N * (foldP uppP l).2)) (c := 0) k (fun y hy => by
      obtain ⟨p, hp, rfl⟩ := mem_sc.1 hy
      rw [dt_y]; have := le _ _ (e2 p hp).2; simp only; omega)
    rw [dt_x] at r1 r3
    rw [dt_y] at r2 r4
    simp only at r1 r2 r3 r4
    omega
  obtain ⟨⟨x1, y1⟩, x2, y2⟩ := low a hA ha k1
  obtain ⟨⟨x3, y3⟩, x4, y4⟩ := low b hB hb k2
  have cn : ∀ x y : Int, N * x ≤ N * y → x ≤ y := fun x y h => Int.le_of_mul_le_mul_left h hN
  unfold boxD
  rw [if_neg (by omega)]
  exact gap_le (cn _ _ (by omega)) (cn _ _ (by omega)) (cn _ _ (by omega)) (cn _ _ (by omega))

/-! ### Areas -/
def errA (ps : List (Int × Int)) : Int := sumE (fun i => ((cx ps (nx ps.length i) - cx ps i).natAbs + 2 * (cy ps (nx ps.length i) - cy ps i).natAbs : Int)) (List.range ps.length)
def sqW (ps : List (Int × Int)) (K : Nat) : Int := sumE (fun y => sumE (fun x => wnd ps ((x : Int) - K) ((y : Int) - K)) (List.range (2 * K))) (List.range (2 * K))
theorem square_sum2 (ps : List (Int × Int)) (h0 : 0 < ps.length) (K : Nat) (hK : ∀ i, i < ps.length → (-(K : Int) ≤ cx ps i ∧ cx ps i ≤ K) ∧ -(K : Int) ≤ cy ps i ∧ cy ps i ≤ K) : 2 * sqW ps K ≤ area2 ps + errA ps := by
  have sw : sqW ps K = sumE (fun i => sumE (fun y => sumE (fun x => wEi ps ((x : Int) - K) ((y : Int) - K) i) (List.range (2 * K))) (List.range (2 * K))) (List.range ps.length) := by
    have a : sqW ps K = sumE (fun y => sumE (fun i => sumE (fun x => wEi ps ((x : Int) - K) ((y : Int) - K) i) (List.range (2 * K))) (List.range ps.length)) (List.range (2 * K)) := sumE_congr fun y _ => sumE_comm (fun x i => wEi ps ((x : Int) - K) ((y : Int) - K) i) (List.range (2 * K)) (List.range ps.length)
    rw [a]
    exact sumE_comm (fun y i => sumE (fun x => wEi ps ((x : Int) - K) ((y : Int) - K) i) (List.range (2 * K))) (List.range (2 * K)) (List.range ps.length)
  unfold errA
  rw [sw, ← sumE_mul, area_other ps h0, ← sumE_add]
  have r : sumE (fun i => (fun i => 2 * (K : Int) * cy ps i) (nx ps.length i) - (fun i => 2 * (K : Int) * cy ps i) i) (List.range ps.length) = 0 := sum_round (fun i => 2 * (K : Int) * cy ps i) ps.length h0
  have le := sumE_le (f := fun i => 2 * sumE (fun y => sumE (fun x => wEi ps ((x : Int) - K) ((y : Int) - K) i) (List.range (2 * K))) (List.range (2 * K))) (g := fun i => (fun i => (cx ps i + cx ps (nx ps.length i)) * (cy ps (nx ps.length i) - cy ps i) + ((cx ps (nx ps.length i) - cx ps i).natAbs + 2 * (cy ps (nx ps.length i) - cy ps i).natAbs : Int)) i + (fun i => 2 * (K : Int) * cy ps (nx ps.length i) - 2 * (K : Int) * cy ps i) i) (List.range ps.length) fun i hi => by
    have hi := List.mem_range.1 hi
    have hj := nx_lt' hi
    have t := edge_total K (hK _ hj).1 (hK _ hj).2 (hK i hi).1 (hK i hi).2
    have e1 : sumE (fun y => sumE (fun x => wE (cx ps (nx ps.length i)) (cy ps (nx ps.length i)) (cx ps i) (cy ps i) (((x : Nat) : Int) - K) (((y : Nat) : Int) - K)) (List.range (2 * K))) (List.range (2 * K)) = -sumE (fun y => sumE (fun x => wEi ps ((x : Int) - K) ((y : Int) - K) i) (List.range (2 * K))) (List.range (2 * K)) := by
      rw [← sumE_neg]
      exact sumE_congr fun y _ => by
        rw [← sumE_neg]
        exact sumE_congr fun x _ => wE_rev _ _ _ _ _ _
    rw [e1] at t
    show 2 * sumE (fun y => sumE (fun x => wEi ps ((x : Int) - K) ((y : Int) - K) i) (List.range (2 * K))) (List.range (2 * K)) ≤ (cx ps i + cx ps (nx ps.length i)) * (cy ps (nx ps.length i) - cy ps i) + ((cx ps (nx ps.length i) - cx ps i).natAbs + 2 * (cy ps (nx ps.length i) - cy ps i).natAbs : Int) + (2 * (K : Int) * cy ps (nx ps.length i) - 2 * (K : Int) * cy ps i)
    generalize sumE (fun y => sumE (fun x => wEi ps ((x : Int) - K) ((y : Int) - K) i) (List.range (2 * K))) (List.range (2 * K)) = Q at *
    generalize cx ps i = a at *
    generalize cy ps i = b at *
    generalize cx ps (nx ps.length i) = c at *
    generalize cy ps (nx ps.length i) = d at *
    have f1 : (c + a) * (b - d) = -((a + c) * (d - b)) := by grind
    have f2 : 2 * (K : Int) * (b - d) = -(2 * (K : Int) * d - 2 * (K : Int) * b) := by grind
    rw [f1, f2] at t
    have n1 : (a - c).natAbs = (c - a).natAbs := by omega
    have n2 : (b - d).natAbs = (d - b).natAbs := by omega
    rw [n1, n2] at t
    omega
  rw [sumE_add, show sumE (fun i => 2 * (K : Int) * cy ps (nx ps.length i) - 2 * (K : Int) * cy ps i) (List.range ps.length) = 0 from r, Int.add_zero] at le
  exact le
theorem err_sc {N : Int} (hN : 0 < N) (ps : List (Int × Int)) : errA (scL N ps) = N * errA ps := by
  unfold errA
  rw [← sumE_mul, scL_len]
  exact sumE_congr fun i _ => by
    rw [(scL_at N ps i).1, (scL_at N ps i).2, (scL_at N ps _).1, (scL_at N ps _).2, ← Int.mul_sub, ← Int.mul_sub, Int.natAbs_mul, Int.natAbs_mul]
    have : ((N.natAbs : Nat) : Int) = N := by omega
    rw [Int.natCast_mul, Int.natCast_mul, this]
    grind
/-- Where the winding number is nowhere larger, at no scale, the area is not either. -/
theorem area_le {ps qs : List (Int × Int)} (h0 : 0 < ps.length) (h1 : 0 < qs.length) (h : ∀ N p q : Int, 0 < N → wnd (scL N ps) p q ≤ wnd (scL N qs) p q) : area2 ps ≤ area2 qs := by
  have nn : ∀ ps : List (Int × Int), 0 ≤ errA ps := fun ps => by
    have := sumE_le (f := fun _ => 0) (List.range ps.length) (fun i _ => show (0 : Int) ≤ ((cx ps (nx ps.length i) - cx ps i).natAbs + 2 * (cy ps (nx ps.length i) - cy ps i).natAbs : Int) by omega)
    rwa [sumE_zero _ _ (fun _ _ => rfl)] at this
  have c1 := nn ps
  have c2 := nn qs
  obtain ⟨N, hN⟩ : ∃ N, errA ps + errA qs + 1 = N := ⟨_, rfl⟩
  have N0 : 0 < N := by omega
  obtain ⟨K1, hK1⟩ := ex_K (scL N ps)
  obtain ⟨K2, hK2⟩ := ex_K (scL N qs)
  obtain ⟨K, k1, k2⟩ : ∃ K : Nat, K1 ≤ K ∧ K2 ≤ K := ⟨K1 + K2, by omega, by omega⟩
  have s1 := square_sum (scL N ps) (by rw [scL_len]; exact h0) K fun i hi => by have := hK1 i hi; omega
  have s2 := square_sum2 (scL N qs) (by rw [scL_len]; exact h1) K fun i hi => by have := hK2 i hi; omega
  have s1' : area2 (scL N ps) - errA (scL N ps) ≤ 2 * sqW (scL N ps) K := s1
  have le : sqW (scL N ps) K ≤ sqW (scL N qs) K := sumE_le _ fun y _ => sumE_le _ fun x _ => h N _ _ N0
  rw [area_sc, err_sc N0] at s1' s2
  rcases Int.lt_or_le (area2 qs) (area2 ps) with g | g
  · exfalso
    have l1 : N * (N * 1) ≤ N * (N * (area2 ps - area2 qs)) := Int.mul_le_mul_of_nonneg_left (Int.mul_le_mul_of_nonneg_left (by omega) (by omega)) (by omega)
    have l2 : N * (N * (area2 ps - area2 qs)) = N * (N * area2 ps) - N * (N * area2 qs) := by grind
    have l3 : N * errA ps + N * errA qs = N * (N - 1) := by rw [← hN]; grind
    have l4 : N * (N - 1) = N * (N * 1) - N := by grind
    omega
  · exact g
theorem hull_wnd {a h : List (Int × Int)} (hA : Good a) (hC : Good h) (hin : ∀ N X Y : Int, 0 < N → 0 ≤ locE (scL N a) X Y → 0 ≤ locE (scL N h) X Y) (p q : Int) : wnd a p q ≤ wnd h p q := by
  rcases hA.wnd p q with g | g
  · have := hC.wnd p q; omega
  · obtain ⟨m1, m10, hm1⟩ := ex_bd (fun i => cx a (nx a.length i) - cx a i) (fun i => cy a (nx a.length i) - cy a i) a.length
    obtain ⟨m2, m20, hm2⟩ := ex_bd (fun i => cx h (nx h.length i) - cx h i) (fun i => cy h (nx h.length i) - cy h i) h.length
    obtain ⟨m, hm, e1, e2⟩ : ∃ m : Int, 0 < m ∧ m1 ≤ m ∧ m2 ≤ m := ⟨m1 + m2, by omega, by omega, by omega⟩
    have ba := fun i hi => by have := hm1 i hi; exact (show (-m < cx a (nx a.length i) - cx a i ∧ cx a (nx a.length i) - cx a i < m) ∧ -m < cy a (nx a.length i) - cy a i ∧ cy a (nx a.length i) - cy a i < m by omega)
    have bh := fun i hi => by have := hm2 i hi; exact (show (-m < cx h (nx h.length i) - cx h i ∧ cx h (nx h.length i) - cx h i < m) ∧ -m < cy h (nx h.length i) - cy h i ∧ cy h (nx h.length i) - cy h i < m by omega)
    obtain ⟨M, hM⟩ : ∃ M, m * m + m + 2 = M := ⟨_, rfl⟩
    have mm : 0 ≤ m * m := sq_nn m
    have M0 : 0 < M := by omega
    have w1 := shift_wnd hm (by omega : m * m + m + 2 ≤ M) ba p q
    have w2 := shift_wnd hm (by omega : m * m + m + 2 ≤ M) bh p q
    have o1 := fun i (hi : i < (scL M a).length) => shift_off hm (by omega : m * m + m + 2 ≤ M) ba hi p q
    have o2 := fun i (hi : i < (scL M h).length) => shift_off hm (by omega : m * m + m + 2 ≤ M) bh hi p q
    have l1 : locE (scL M a) (M * p + m) (M * q + 1) = 1 := (loc_oneG (hA.sc M0)).2 ⟨o1, by rw [w1]; exact g⟩
    have l2 := hin M _ _ M0 (by rw [l1]; decide)
    rcases loc_three (scL M h) (M * p + m) (M * q + 1) with k | k | k
    · obtain ⟨i, hi, e⟩ := loc_zero.1 k
      rw [o2 i hi] at e; cases e
    · have := ((loc_oneG (hC.sc M0)).1 k).2
      rw [w2] at this
      omega
    · omega
theorem hull_area {a h : List (Int × Int)} (hA : Good a) (hH : IsHull a h) : area2 a ≤ area2 h := by
  have a3 := hA.1.1
  have h3 := hH.1.1
  refine area_le (by omega) (by omega) fun N p q hN => hull_wnd (hA.sc hN) ((conv_good hH.1).sc hN) (fun M X Y hM k => ?_) p q
  rw [scL_scL] at k ⊢
  exact in_hull hA hH (Int.mul_pos hM hN) k
end Go.Proofs.Ytojfonenpplahaa
