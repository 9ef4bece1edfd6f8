/- Helpers: what the law reaches. -/
import Derived.Test.YtalhkcmlacppjaaGreatDoorZlSwE
import Derived.Test.YtalhkcmlacppjaaGreatDoorZlHuD
import Derived.Test.YtalhkcmlacppjaaGreatDoorZlAmA
import Derived.Test.YtalhkcmlacppjaaGreatDoorZlIuB
import Derived.Test.YtalhkcmlacppjaaGreatDoorZlAmV
import Derived.Test.YtalhkcmlacppjaaGreatDoorZlIxF
import Derived.Test.YtalhkcmlacppjaaGreatDoorZlHlC
import Derived.Test.YtalhkcmlacppjaaGreatDoorZlHs
namespace Go.Proofs.YtalhkcmlacppjaaGreatDoor
open Go.ChangeShapes Go.WideShapes Go.ChangeAt Go.RowKit
set_option linter.unusedVariables false
set_option linter.unusedSimpArgs false
theorem sub_len5 : ∀ (h l : List (Int × Int)), h.Nodup → (∀ q, q ∈ h → q ∈ l) → h.length ≤ l.length
  | [], l, _, _ => Nat.zero_le _
  | x :: h, l, hn, hs => by
    obtain ⟨hx', hn'⟩ := List.nodup_cons.1 hn
    have hx := hs x List.mem_cons_self
    have ih := sub_len5 h (l.erase x) hn' fun q hq => (List.mem_erase_of_ne (fun e => by rw [e] at hq; exact hx' hq)).2 (hs q (List.mem_cons_of_mem _ hq))
    have := List.length_erase_of_mem hx
    have := List.length_pos_of_mem hx
    rw [List.length_cons]
    omega
theorem hull_le {l h : List (Int × Int)} (hH : IsHull l h) : h.length ≤ l.length := by
  refine sub_len5 h l ?_ fun q hq => ?_
  · rw [List.Nodup, List.pairwise_iff_getElem]
    intro i j hi hj hij e
    have := conv_inj hH.1 hi hj (by rw [gp_lt hi, gp_lt hj]; exact e)
    omega
  · obtain ⟨i, hi, rfl⟩ := mem_gp hq
    exact hH.2.1 i hi
theorem allV_sub {ps t : List (Int × Int)} (h : AllV ps) (hs : ∀ y, y ∈ t → y ∈ ps) : AllV t := (allV_iff t).2 fun q hq => (allV_iff ps).1 h q (hs q hq)
theorem hull_allV {a h : List (Int × Int)} (hH : IsHull a h) (hV : AllV a) : AllV h := allV_sub hV fun y hy => by
  obtain ⟨i, hi, rfl⟩ := mem_gp hy
  exact hH.2.1 i hi

theorem low_spec : ∀ (r : List (Int × Int)) (x : Int × Int), ((r.foldl lowP x).1 ≤ x.1 ∧ (r.foldl lowP x).2 ≤ x.2) ∧ (∀ p ∈ r, (r.foldl lowP x).1 ≤ p.1 ∧ (r.foldl lowP x).2 ≤ p.2) ∧ (∃ p ∈ x :: r, p.1 = (r.foldl lowP x).1) ∧ ∃ p ∈ x :: r, p.2 = (r.foldl lowP x).2
  | [], x => ⟨⟨Int.le_refl _, Int.le_refl _⟩, fun p hp => absurd hp List.not_mem_nil, ⟨x, List.mem_cons_self, rfl⟩, ⟨x, List.mem_cons_self, rfl⟩⟩
  | y :: r, x => by
    obtain ⟨h1, h2, ⟨p, hp, e1⟩, ⟨q, hq, e2⟩⟩ := low_spec r (lowP x y)
    have m1 := mnI_bd x.1 y.1
    have m2 := mnI_bd x.2 y.2
    have a1 : (lowP x y).1 = mnI x.1 y.1 := rfl
    have a2 : (lowP x y).2 = mnI x.2 y.2 := rfl
    rw [a1] at h1
    rw [a2] at h1
    refine ⟨⟨Int.le_trans h1.1 m1.1.1, Int.le_trans h1.2 m2.1.1⟩, fun z hz => ?_, ?_, ?_⟩
    · rcases List.mem_cons.1 hz with rfl | hz
      · exact ⟨Int.le_trans h1.1 m1.1.2, Int.le_trans h1.2 m2.1.2⟩
      · exact h2 z hz
    · show ∃ p ∈ x :: y :: r, p.1 = (r.foldl lowP (lowP x y)).1
      rcases List.mem_cons.1 hp with rfl | hp
      · rw [a1] at e1
        rcases m1.2 with g | g
        · exact ⟨x, by simp, by rw [← e1, g]⟩
        · exact ⟨y, by simp, by rw [← e1, g]⟩
      · exact ⟨p, by simp [hp], e1⟩
    · show ∃ p ∈ x :: y :: r, p.2 = (r.foldl lowP (lowP x y)).2
      rcases List.mem_cons.1 hq with rfl | hq
      · rw [a2] at e2
        rcases m2.2 with g | g
        · exact ⟨x, by simp, by rw [← e2, g]⟩
        · exact ⟨y, by simp, by rw [← e2, g]⟩
      · exact ⟨q, by simp [hq], e2⟩
theorem upp_spec : ∀ (r : List (Int × Int)) (x : Int × Int), (x.1 ≤ (r.foldl uppP x).1 ∧ x.2 ≤ (r.foldl uppP x).2) ∧ (∀ p ∈ r, p.1 ≤ (r.foldl uppP x).1 ∧ p.2 ≤ (r.foldl uppP x).2) ∧ (∃ p ∈ x :: r, p.1 = (r.foldl uppP x).1) ∧ ∃ p ∈ x :: r, p.2 = (r.foldl uppP x).2
  | [], x => ⟨⟨Int.le_refl _, Int.le_refl _⟩, fun p hp => absurd hp List.not_mem_nil, ⟨x, List.mem_cons_self, rfl⟩, ⟨x, List.mem_cons_self, rfl⟩⟩
  | y :: r, x => by
    obtain ⟨h1, h2, ⟨p, hp, e1⟩, ⟨q, hq, e2⟩⟩ := upp_spec r (uppP x y)
    have m1 := mxI_bd x.1 y.1
    have m2 := mxI_bd x.2 y.2
    have a1 : (uppP x y).1 = mxI x.1 y.1 := rfl
    have a2 : (uppP x y).2 = mxI x.2 y.2 := rfl
    rw [a1] at h1
    rw [a2] at h1
    refine ⟨⟨Int.le_trans m1.1.1 h1.1, Int.le_trans m2.1.1 h1.2⟩, fun z hz => ?_, ?_, ?_⟩
    · rcases List.mem_cons.1 hz with rfl | hz
      · exact ⟨Int.le_trans m1.1.2 h1.1, Int.le_trans m2.1.2 h1.2⟩
      · exact h2 z hz
    · show ∃ p ∈ x :: y :: r, p.1 = (r.foldl uppP (uppP x y)).1
      rcases List.mem_cons.1 hp with rfl | hp
      · rw [a1] at e1
        rcases m1.2 with g | g
        · exact ⟨x, by simp, by rw [← e1, g]⟩
        · exact ⟨y, by simp, by rw [← e1, g]⟩
      · exact ⟨p, by simp [hp], e1⟩
    · show ∃ p ∈ x :: y :: r, p.2 = (r.foldl uppP (uppP x y)).2
      rcases List.mem_cons.1 hq with rfl | hq
      · rw [a2] at e2
        rcases m2.2 with g | g
        · exact ⟨x, by simp, by rw [← e2, g]⟩
        · exact ⟨y, by simp, by rw [← e2, g]⟩
      · exact ⟨q, by simp [hq], e2⟩
theorem low_all {l : List (Int × Int)} (h : l ≠ []) : (∀ p ∈ l, (foldP lowP l).1 ≤ p.1 ∧ (foldP lowP l).2 ≤ p.2) ∧ (∃ p ∈ l, p.1 = (foldP lowP l).1) ∧ ∃ p ∈ l, p.2 = (foldP lowP l).2 := by
  match l, h with
  | x :: r, _ =>
    obtain ⟨h1, h2, h3, h4⟩ := low_spec r x
    exact ⟨fun p hp => (List.mem_cons.1 hp).elim (fun e => e ▸ h1) (h2 p), h3, h4⟩
theorem upp_all {l : List (Int × Int)} (h : l ≠ []) : (∀ p ∈ l, p.1 ≤ (foldP uppP l).1 ∧ p.2 ≤ (foldP uppP l).2) ∧ (∃ p ∈ l, p.1 = (foldP uppP l).1) ∧ ∃ p ∈ l, p.2 = (foldP uppP l).2 := by
  match l, h with
  | x :: r, _ =>
    obtain ⟨h1, h2, h3, h4⟩ := upp_spec r x
    exact ⟨fun p hp => (List.mem_cons.1 hp).elim (fun e => e ▸ h1) (h2 p), h3, h4⟩
theorem dt_x (c d : Int) (q : Int × Int) : dt (c, 0) (c, d) q = -d * (q.1 - c) := by unfold dt det; simp only; grind
theorem dt_y (c d : Int) (q : Int × Int) : dt (0, c) (d, c) q = d * (q.2 - c) := by unfold dt det; simp only; grind
theorem mx_le {a b c : Int} (h1 : a ≤ c) (h2 : b ≤ c) : mxI a b ≤ c := by unfold mxI; split <;> omega
theorem gap_le {a b c d p q r s : Int} (h1 : p ≤ c) (h2 : q ≤ d) (h3 : a ≤ r) (h4 : b ≤ s) : gapI a b c d p q r s ≤ 0 := by
  show mxI (mxI (mxI (mxI 0 (p - c)) (q - d)) (a - r)) (b - s) ≤ 0
  exact mx_le (mx_le (mx_le (mx_le (by omega) (by omega)) (by omega)) (by omega)) (by omega)
theorem both_box {a b : List (Int × Int)} (hA : Good a) (hB : Good b) (t : Both a b) : boxD a b ≤ 0 := by
  obtain ⟨N, X, Y, hN, k1, k2⟩ := t
  have a3 := hA.1.1
  have b3 := hB.1.1
  have ha : a ≠ [] := fun e => by rw [e] at a3; simp at a3
  have hb : b ≠ [] := fun e => by rw [e] at b3; simp at b3
  have low : ∀ l : List (Int × Int), Good l → l ≠ [] → 0 ≤ locE (scL N l) X Y → (N * (foldP lowP l).1 ≤ X ∧ N * (foldP lowP l).2 ≤ Y) ∧ X ≤ N * (foldP uppP l).1 ∧ Y ≤ N * (foldP uppP l).2 := fun l hl hne k => by
    have e1 := (low_all hne).1
    have e2 := (upp_all hne).1
    have le : ∀ x y : Int, x ≤ y → N * x ≤ N * y := fun x y h => Int.mul_le_mul_of_nonneg_left h (by omega)
    have r1 := good_left (hl.sc hN) (q := (X, Y)) (a := (N * (foldP lowP l).1, 0)) (b := (N * (foldP lowP l).1, -1)) (c := 0) k (fun y hy => by
      obtain ⟨p, hp, rfl⟩ := mem_sc.1 hy
      rw [dt_x]; have := le _ _ (e1 p hp).1; simp only; omega)
    have r2 := good_left (hl.sc hN) (q := (X, Y)) (a := (0, N * (foldP lowP l).2)) (b := (1, N * (foldP lowP l).2)) (c := 0) k (fun y hy => by
      obtain ⟨p, hp, rfl⟩ := mem_sc.1 hy
      rw [dt_y]; have := le _ _ (e1 p hp).2; simp only; omega)
    have r3 := good_left (hl.sc hN) (q := (X, Y)) (a := (N * (foldP uppP l).1, 0)) (b := (N * (foldP uppP l).1, 1)) (c := 0) k (fun y hy => by
      obtain ⟨p, hp, rfl⟩ := mem_sc.1 hy
      rw [dt_x]; have := le _ _ (e2 p hp).1; simp only; omega)
    have r4 := good_left (hl.sc hN) (q := (X, Y)) (a := (0, N * (foldP uppP l).2)) (b := (-1, N * (foldP uppP l).2)) (c := 0) k (fun y hy => by
      obtain ⟨p, hp, rfl⟩ := mem_sc.1 hy
      rw [dt_y]; have := le _ _ (e2 p hp).2; simp only; omega)
    rw [dt_x] at r1 r3
    rw [dt_y] at r2 r4
    simp only at r1 r2 r3 r4
    omega
  obtain ⟨⟨x1, y1⟩, x2, y2⟩ := low a hA ha k1
  obtain ⟨⟨x3, y3⟩, x4, y4⟩ := low b hB hb k2
  have cn : ∀ x y : Int, N * x ≤ N * y → x ≤ y := fun x y h => Int.le_of_mul_le_mul_left h hN
  unfold boxD
  rw [if_neg (by omega)]
  exact gap_le (cn _ _ (by omega)) (cn _ _ (by omega)) (cn _ _ (by omega)) (cn _ _ (by omega))

/-- Convex polygons that have a point in common meet. -/
theorem touch_point {a b : List (Int × Int)} (hA : Conv a) (hB : Conv b) {p : Int × Int} (h1 : 0 ≤ locE a p.1 p.2) (h2 : 0 ≤ locE b p.1 p.2) : touchB a b = true :=
  touch_of (conv_good hA) (conv_good hB) ⟨1, p.1, p.2, by omega, by rw [scL_one]; exact h1, by rw [scL_one]; exact h2⟩
/-- What meets a polygon meets a convex one that holds it. -/
theorem touch_wide {a b s : List (Int × Int)} (hA : Good a) (hB : Good b) (hS : Conv s) (hin : ∀ q, q ∈ a → inAll s q) (h : touchB a b = true) : touchB s b = true := by
  obtain ⟨N, X, Y, hN, h1, h2⟩ := both_of h
  refine touch_of (conv_good hS) hB ⟨N, X, Y, hN, ?_, h2⟩
  refine (conv_loc _ (scL N s) rfl (hS.sc hN) (X, Y)).2 fun i hi => ?_
  rw [scL_len] at hi ⊢
  rw [gp_sc, gp_sc]
  refine good_left (hA.sc hN) (c := 0) h1 fun y hy => ?_
  obtain ⟨p, hp, rfl⟩ := mem_sc.1 hy
  exact (nng_det hN _ _ _ _ _ _).2 (hin p hp i hi)
end Go.Proofs.YtalhkcmlacppjaaGreatDoor

namespace Go.Proofs.YtalhkcmlacppjaaGreatDoor
open Go.ChangeShapes Go.WideShapes Go.ChangeAt Go.RowKit
set_option linter.unusedVariables false
set_option linter.unusedSimpArgs false
set_option maxRecDepth 100000
/-- What the laws ask of a link's body. -/
def good4 (L : List (Int × Int)) : Prop := Conv L ∧ validP L = true ∧ AllV L ∧ L.length = 4
theorem one_link {c d e f n u v W : Int} (hn : 1 ≤ n) (hW : 1 ≤ W) (hu : u * u + v * v = 4394000 * 4394000) (he : c + n * u = e ∧ d + n * v = f) (B : ∀ p ∈ bodL c d e f (W * u) (W * v), InV p.1 ∧ InV p.2) : good4 (bodL c d e f (W * u) (W * v)) := by
  obtain ⟨rfl, rfl⟩ := he
  have hp : 0 < n * W := Int.mul_pos (by omega) (by omega)
  have hC : Conv (bodL c d (c + n * u) (d + n * v) (W * u) (W * v)) := by
    rw [bod_rect]
    exact rect_conv _ _ (by omega) (by omega) (by simp only; omega)
  have hA0 : 0 < area2 (bodL c d (c + n * u) (d + n * v) (W * u) (W * v)) := by
    rw [bod_rect, rect_area]
    simp only
    rw [hu]
    omega
  exact ⟨hC, conv_valid hC (by show 4 ≤ 12; omega) (allv_mem B) hA0, allv_mem B, rfl⟩
section
variable {X Y n0 n1 n2 W l0 l1 l2 h0 h1 h2 q0 q1 q2 x1 x2 x3 y1 y2 y3 u1 u2 u3 v1 v2 v3 a1 a2 a3 b1 b2 b3 : Int}
theorem pose_links (P : Pose X Y n0 n1 n2 q0 q1 q2 x1 x2 x3 y1 y2 y3 u1 u2 u3 v1 v2 v3 a1 a2 a3 b1 b2 b3) (V : armB X Y n0 n1 n2 W l0 l1 l2 h0 h1 h2 = true) : good4 (bodL X Y a1 b1 (W * u1) (W * v1)) ∧ good4 (bodL a1 b1 a2 b2 (W * u2) (W * v2)) ∧ good4 (bodL a2 b2 a3 b3 (W * u3) (W * v3)) := by
  have v := ((armB_iff X Y n0 n1 n2 W l0 l1 l2 h0 h1 h2).1 V).1
  obtain ⟨_, m1, m2, m3⟩ := pose_len P
  obtain ⟨c1, c2, c3, _⟩ := pose_corn P V
  exact ⟨one_link (n := n0) (by omega) (by omega) m1 P.g1 c1, one_link (n := n1) (by omega) (by omega) m2 P.g2 c2, one_link (n := n2) (by omega) (by omega) m3 P.g3 c3⟩
end
end Go.Proofs.YtalhkcmlacppjaaGreatDoor

namespace Go.Proofs.YtalhkcmlacppjaaGreatDoor
open Go.ChangeShapes Go.WideShapes Go.ChangeAt Go.RowKit
set_option linter.unusedVariables false
set_option linter.unusedSimpArgs false
set_option maxRecDepth 100000

theorem append_types {P : Program} {t t2 ty e e2 : TypeId} (ht : P.underlying t = some (.slice e)) (ht2 : P.underlying t2 = some (.slice e2)) (a b : Value) (w : World) : (Builtin.append_ #[t, t2] ty #[a, b]).run P w = (Builtin.append_ #[t, t] ty #[a, b]).run P w := by
  unfold Builtin.append_
  cases a <;> simp [run_underlying ht, run_underlying ht2]
/-- An append of the corners of a polygon to a list of points: the two types differ by name. -/
theorem wpList_append_two {P : Program} {w : World} {ops : Array Oper} {rest : List Oper} {o : Oper} {a : Act} {Q : Exit → Act → World → Prop} (hgd : o.guard = none) (s x : Operand) (t t2 : TypeId)
    (ho : o.op = .call { callee := .builtin .append, args := #[s, x], argTypes := #[t, t2] })
    (base : Nat) (i : TypeInfo) (z : Value) (ht : P.underlying t = some (.slice 23)) (ht2 : P.underlying t2 = some (.slice 23)) (hi : P.info? 23 = some i) (hz : i.zero = some z)
    (hsize : i.size = 2) (hby : i.bytes = 16) (hzs : z.cells.size = 2)
    (v : Value) (n : Nat) (xs : List Value) (hs : a.eval s = v) (hown : w.ownsRow base 23 2 v n xs)
    (g m c : Nat) (l : List (Int × Int)) (hx : a.eval x = .slice (some ⟨g, 0, none⟩) m c) (hl : l.length = m) (hP : PRow w (some ⟨g, 0, none⟩) l)
    (h63 : n + m ≤ 1000000) (hbase : base ≤ w.heap.size)
    (h : ∀ v' w', w'.ownsRow base 23 2 v' (n + m) (xs ++ flat l) → w.grownBy w' v.ownBlock → wpList P ops Q rest (a.put o.dst v') w') : wpList P ops Q (o :: rest) a w := by
  subst hl
  obtain ⟨v', w', hr, h2, h3, h4⟩ := run_append_own (P := P) w base t o.type 23 i z 2 16 ht hi hz hsize hby hzs (by decide) v n xs hown ⟨g, 0, none⟩ l.length c (flat l) (flat_len l) (prow_flat hP) (flat_one l) (by unfold maxLen; omega) (by omega) hbase
  refine wpList_plain hgd fun K hK => ?_
  unfold Oper.wp execOp
  simp only [ho, resolve, invoke, builtin, Sem.run_bind, Sem.run_pure, Result.andThen_ok, List.map_toArray, List.map_cons, List.map_nil, hs, hx, append_types ht ht2, hr]
  exact hK _ _ (h v' w' h2 h3)
theorem boxd_at (ao bo : Option Addr) (n m ca cb : Nat) (la lb : List (Int × Int)) (d : Int) (w : World) (hn : la.length = n) (hm : lb.length = m) (hd : Hid (boxD la lb = d)) (h1 : n ≤ 12) (h2 : m ≤ 12) (ra : PRow w ao la) (rb : PRow w bo lb) (ia : AllR2 la) (ib : AllR2 lb) :
    Calls Tryz.prog 17 #[.slice ao n ca, .slice bo m cb] w fun e w' => e = .returned (.int .i64 d) ∧ Below w.heap.size w w' := by
  subst hn hm
  have := boxdist_any ao bo ca cb la lb w (by omega) (by omega) ra rb ia ib
  rw [hd.out] at this
  exact this
/-- What the laws ask of the body of the link from (c, d) to (e, f). -/
def link4 (L : List (Int × Int)) (c d e f : Int) : Prop := Conv L ∧ validP L = true ∧ AllV L ∧ L.length = 4 ∧ locE L c d = 0 ∧ locE L e f = 0
section
variable {X Y n0 n1 n2 W l0 l1 l2 h0 h1 h2 q0 q1 q2 x1 x2 x3 y1 y2 y3 u1 u2 u3 v1 v2 v3 a1 a2 a3 b1 b2 b3 : Int}
theorem pose_link4 (P : Pose X Y n0 n1 n2 q0 q1 q2 x1 x2 x3 y1 y2 y3 u1 u2 u3 v1 v2 v3 a1 a2 a3 b1 b2 b3) (V : armB X Y n0 n1 n2 W l0 l1 l2 h0 h1 h2 = true) : link4 (bodL X Y a1 b1 (W * u1) (W * v1)) X Y a1 b1 ∧ link4 (bodL a1 b1 a2 b2 (W * u2) (W * v2)) a1 b1 a2 b2 ∧ link4 (bodL a2 b2 a3 b3 (W * u3) (W * v3)) a2 b2 a3 b3 := by
  obtain ⟨⟨c1, v1', i1, n1'⟩, ⟨c2, v2', i2, n2'⟩, ⟨c3, v3', i3, n3'⟩⟩ := pose_links P V
  have on : ∀ (c d e f n u v : Int), c + n * u = e ∧ d + n * v = f → locE (bodL c d e f (W * u) (W * v)) c d = 0 ∧ locE (bodL c d e f (W * u) (W * v)) e f = 0 := by
    rintro c d _ _ n u v ⟨rfl, rfl⟩
    rw [bod_rect]
    exact rect_on (c, d) (u, v) n W
  obtain ⟨a, b⟩ := on X Y a1 b1 n0 u1 v1 P.g1
  obtain ⟨a', b'⟩ := on a1 b1 a2 b2 n1 u2 v2 P.g2
  obtain ⟨a'', b''⟩ := on a2 b2 a3 b3 n2 u3 v3 P.g3
  exact ⟨⟨c1, v1', i1, n1', a, b⟩, ⟨c2, v2', i2, n2', a', b'⟩, ⟨c3, v3', i3, n3', a'', b''⟩⟩
end
/-- The hull of some points, among them the corners of a convex polygon. -/
theorem hull_with {l L : List (Int × Int)} (hC : Conv L) (hs : ∀ q, q ∈ L → q ∈ l) : hullL l ≠ [] ∧ IsHull l (hullL l) := by
  rcases hull_cases l with ⟨e, h⟩ | h
  · exfalso
    obtain ⟨h3, hc⟩ := hC
    have m0 := gp_mem (h := L) (i := 0) (by omega)
    have m1 := gp_mem (h := L) (i := nx L.length 0) (Nat.mod_lt _ (by omega))
    have m2 := gp_mem (h := L) (i := 2) (by omega)
    have e1 : nx L.length 0 = 1 := by unfold nx; exact Nat.mod_eq_of_lt (by omega)
    have p := hc 0 2 (by omega) (by omega) (by omega) (by rw [e1]; omega)
    have z := h _ (hs _ m0) _ (hs _ m1) _ (hs _ m2)
    omega
  · exact h
/-- What lies apart from the box of a hull meets none of the polygons in it. -/
theorem apart_no {l L b : List (Int × Int)} (hC : Conv L) (hs : ∀ q, q ∈ L → q ∈ l) (hB : Good b) (hd : 0 < boxD (hullL l) b) : touchB L b = false := by
  have hH := (hull_with hC hs).2
  cases ht : touchB L b
  · rfl
  · exfalso
    have t := touch_wide (conv_good hC) hB hH.1 (fun q hq i hi => hH.2.2.1 i hi q (hs q hq)) ht
    have := both_box (conv_good hH.1) hB (both_of t)
    omega
theorem box_no {L b : List (Int × Int)} (hC : Conv L) (hB : Good b) (ht : touchB L b = true) : ¬ 0 < boxD L b := by
  have := both_box (conv_good hC) hB (both_of ht)
  omega
end Go.Proofs.YtalhkcmlacppjaaGreatDoor

