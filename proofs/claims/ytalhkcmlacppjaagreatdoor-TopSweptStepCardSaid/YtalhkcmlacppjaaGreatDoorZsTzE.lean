/- Helpers: what the law reaches. -/
import Derived.Test.YtalhkcmlacppjaaGreatDoorZsSwE
import Derived.Test.YtalhkcmlacppjaaGreatDoorZsHuD
import Derived.Test.YtalhkcmlacppjaaGreatDoorZsAmA
import Derived.Test.YtalhkcmlacppjaaGreatDoorZsIuB
import Derived.Test.YtalhkcmlacppjaaGreatDoorZsAmV
import Derived.Test.YtalhkcmlacppjaaGreatDoorZsIxF
import Derived.Test.YtalhkcmlacppjaaGreatDoorZsHlC
import Derived.Test.YtalhkcmlacppjaaGreatDoorZsHs
import Derived.Test.YtalhkcmlacppjaaGreatDoorZsAmP
import Derived.Test.YtalhkcmlacppjaaGreatDoorZsAmF
namespace Go.Proofs.YtalhkcmlacppjaaGreatDoor
open Go.ChangeShapes Go.WideShapes Go.ChangeAt Go.RowKit
set_option linter.unusedVariables false
set_option linter.unusedSimpArgs false
theorem hullL_eq {l h : List (Int × Int)} (hb : IsHull l h) : hullL l = h := by
  rcases hull_cases l with ⟨_, h2⟩ | ⟨_, h2⟩
  · exact absurd h2 (hull_not hb)
  · exact hull_unique h2 hb
theorem hullL_nil {l : List (Int × Int)} (h : ∀ a ∈ l, ∀ b ∈ l, ∀ c ∈ l, dt a b c = 0) : hullL l = [] := by
  rcases hull_cases l with ⟨h1, _⟩ | ⟨_, h2⟩
  · exact h1
  · exact absurd h (hull_not h2)
theorem hullL_congr {l m : List (Int × Int)} (h : ∀ q, q ∈ l ↔ q ∈ m) : hullL l = hullL m := by
  rcases hull_cases m with ⟨e, h2⟩ | ⟨_, h2⟩
  · rw [e]; exact hullL_nil fun a ha b hb c hc => h2 a ((h a).1 ha) b ((h b).1 hb) c ((h c).1 hc)
  · exact hullL_eq (isHull_mem (fun q => (h q).symm) h2)
theorem outP_swap (o a b : Int × Int) : outP o b a = outP o a b := by unfold outP strI; rw [Int.add_comm b.1 a.1, Int.add_comm b.2 a.2]
theorem outL_swap (o : Int × Int) : ∀ a b : List (Int × Int), outL o b a = outL o a b
  | [], [] => rfl
  | [], _ :: _ => rfl
  | _ :: _, [] => rfl
  | x :: a, y :: b => by
    show outP o y x :: outL o b a = outP o x y :: outL o a b
    rw [outP_swap, outL_swap o a b]
theorem pts_swap (o : Int × Int) (a b : List (Int × Int)) (q : Int × Int) : q ∈ ptsL o b a ↔ q ∈ ptsL o a b := by
  unfold ptsL
  rw [outL_swap]
  simp only [List.mem_append]
  constructor
  · rintro ((h | h) | h)
    · exact .inl (.inr h)
    · exact .inl (.inl h)
    · exact .inr h
  · rintro ((h | h) | h)
    · exact .inl (.inr h)
    · exact .inl (.inl h)
    · exact .inr h
theorem reg_swap (o : Int × Int) (a b : List (Int × Int)) : regL o b a = regL o a b := by
  unfold regL
  by_cases h : a.length = b.length
  · rw [hullL_congr (pts_swap o a b), h]
  · rw [if_neg (fun k => h k.1.symm), if_neg (fun k => h k.1)]
end Go.Proofs.YtalhkcmlacppjaaGreatDoor

namespace Go.Proofs.YtalhkcmlacppjaaGreatDoor
open Go.ChangeShapes Go.WideShapes Go.ChangeAt Go.RowKit
set_option linter.unusedVariables false
set_option linter.unusedSimpArgs false
theorem sub_len5 : ∀ (h l : List (Int × Int)), h.Nodup → (∀ q, q ∈ h → q ∈ l) → h.length ≤ l.length
  | [], l, _, _ => Nat.zero_le _
  | x :: h, l, hn, hs => by
    obtain ⟨hx', hn'⟩ := List.nodup_cons.1 hn
    have hx := hs x List.mem_cons_self
    have ih := sub_len5 h (l.erase x) hn' fun q hq => (List.mem_erase_of_ne (fun e => by rw [e] at hq; exact hx' hq)).2 (hs q (List.mem_cons_of_mem _ hq))
    have := List.length_erase_of_mem hx
    have := List.length_pos_of_mem hx
    rw [List.length_cons]
    omega
theorem hull_le {l h : List (Int × Int)} (hH : IsHull l h) : h.length ≤ l.length := by
  refine sub_len5 h l ?_ fun q hq => ?_
  · rw [List.Nodup, List.pairwise_iff_getElem]
    intro i j hi hj hij e
    have := conv_inj hH.1 hi hj (by rw [gp_lt hi, gp_lt hj]; exact e)
    omega
  · obtain ⟨i, hi, rfl⟩ := mem_gp hq
    exact hH.2.1 i hi
theorem allV_sub {ps t : List (Int × Int)} (h : AllV ps) (hs : ∀ y, y ∈ t → y ∈ ps) : AllV t := (allV_iff t).2 fun q hq => (allV_iff ps).1 h q (hs q hq)
theorem hull_allV {a h : List (Int × Int)} (hH : IsHull a h) (hV : AllV a) : AllV h := allV_sub hV fun y hy => by
  obtain ⟨i, hi, rfl⟩ := mem_gp hy
  exact hH.2.1 i hi

/-- What meets a polygon meets a convex one that holds it. -/
theorem touch_wide {a b s : List (Int × Int)} (hA : Good a) (hB : Good b) (hS : Conv s) (hin : ∀ q, q ∈ a → inAll s q) (h : touchB a b = true) : touchB s b = true := by
  obtain ⟨N, X, Y, hN, h1, h2⟩ := both_of h
  refine touch_of (conv_good hS) hB ⟨N, X, Y, hN, ?_, h2⟩
  refine (conv_loc _ (scL N s) rfl (hS.sc hN) (X, Y)).2 fun i hi => ?_
  rw [scL_len] at hi ⊢
  rw [gp_sc, gp_sc]
  refine good_left (hA.sc hN) (c := 0) h1 fun y hy => ?_
  obtain ⟨p, hp, rfl⟩ := mem_sc.1 hy
  exact (nng_det hN _ _ _ _ _ _).2 (hin p hp i hi)
end Go.Proofs.YtalhkcmlacppjaaGreatDoor

namespace Go.Proofs.YtalhkcmlacppjaaGreatDoor
open Go.ChangeShapes Go.WideShapes Go.ChangeAt Go.RowKit
set_option linter.unusedVariables false
set_option linter.unusedSimpArgs false
set_option maxRecDepth 100000
/-- What the laws ask of a link's body. -/
def good4 (L : List (Int × Int)) : Prop := Conv L ∧ validP L = true ∧ AllV L ∧ L.length = 4
theorem one_link {c d e f n u v W : Int} (hn : 1 ≤ n) (hW : 1 ≤ W) (hu : u * u + v * v = 4394000 * 4394000) (he : c + n * u = e ∧ d + n * v = f) (B : ∀ p ∈ bodL c d e f (W * u) (W * v), InV p.1 ∧ InV p.2) : good4 (bodL c d e f (W * u) (W * v)) := by
  obtain ⟨rfl, rfl⟩ := he
  have hp : 0 < n * W := Int.mul_pos (by omega) (by omega)
  have hC : Conv (bodL c d (c + n * u) (d + n * v) (W * u) (W * v)) := by
    rw [bod_rect]
    exact rect_conv _ _ (by omega) (by omega) (by simp only; omega)
  have hA0 : 0 < area2 (bodL c d (c + n * u) (d + n * v) (W * u) (W * v)) := by
    rw [bod_rect, rect_area]
    simp only
    rw [hu]
    omega
  exact ⟨hC, conv_valid hC (by show 4 ≤ 12; omega) (allv_mem B) hA0, allv_mem B, rfl⟩
section
variable {X Y n0 n1 n2 W l0 l1 l2 h0 h1 h2 q0 q1 q2 x1 x2 x3 y1 y2 y3 u1 u2 u3 v1 v2 v3 a1 a2 a3 b1 b2 b3 : Int}
theorem pose_links (P : Pose X Y n0 n1 n2 q0 q1 q2 x1 x2 x3 y1 y2 y3 u1 u2 u3 v1 v2 v3 a1 a2 a3 b1 b2 b3) (V : armB X Y n0 n1 n2 W l0 l1 l2 h0 h1 h2 = true) : good4 (bodL X Y a1 b1 (W * u1) (W * v1)) ∧ good4 (bodL a1 b1 a2 b2 (W * u2) (W * v2)) ∧ good4 (bodL a2 b2 a3 b3 (W * u3) (W * v3)) := by
  have v := ((armB_iff X Y n0 n1 n2 W l0 l1 l2 h0 h1 h2).1 V).1
  obtain ⟨_, m1, m2, m3⟩ := pose_len P
  obtain ⟨c1, c2, c3, _⟩ := pose_corn P V
  exact ⟨one_link (n := n0) (by omega) (by omega) m1 P.g1 c1, one_link (n := n1) (by omega) (by omega) m2 P.g2 c2, one_link (n := n2) (by omega) (by omega) m3 P.g3 c3⟩
end
end Go.Proofs.YtalhkcmlacppjaaGreatDoor

namespace Go.Proofs.YtalhkcmlacppjaaGreatDoor
open Go.ChangeShapes Go.WideShapes Go.ChangeAt Go.RowKit
set_option linter.unusedVariables false
set_option linter.unusedSimpArgs false
set_option maxRecDepth 100000

section
variable {X Y n0 n1 n2 W l0 l1 l2 h0 h1 h2 q0 q1 q2 x1 x2 x3 y1 y2 y3 u1 u2 u3 v1 v2 v3 a1 a2 a3 b1 b2 b3 : Int}
end
/-- The hull of some points, among them the corners of a convex polygon. -/
theorem hull_with {l L : List (Int × Int)} (hC : Conv L) (hs : ∀ q, q ∈ L → q ∈ l) : hullL l ≠ [] ∧ IsHull l (hullL l) := by
  rcases hull_cases l with ⟨e, h⟩ | h
  · exfalso
    obtain ⟨h3, hc⟩ := hC
    have m0 := gp_mem (h := L) (i := 0) (by omega)
    have m1 := gp_mem (h := L) (i := nx L.length 0) (Nat.mod_lt _ (by omega))
    have m2 := gp_mem (h := L) (i := 2) (by omega)
    have e1 : nx L.length 0 = 1 := by unfold nx; exact Nat.mod_eq_of_lt (by omega)
    have p := hc 0 2 (by omega) (by omega) (by omega) (by rw [e1]; omega)
    have z := h _ (hs _ m0) _ (hs _ m1) _ (hs _ m2)
    omega
  · exact h
end Go.Proofs.YtalhkcmlacppjaaGreatDoor

namespace Go.Proofs.YtalhkcmlacppjaaGreatDoor
open Go.ChangeShapes Go.WideShapes Go.ChangeAt Go.RowKit
set_option linter.unusedVariables false
set_option linter.unusedSimpArgs false
set_option maxRecDepth 100000

def AtS (j s c0 c1 c2 l0 l1 l2 h0 h1 h2 cj L H p0 p1 p2 : Int) (o ol oh : Nat) : Prop := (j = 0 ∧ o = 0 ∧ ol = 6 ∧ oh = 9 ∧ cj = c0 ∧ L = l0 ∧ H = h0 ∧ p0 = c0 + s ∧ p1 = c1 ∧ p2 = c2) ∨ (j = 1 ∧ o = 1 ∧ ol = 7 ∧ oh = 10 ∧ cj = c1 ∧ L = l1 ∧ H = h1 ∧ p0 = c0 ∧ p1 = c1 + s ∧ p2 = c2) ∨ (j = 2 ∧ o = 2 ∧ ol = 8 ∧ oh = 11 ∧ cj = c2 ∧ L = l2 ∧ H = h2 ∧ p0 = c0 ∧ p1 = c1 ∧ p2 = c2 + s)
theorem atS_ex (j s c0 c1 c2 l0 l1 l2 h0 h1 h2 : Int) (hj : j = 0 ∨ j = 1 ∨ j = 2) : ∃ cj L H p0 p1 p2 o ol oh, AtS j s c0 c1 c2 l0 l1 l2 h0 h1 h2 cj L H p0 p1 p2 o ol oh := by
  rcases hj with rfl | rfl | rfl
  · exact ⟨_, _, _, _, _, _, _, _, _, Or.inl ⟨rfl, rfl, rfl, rfl, rfl, rfl, rfl, rfl, rfl, rfl⟩⟩
  · exact ⟨_, _, _, _, _, _, _, _, _, Or.inr (Or.inl ⟨rfl, rfl, rfl, rfl, rfl, rfl, rfl, rfl, rfl, rfl⟩)⟩
  · exact ⟨_, _, _, _, _, _, _, _, _, Or.inr (Or.inr ⟨rfl, rfl, rfl, rfl, rfl, rfl, rfl, rfl, rfl, rfl⟩)⟩
section
variable {j s c0 c1 c2 l0 l1 l2 h0 h1 h2 cj L H p0 p1 p2 : Int} {o ol oh : Nat}
theorem atS_yes {X Y n0 n1 n2 W : Int} (h : AtS j s c0 c1 c2 l0 l1 l2 h0 h1 h2 cj L H p0 p1 p2 o ol oh) (cb : ((l0 ≤ c0 ∧ c0 ≤ h0) ∧ (l1 ≤ c1 ∧ c1 ≤ h1) ∧ l2 ≤ c2 ∧ c2 ≤ h2)) (lm : ((-17 ≤ l0 ∧ l0 ≤ h0 ∧ h0 ≤ 18) ∧ (-17 ≤ l1 ∧ l1 ≤ h1 ∧ h1 ≤ 18) ∧ -17 ≤ l2 ∧ l2 ≤ h2 ∧ h2 ≤ 18)) (hs : s = 1 ∨ s = -1) (hf : Hid (fitB l0 l1 l2 h0 h1 h2 p0 p1 p2 = true)) (w : World) :
    Calls Tryz.prog 19 #[.agg #[.int .i64 X, .int .i64 Y, .int .i64 n0, .int .i64 n1, .int .i64 n2, .int .i64 W, .int .i64 l0, .int .i64 l1, .int .i64 l2, .int .i64 h0, .int .i64 h1, .int .i64 h2], .agg #[.int .i64 c0, .int .i64 c1, .int .i64 c2], .int .i64 j, .int .i64 s] w fun e w' => e = .returned (.tuple #[.agg #[.int .i64 p0, .int .i64 p1, .int .i64 p2], .bool true]) ∧ Below w.heap.size w w' := by
  rcases h with h | h | h
  · obtain ⟨rfl, -, -, -, -, -, -, e0, e1, e2⟩ := h
    subst e0
    replace e1 := e1.symm
    subst e1
    replace e2 := e2.symm
    subst e2
    exact stepj0_yes X Y n0 n1 n2 W l0 l1 l2 h0 h1 h2 c0 c1 c2 s w hs (by omega) (by omega) (by omega) hf
  · obtain ⟨rfl, -, -, -, -, -, -, e0, e1, e2⟩ := h
    replace e0 := e0.symm
    subst e0
    subst e1
    replace e2 := e2.symm
    subst e2
    exact stepj1_yes X Y n0 n1 n2 W l0 l1 l2 h0 h1 h2 c0 c1 c2 s w hs (by omega) (by omega) (by omega) hf
  · obtain ⟨rfl, -, -, -, -, -, -, e0, e1, e2⟩ := h
    replace e0 := e0.symm
    subst e0
    replace e1 := e1.symm
    subst e1
    subst e2
    exact stepj2_yes X Y n0 n1 n2 W l0 l1 l2 h0 h1 h2 c0 c1 c2 s w hs (by omega) (by omega) (by omega) hf
theorem atS_no {X Y n0 n1 n2 W : Int} (h : AtS j s c0 c1 c2 l0 l1 l2 h0 h1 h2 cj L H p0 p1 p2 o ol oh) (cb : ((l0 ≤ c0 ∧ c0 ≤ h0) ∧ (l1 ≤ c1 ∧ c1 ≤ h1) ∧ l2 ≤ c2 ∧ c2 ≤ h2)) (lm : ((-17 ≤ l0 ∧ l0 ≤ h0 ∧ h0 ≤ 18) ∧ (-17 ≤ l1 ∧ l1 ≤ h1 ∧ h1 ≤ 18) ∧ -17 ≤ l2 ∧ l2 ≤ h2 ∧ h2 ≤ 18)) (hs : s = 1 ∨ s = -1) (hf : Hid (fitB l0 l1 l2 h0 h1 h2 p0 p1 p2 = false)) (w : World) :
    Calls Tryz.prog 19 #[.agg #[.int .i64 X, .int .i64 Y, .int .i64 n0, .int .i64 n1, .int .i64 n2, .int .i64 W, .int .i64 l0, .int .i64 l1, .int .i64 l2, .int .i64 h0, .int .i64 h1, .int .i64 h2], .agg #[.int .i64 c0, .int .i64 c1, .int .i64 c2], .int .i64 j, .int .i64 s] w fun e w' => e = .returned (.tuple #[.agg #[.int .i64 0, .int .i64 0, .int .i64 0], .bool false]) ∧ Below w.heap.size w w' := by
  rcases h with h | h | h
  · obtain ⟨rfl, -, -, -, -, -, -, e0, e1, e2⟩ := h
    subst e0
    replace e1 := e1.symm
    subst e1
    replace e2 := e2.symm
    subst e2
    exact stepj0_no X Y n0 n1 n2 W l0 l1 l2 h0 h1 h2 c0 c1 c2 s w hs (by omega) (by omega) (by omega) hf
  · obtain ⟨rfl, -, -, -, -, -, -, e0, e1, e2⟩ := h
    replace e0 := e0.symm
    subst e0
    subst e1
    replace e2 := e2.symm
    subst e2
    exact stepj1_no X Y n0 n1 n2 W l0 l1 l2 h0 h1 h2 c0 c1 c2 s w hs (by omega) (by omega) (by omega) hf
  · obtain ⟨rfl, -, -, -, -, -, -, e0, e1, e2⟩ := h
    replace e0 := e0.symm
    subst e0
    replace e1 := e1.symm
    subst e1
    subst e2
    exact stepj2_no X Y n0 n1 n2 W l0 l1 l2 h0 h1 h2 c0 c1 c2 s w hs (by omega) (by omega) (by omega) hf
end
end Go.Proofs.YtalhkcmlacppjaaGreatDoor

namespace Go.Proofs.YtalhkcmlacppjaaGreatDoor
open Go.ChangeShapes Go.WideShapes Go.ChangeAt Go.RowKit
set_option linter.unusedVariables false
set_option linter.unusedSimpArgs false
set_option maxRecDepth 100000

def nearB (X Y n0 n1 n2 : Int) : Bool := decide (8 * absI X + 9 * 4394000 * (n0 + n1 + n2 + 15) ≤ 800 * 4394000 ∧ 8 * absI Y + 9 * 4394000 * (n0 + n1 + n2 + 15) ≤ 800 * 4394000)
theorem near_iff {X Y n0 n1 n2 : Int} (h : nearB X Y n0 n1 n2 = true) : (-(3515200000 - 39546000 * (n0 + n1 + n2 + 15)) ≤ 8 * X ∧ 8 * X ≤ 3515200000 - 39546000 * (n0 + n1 + n2 + 15)) ∧ -(3515200000 - 39546000 * (n0 + n1 + n2 + 15)) ≤ 8 * Y ∧ 8 * Y ≤ 3515200000 - 39546000 * (n0 + n1 + n2 + 15) := by
  unfold nearB at h
  have h := of_decide_eq_true h
  have a := (abs_bd X).2.1
  have b := (abs_bd Y).2.1
  omega
theorem near_bd {c a b D : Int} (ha : -D ≤ a - c ∧ a - c ≤ D) (hb : -D ≤ b - c ∧ b - c ≤ D) (hc : -3515200000 ≤ 8 * c - 9 * D ∧ 8 * c + 9 * D ≤ 3515200000) : InV (strI c a b) := by
  unfold strI
  unfold InV
  obtain ⟨x, hx⟩ : ∃ x, 9 * (a + b - 2 * c) = x := ⟨_, rfl⟩
  rw [hx]
  by_cases h : 0 ≤ x
  · rw [Int.tdiv_eq_ediv_of_nonneg h]; omega
  · have e : x.tdiv 16 = -((-x).tdiv 16) := by rw [Int.neg_tdiv, Int.neg_neg]
    rw [e, Int.tdiv_eq_ediv_of_nonneg (by omega)]; omega
def Near (o : Int × Int) (D : Int) (l : List (Int × Int)) : Prop := ∀ p ∈ l, (-D ≤ p.1 - o.1 ∧ p.1 - o.1 ≤ D) ∧ -D ≤ p.2 - o.2 ∧ p.2 - o.2 ≤ D
theorem out_near {o : Int × Int} {D : Int} {a b : List (Int × Int)} (ha : Near o D a) (hb : Near o D b) (h1 : -3515200000 ≤ 8 * o.1 - 9 * D ∧ 8 * o.1 + 9 * D ≤ 3515200000) (h2 : -3515200000 ≤ 8 * o.2 - 9 * D ∧ 8 * o.2 + 9 * D ≤ 3515200000) : AllV (outL o a b) := (allV_iff _).2 fun q hq => by
  unfold outL at hq
  obtain ⟨i, hi, e⟩ := List.mem_iff_getElem.1 hq
  rw [List.length_zipWith] at hi
  rw [List.getElem_zipWith] at e
  have p1 := ha _ (List.getElem_mem (show i < a.length by omega))
  have p2 := hb _ (List.getElem_mem (show i < b.length by omega))
  rw [← e]
  exact ⟨near_bd p1.1 p2.1 h1, near_bd p1.2 p2.2 h2⟩
theorem bod_near {c d e f u v o1 o2 A K D : Int} (hc : -A ≤ c - o1 ∧ c - o1 ≤ A) (hd : -A ≤ d - o2 ∧ d - o2 ≤ A) (he : -A ≤ e - o1 ∧ e - o1 ≤ A) (hf : -A ≤ f - o2 ∧ f - o2 ≤ A) (hu : -K ≤ u ∧ u ≤ K) (hv : -K ≤ v ∧ v ≤ K) (hD : A + K ≤ D) : Near (o1, o2) D (bodL c d e f u v) := by
  unfold Near bodL
  simp only [List.forall_mem_cons]
  refine ⟨by omega, by omega, by omega, by omega, fun x hx => absurd hx List.not_mem_nil⟩
section
variable {X Y n0 n1 n2 W l0 l1 l2 h0 h1 h2 q0 q1 q2 p0 p1 p2 x1 x2 x3 y1 y2 y3 u1 u2 u3 v1 v2 v3 a1 a2 a3 b1 b2 b3 x1p x2p x3p y1p y2p y3p u1p u2p u3p v1p v2p v3p a1p a2p a3p b1p b2p b3p : Int}
theorem chain_bd (P : Pose X Y n0 n1 n2 q0 q1 q2 x1 x2 x3 y1 y2 y3 u1 u2 u3 v1 v2 v3 a1 a2 a3 b1 b2 b3) (V : armB X Y n0 n1 n2 W l0 l1 l2 h0 h1 h2 = true) :
    ((-(n0 * 4394000) ≤ a1 - X ∧ a1 - X ≤ n0 * 4394000) ∧ -(n0 * 4394000) ≤ b1 - Y ∧ b1 - Y ≤ n0 * 4394000) ∧ ((-(n1 * 4394000) ≤ a2 - a1 ∧ a2 - a1 ≤ n1 * 4394000) ∧ -(n1 * 4394000) ≤ b2 - b1 ∧ b2 - b1 ≤ n1 * 4394000) ∧ ((-(n2 * 4394000) ≤ a3 - a2 ∧ a3 - a2 ≤ n2 * 4394000) ∧ -(n2 * 4394000) ≤ b3 - b2 ∧ b3 - b2 ≤ n2 * 4394000) ∧
    ((-(W * 4394000) ≤ W * u1 ∧ W * u1 ≤ W * 4394000) ∧ -(W * 4394000) ≤ W * v1 ∧ W * v1 ≤ W * 4394000) ∧ ((-(W * 4394000) ≤ W * u2 ∧ W * u2 ≤ W * 4394000) ∧ -(W * 4394000) ≤ W * v2 ∧ W * v2 ≤ W * 4394000) ∧ (-(W * 4394000) ≤ W * u3 ∧ W * u3 ≤ W * 4394000) ∧ -(W * 4394000) ≤ W * v3 ∧ W * v3 ≤ W * 4394000 := by
  have v := (armB_iff X Y n0 n1 n2 W l0 l1 l2 h0 h1 h2).1 V
  obtain ⟨_, m1, m2, m3⟩ := pose_len P
  have r1 := unit_bd m1
  have r2 := unit_bd m2
  have r3 := unit_bd m3
  have t1 := far_bdI (n := n0) (by omega) r1.1
  have t2 := far_bdI (n := n0) (by omega) r1.2
  have t3 := far_bdI (n := n1) (by omega) r2.1
  have t4 := far_bdI (n := n1) (by omega) r2.2
  have t5 := far_bdI (n := n2) (by omega) r3.1
  have t6 := far_bdI (n := n2) (by omega) r3.2
  have g1 := P.g1
  have g2 := P.g2
  have g3 := P.g3
  exact ⟨by omega, by omega, by omega, ⟨far_bdI (by omega) r1.1, far_bdI (by omega) r1.2⟩, ⟨far_bdI (by omega) r2.1, far_bdI (by omega) r2.2⟩, far_bdI (by omega) r3.1, far_bdI (by omega) r3.2⟩
theorem share1 (P : Pose X Y n0 n1 n2 q0 q1 q2 x1 x2 x3 y1 y2 y3 u1 u2 u3 v1 v2 v3 a1 a2 a3 b1 b2 b3) (P' : Pose X Y n0 n1 n2 q0 p1 p2 x1p x2p x3p y1p y2p y3p u1p u2p u3p v1p v2p v3p a1p a2p a3p b1p b2p b3p) : (x1p = x1 ∧ y1p = y1) ∧ (u1p = u1 ∧ v1p = v1) ∧ a1p = a1 ∧ b1p = b1 := by
  have e := P'.e1.symm.trans P.e1
  simp only [Prod.mk.injEq] at e
  have f := P.f1
  have f' := P'.f1
  have eu : u1p = u1 := by omega
  have ev : v1p = v1 := by omega
  have g := P.g1
  have g' := P'.g1
  rw [eu, ev] at g'
  exact ⟨e, ⟨eu, ev⟩, by omega, by omega⟩
theorem share2 (P : Pose X Y n0 n1 n2 q0 q1 q2 x1 x2 x3 y1 y2 y3 u1 u2 u3 v1 v2 v3 a1 a2 a3 b1 b2 b3) (P' : Pose X Y n0 n1 n2 q0 q1 p2 x1p x2p x3p y1p y2p y3p u1p u2p u3p v1p v2p v3p a1p a2p a3p b1p b2p b3p) : (x2p = x2 ∧ y2p = y2) ∧ (u2p = u2 ∧ v2p = v2) ∧ a2p = a2 ∧ b2p = b2 := by
  obtain ⟨⟨s1, s2⟩, ⟨s3, s4⟩, s5, s6⟩ := share1 P P'
  have e2 := P'.e2
  rw [s1, s2, P.e2] at e2
  simp only [Prod.mk.injEq] at e2
  have f := P.f2
  have f' := P'.f2
  have eu : u2p = u2 := by omega
  have ev : v2p = v2 := by omega
  have g := P.g2
  have g' := P'.g2
  rw [eu, ev] at g'
  exact ⟨⟨e2.1.symm, e2.2.symm⟩, ⟨eu, ev⟩, by omega, by omega⟩
end
def AtJ (j o1 o2 X Y a1 b1 a2 b2 : Int) (oj : Nat) : Prop := (j = 0 ∧ oj = 0 ∧ o1 = X ∧ o2 = Y) ∨ (j = 1 ∧ oj = 2 ∧ o1 = a1 ∧ o2 = b1) ∨ (j = 2 ∧ oj = 4 ∧ o1 = a2 ∧ o2 = b2)
section
variable {X Y n0 n1 n2 W l0 l1 l2 h0 h1 h2 q0 q1 q2 p0 p1 p2 x1 x2 x3 y1 y2 y3 u1 u2 u3 v1 v2 v3 a1 a2 a3 b1 b2 b3 x1p x2p x3p y1p y2p y3p u1p u2p u3p v1p v2p v3p a1p a2p a3p b1p b2p b3p j s cj L H : Int} {o ol oh : Nat}
set_option maxHeartbeats 2000000 in
theorem swept_all (P : Pose X Y n0 n1 n2 q0 q1 q2 x1 x2 x3 y1 y2 y3 u1 u2 u3 v1 v2 v3 a1 a2 a3 b1 b2 b3) (P' : Pose X Y n0 n1 n2 p0 p1 p2 x1p x2p x3p y1p y2p y3p u1p u2p u3p v1p v2p v3p a1p a2p a3p b1p b2p b3p) (AT : AtS j s q0 q1 q2 l0 l1 l2 h0 h1 h2 cj L H p0 p1 p2 o ol oh) (V : armB X Y n0 n1 n2 W l0 l1 l2 h0 h1 h2 = true) (N : nearB X Y n0 n1 n2 = true) :
    ∃ (o1 o2 : Int) (oj : Nat), AtJ j o1 o2 X Y a1 b1 a2 b2 oj ∧ InV o1 ∧ InV o2 ∧ (((0 : Int) < j → (bodL X Y a1p b1p (W * u1p) (W * v1p)) = (bodL X Y a1 b1 (W * u1) (W * v1))) ∧ (j ≤ (0 : Int) → AllV (outL (o1, o2) (bodL X Y a1 b1 (W * u1) (W * v1)) (bodL X Y a1p b1p (W * u1p) (W * v1p))))) ∧ (((1 : Int) < j → (bodL a1p b1p a2p b2p (W * u2p) (W * v2p)) = (bodL a1 b1 a2 b2 (W * u2) (W * v2))) ∧ (j ≤ (1 : Int) → AllV (outL (o1, o2) (bodL a1 b1 a2 b2 (W * u2) (W * v2)) (bodL a1p b1p a2p b2p (W * u2p) (W * v2p))))) ∧ (((2 : Int) < j → (bodL a2p b2p a3p b3p (W * u3p) (W * v3p)) = (bodL a2 b2 a3 b3 (W * u3) (W * v3))) ∧ (j ≤ (2 : Int) → AllV (outL (o1, o2) (bodL a2 b2 a3 b3 (W * u3) (W * v3)) (bodL a2p b2p a3p b3p (W * u3p) (W * v3p))))) := by
  have v := ((armB_iff X Y n0 n1 n2 W l0 l1 l2 h0 h1 h2).1 V).1
  have nr := near_iff N
  have C := chain_bd P V
  have C' := chain_bd P' V
  rcases AT with h | h | h
  · obtain ⟨rfl, -, -, -, -, -, -, e0, e1, e2⟩ := h
    replace e1 := e1.symm
    subst e1
    replace e2 := e2.symm
    subst e2
    refine ⟨_, _, 0, Or.inl ⟨rfl, rfl, rfl, rfl⟩, by unfold InV; omega, by unfold InV; omega, ?_, ?_, ?_⟩
    · refine ⟨fun h => absurd h (by decide), fun _ => out_near (D := (n0 + n1 + n2 + W) * 4394000) (bod_near (A := (n0) * 4394000) (K := W * 4394000) (by omega) (by omega) (by omega) (by omega) (by omega) (by omega) (by omega)) (bod_near (A := (n0) * 4394000) (K := W * 4394000) (by omega) (by omega) (by omega) (by omega) (by omega) (by omega) (by omega)) (by simp only; omega) (by simp only; omega)⟩
    · refine ⟨fun h => absurd h (by decide), fun _ => out_near (D := (n0 + n1 + n2 + W) * 4394000) (bod_near (A := (n0 + n1) * 4394000) (K := W * 4394000) (by omega) (by omega) (by omega) (by omega) (by omega) (by omega) (by omega)) (bod_near (A := (n0 + n1) * 4394000) (K := W * 4394000) (by omega) (by omega) (by omega) (by omega) (by omega) (by omega) (by omega)) (by simp only; omega) (by simp only; omega)⟩
    · refine ⟨fun h => absurd h (by decide), fun _ => out_near (D := (n0 + n1 + n2 + W) * 4394000) (bod_near (A := (n0 + n1 + n2) * 4394000) (K := W * 4394000) (by omega) (by omega) (by omega) (by omega) (by omega) (by omega) (by omega)) (bod_near (A := (n0 + n1 + n2) * 4394000) (K := W * 4394000) (by omega) (by omega) (by omega) (by omega) (by omega) (by omega) (by omega)) (by simp only; omega) (by simp only; omega)⟩
  · obtain ⟨rfl, -, -, -, -, -, -, e0, e1, e2⟩ := h
    replace e0 := e0.symm
    subst e0
    replace e2 := e2.symm
    subst e2
    obtain ⟨⟨s1, s2⟩, ⟨s3, s4⟩, s5, s6⟩ := share1 P P'
    subst s1 s2 s3 s4 s5 s6
    refine ⟨_, _, 2, Or.inr (Or.inl ⟨rfl, rfl, rfl, rfl⟩), by unfold InV; omega, by unfold InV; omega, ?_, ?_, ?_⟩
    · exact ⟨fun _ => rfl, fun h => absurd h (by decide)⟩
    · refine ⟨fun h => absurd h (by decide), fun _ => out_near (D := (n1 + n2 + W) * 4394000) (bod_near (A := (n1) * 4394000) (K := W * 4394000) (by omega) (by omega) (by omega) (by omega) (by omega) (by omega) (by omega)) (bod_near (A := (n1) * 4394000) (K := W * 4394000) (by omega) (by omega) (by omega) (by omega) (by omega) (by omega) (by omega)) (by simp only; omega) (by simp only; omega)⟩
    · refine ⟨fun h => absurd h (by decide), fun _ => out_near (D := (n1 + n2 + W) * 4394000) (bod_near (A := (n1 + n2) * 4394000) (K := W * 4394000) (by omega) (by omega) (by omega) (by omega) (by omega) (by omega) (by omega)) (bod_near (A := (n1 + n2) * 4394000) (K := W * 4394000) (by omega) (by omega) (by omega) (by omega) (by omega) (by omega) (by omega)) (by simp only; omega) (by simp only; omega)⟩
  · obtain ⟨rfl, -, -, -, -, -, -, e0, e1, e2⟩ := h
    replace e0 := e0.symm
    subst e0
    replace e1 := e1.symm
    subst e1
    obtain ⟨⟨s1, s2⟩, ⟨s3, s4⟩, s5, s6⟩ := share1 P P'
    subst s1 s2 s3 s4 s5 s6
    obtain ⟨⟨t1, t2⟩, ⟨t3, t4⟩, t5, t6⟩ := share2 P P'
    subst t1 t2 t3 t4 t5 t6
    refine ⟨_, _, 4, Or.inr (Or.inr ⟨rfl, rfl, rfl, rfl⟩), by unfold InV; omega, by unfold InV; omega, ?_, ?_, ?_⟩
    · exact ⟨fun _ => rfl, fun h => absurd h (by decide)⟩
    · exact ⟨fun _ => rfl, fun h => absurd h (by decide)⟩
    · refine ⟨fun h => absurd h (by decide), fun _ => out_near (D := (n2 + W) * 4394000) (bod_near (A := (n2) * 4394000) (K := W * 4394000) (by omega) (by omega) (by omega) (by omega) (by omega) (by omega) (by omega)) (bod_near (A := (n2) * 4394000) (K := W * 4394000) (by omega) (by omega) (by omega) (by omega) (by omega) (by omega) (by omega)) (by simp only; omega) (by simp only; omega)⟩
end

/-- The swept region of a convex body. -/
theorem swept_hull {o : Int × Int} {L M : List (Int × Int)} (hL : Conv L) (hM : Conv M) (l4 : L.length = 4) (m4 : M.length = 4) (vL : AllV L) (vM : AllV M) (vO : AllV (outL o L M)) :
    regL o L M ≠ [] ∧ Conv (regL o L M) ∧ AllV (regL o L M) ∧ (regL o L M).length ≤ 12 ∧ (∀ q, q ∈ L → inAll (regL o L M) q) ∧ ∀ q, q ∈ M → inAll (regL o L M) q := by
  have e : regL o L M = hullL (ptsL o L M) := if_pos ⟨by omega, by omega⟩
  have sL : ∀ q, q ∈ L → q ∈ ptsL o L M := fun q hq => by unfold ptsL; simp [hq]
  have sM : ∀ q, q ∈ M → q ∈ ptsL o L M := fun q hq => by unfold ptsL; simp [hq]
  obtain ⟨hne, hH⟩ := hull_with hL sL
  have hl : (ptsL o L M).length = 12 := by unfold ptsL; rw [List.length_append, List.length_append, outL_len _ _ _ (by omega), l4, m4]
  rw [e]
  exact ⟨hne, hH.1, hull_allV hH (allV_app (allV_app vL vM) vO), by have := hull_le hH; omega, fun q hq i hi => hH.2.2.1 i hi q (sL q hq), fun q hq i hi => hH.2.2.1 i hi q (sM q hq)⟩
theorem in_loc {S : List (Int × Int)} (hS : Conv S) {q : Int × Int} (h : inAll S q) : 0 ≤ locE S q.1 q.2 := (conv_loc _ S rfl hS q).2 h
end Go.Proofs.YtalhkcmlacppjaaGreatDoor

namespace Go.Proofs.YtalhkcmlacppjaaGreatDoor
open Go.ChangeShapes Go.WideShapes Go.ChangeAt Go.RowKit
set_option linter.unusedVariables false
set_option linter.unusedSimpArgs false
set_option maxRecDepth 100000

theorem near_val {X Y n0 n1 n2 x y : Int} (hx : absI X = x) (hy : absI Y = y) (t : Bool) (h : (8 * x + 39546000 * (n0 + n1 + n2 + 15) ≤ 3515200000 ∧ 8 * y + 39546000 * (n0 + n1 + n2 + 15) ≤ 3515200000) ↔ t = true) : nearB X Y n0 n1 n2 = t := by
  unfold nearB
  rw [hx, hy]
  cases t
  · exact decide_eq_false fun k => by have := h.1 (by omega); cases this
  · have := h.2 rfl
    exact decide_eq_true (by omega)
set_option maxHeartbeats 2000000 in
theorem near_is (X Y n0 n1 n2 W l0 l1 l2 h0 h1 h2 : Int) (t : Bool) (w : World) (ht : Hid (nearB X Y n0 n1 n2 = t)) (kX : -1000000000 ≤ X ∧ X ≤ 1000000000) (kY : -1000000000 ≤ Y ∧ Y ≤ 1000000000) (kn0 : 1 ≤ n0 ∧ n0 ≤ 40) (kn1 : 1 ≤ n1 ∧ n1 ≤ 40) (kn2 : 1 ≤ n2 ∧ n2 ≤ 40) :
    Calls Tryz.prog 18 #[.agg #[.int .i64 X, .int .i64 Y, .int .i64 n0, .int .i64 n1, .int .i64 n2, .int .i64 W, .int .i64 l0, .int .i64 l1, .int .i64 l2, .int .i64 h0, .int .i64 h1, .int .i64 h2]] w fun e w' => e = .returned (.bool t) ∧ Below w.heap.size w w' := by
  by_cases gX : X < 0
  · have gX0 := Lib.hid gX
    by_cases gY : Y < 0
    · have gY0 := Lib.hid gY
      by_cases c1 : 8 * (-X) + 39546000 * (n0 + n1 + n2 + 15) ≤ 3515200000
      rotate_left
      · have d1 := Lib.hid c1
        replace c1 : decide (8 * (-X) + 39546000 * (n0 + n1 + n2 + 15) ≤ 3515200000) = false := decide_eq_false c1
        have E : Hid (nearB X Y n0 n1 n2 = false) := Lib.hid (near_val (show absI X = (-X) by unfold absI; rw [if_pos gX0.out]) (show absI Y = (-Y) by unfold absI; rw [if_pos gY0.out]) false (by have := d1.out; constructor <;> intro h <;> first | (exact absurd h.1 this) | cases h))
        go_enter Tryz.func18, Tryz.ntmps18
        go_wp2_with fail
        go_ret
        exact ⟨ret_bool (by rw [← ht.out, E.out]), by go_grown⟩
      by_cases c2 : 8 * (-Y) + 39546000 * (n0 + n1 + n2 + 15) ≤ 3515200000
      rotate_left
      · have d1 := Lib.hid c2
        replace c2 : decide (8 * (-Y) + 39546000 * (n0 + n1 + n2 + 15) ≤ 3515200000) = false := decide_eq_false c2
        have E : Hid (nearB X Y n0 n1 n2 = false) := Lib.hid (near_val (show absI X = (-X) by unfold absI; rw [if_pos gX0.out]) (show absI Y = (-Y) by unfold absI; rw [if_pos gY0.out]) false (by have := d1.out; constructor <;> intro h <;> first | (exact absurd h.2 this) | cases h))
        go_enter Tryz.func18, Tryz.ntmps18
        go_wp2_with fail
        go_ret
        exact ⟨ret_bool (by rw [← ht.out, E.out]), by go_grown⟩
      have E : Hid (nearB X Y n0 n1 n2 = true) := Lib.hid (near_val (show absI X = (-X) by unfold absI; rw [if_pos gX0.out]) (show absI Y = (-Y) by unfold absI; rw [if_pos gY0.out]) true (by exact ⟨fun _ => rfl, fun _ => ⟨c1, c2⟩⟩))
      go_enter Tryz.func18, Tryz.ntmps18
      go_wp2_with fail
      go_ret
      exact ⟨ret_bool (by rw [← ht.out, E.out]), by go_grown⟩
    · have gY0 := Lib.hid gY
      replace gY : decide (Y < 0) = false := decide_eq_false gY
      by_cases c1 : 8 * (-X) + 39546000 * (n0 + n1 + n2 + 15) ≤ 3515200000
      rotate_left
      · have d1 := Lib.hid c1
        replace c1 : decide (8 * (-X) + 39546000 * (n0 + n1 + n2 + 15) ≤ 3515200000) = false := decide_eq_false c1
        have E : Hid (nearB X Y n0 n1 n2 = false) := Lib.hid (near_val (show absI X = (-X) by unfold absI; rw [if_pos gX0.out]) (show absI Y = Y by unfold absI; rw [if_neg gY0.out]) false (by have := d1.out; constructor <;> intro h <;> first | (exact absurd h.1 this) | cases h))
        go_enter Tryz.func18, Tryz.ntmps18
        go_wp2_with fail
        go_ret
        exact ⟨ret_bool (by rw [← ht.out, E.out]), by go_grown⟩
      by_cases c2 : 8 * Y + 39546000 * (n0 + n1 + n2 + 15) ≤ 3515200000
      rotate_left
      · have d1 := Lib.hid c2
        replace c2 : decide (8 * Y + 39546000 * (n0 + n1 + n2 + 15) ≤ 3515200000) = false := decide_eq_false c2
        have E : Hid (nearB X Y n0 n1 n2 = false) := Lib.hid (near_val (show absI X = (-X) by unfold absI; rw [if_pos gX0.out]) (show absI Y = Y by unfold absI; rw [if_neg gY0.out]) false (by have := d1.out; constructor <;> intro h <;> first | (exact absurd h.2 this) | cases h))
        go_enter Tryz.func18, Tryz.ntmps18
        go_wp2_with fail
        go_ret
        exact ⟨ret_bool (by rw [← ht.out, E.out]), by go_grown⟩
      have E : Hid (nearB X Y n0 n1 n2 = true) := Lib.hid (near_val (show absI X = (-X) by unfold absI; rw [if_pos gX0.out]) (show absI Y = Y by unfold absI; rw [if_neg gY0.out]) true (by exact ⟨fun _ => rfl, fun _ => ⟨c1, c2⟩⟩))
      go_enter Tryz.func18, Tryz.ntmps18
      go_wp2_with fail
      go_ret
      exact ⟨ret_bool (by rw [← ht.out, E.out]), by go_grown⟩
  · have gX0 := Lib.hid gX
    replace gX : decide (X < 0) = false := decide_eq_false gX
    by_cases gY : Y < 0
    · have gY0 := Lib.hid gY
      by_cases c1 : 8 * X + 39546000 * (n0 + n1 + n2 + 15) ≤ 3515200000
      rotate_left
      · have d1 := Lib.hid c1
        replace c1 : decide (8 * X + 39546000 * (n0 + n1 + n2 + 15) ≤ 3515200000) = false := decide_eq_false c1
        have E : Hid (nearB X Y n0 n1 n2 = false) := Lib.hid (near_val (show absI X = X by unfold absI; rw [if_neg gX0.out]) (show absI Y = (-Y) by unfold absI; rw [if_pos gY0.out]) false (by have := d1.out; constructor <;> intro h <;> first | (exact absurd h.1 this) | cases h))
        go_enter Tryz.func18, Tryz.ntmps18
        go_wp2_with fail
        go_ret
        exact ⟨ret_bool (by rw [← ht.out, E.out]), by go_grown⟩
      by_cases c2 : 8 * (-Y) + 39546000 * (n0 + n1 + n2 + 15) ≤ 3515200000
      rotate_left
      · have d1 := Lib.hid c2
        replace c2 : decide (8 * (-Y) + 39546000 * (n0 + n1 + n2 + 15) ≤ 3515200000) = false := decide_eq_false c2
        have E : Hid (nearB X Y n0 n1 n2 = false) := Lib.hid (near_val (show absI X = X by unfold absI; rw [if_neg gX0.out]) (show absI Y = (-Y) by unfold absI; rw [if_pos gY0.out]) false (by have := d1.out; constructor <;> intro h <;> first | (exact absurd h.2 this) | cases h))
        go_enter Tryz.func18, Tryz.ntmps18
        go_wp2_with fail
        go_ret
        exact ⟨ret_bool (by rw [← ht.out, E.out]), by go_grown⟩
      have E : Hid (nearB X Y n0 n1 n2 = true) := Lib.hid (near_val (show absI X = X by unfold absI; rw [if_neg gX0.out]) (show absI Y = (-Y) by unfold absI; rw [if_pos gY0.out]) true (by exact ⟨fun _ => rfl, fun _ => ⟨c1, c2⟩⟩))
      go_enter Tryz.func18, Tryz.ntmps18
      go_wp2_with fail
      go_ret
      exact ⟨ret_bool (by rw [← ht.out, E.out]), by go_grown⟩
    · have gY0 := Lib.hid gY
      replace gY : decide (Y < 0) = false := decide_eq_false gY
      by_cases c1 : 8 * X + 39546000 * (n0 + n1 + n2 + 15) ≤ 3515200000
      rotate_left
      · have d1 := Lib.hid c1
        replace c1 : decide (8 * X + 39546000 * (n0 + n1 + n2 + 15) ≤ 3515200000) = false := decide_eq_false c1
        have E : Hid (nearB X Y n0 n1 n2 = false) := Lib.hid (near_val (show absI X = X by unfold absI; rw [if_neg gX0.out]) (show absI Y = Y by unfold absI; rw [if_neg gY0.out]) false (by have := d1.out; constructor <;> intro h <;> first | (exact absurd h.1 this) | cases h))
        go_enter Tryz.func18, Tryz.ntmps18
        go_wp2_with fail
        go_ret
        exact ⟨ret_bool (by rw [← ht.out, E.out]), by go_grown⟩
      by_cases c2 : 8 * Y + 39546000 * (n0 + n1 + n2 + 15) ≤ 3515200000
      rotate_left
      · have d1 := Lib.hid c2
        replace c2 : decide (8 * Y + 39546000 * (n0 + n1 + n2 + 15) ≤ 3515200000) = false := decide_eq_false c2
        have E : Hid (nearB X Y n0 n1 n2 = false) := Lib.hid (near_val (show absI X = X by unfold absI; rw [if_neg gX0.out]) (show absI Y = Y by unfold absI; rw [if_neg gY0.out]) false (by have := d1.out; constructor <;> intro h <;> first | (exact absurd h.2 this) | cases h))
        go_enter Tryz.func18, Tryz.ntmps18
        go_wp2_with fail
        go_ret
        exact ⟨ret_bool (by rw [← ht.out, E.out]), by go_grown⟩
      have E : Hid (nearB X Y n0 n1 n2 = true) := Lib.hid (near_val (show absI X = X by unfold absI; rw [if_neg gX0.out]) (show absI Y = Y by unfold absI; rw [if_neg gY0.out]) true (by exact ⟨fun _ => rfl, fun _ => ⟨c1, c2⟩⟩))
      go_enter Tryz.func18, Tryz.ntmps18
      go_wp2_with fail
      go_ret
      exact ⟨ret_bool (by rw [← ht.out, E.out]), by go_grown⟩

/-- Link i: its bodies before and behind the step. -/
def AtI (i : Int) (o g m g0 g1 g2 m0 m1 m2 : Nat) (L M L0 L1 L2 M0 M1 M2 : List (Int × Int)) : Prop :=
  (i = 0 ∧ o = 0 ∧ g = g0 ∧ m = m0 ∧ L = L0 ∧ M = M0) ∨ (i = 1 ∧ o = 1 ∧ g = g1 ∧ m = m1 ∧ L = L1 ∧ M = M1) ∨ (i = 2 ∧ o = 2 ∧ g = g2 ∧ m = m2 ∧ L = L2 ∧ M = M2)
theorem atI_ex (i : Int) (g0 g1 g2 m0 m1 m2 : Nat) (L0 L1 L2 M0 M1 M2 : List (Int × Int)) (h : 0 ≤ i ∧ i < 3) : ∃ o g m L M, AtI i o g m g0 g1 g2 m0 m1 m2 L M L0 L1 L2 M0 M1 M2 := by
  have c : i = 0 ∨ i = 1 ∨ i = 2 := by omega
  rcases c with rfl | rfl | rfl
  · exact ⟨_, _, _, _, _, .inl ⟨rfl, rfl, rfl, rfl, rfl, rfl⟩⟩
  · exact ⟨_, _, _, _, _, .inr (.inl ⟨rfl, rfl, rfl, rfl, rfl, rfl⟩)⟩
  · exact ⟨_, _, _, _, _, .inr (.inr ⟨rfl, rfl, rfl, rfl, rfl, rfl⟩)⟩
section
variable {i : Int} {o g m g0 g1 g2 m0 m1 m2 : Nat} {L M L0 L1 L2 M0 M1 M2 : List (Int × Int)}
theorem atI_addr (h : AtI i o g m g0 g1 g2 m0 m1 m2 L M L0 L1 L2 M0 M1 M2) (b : Nat) (w : World) : (Instr.indexAt 36 (.pointer (some ⟨b, 0, none⟩)) (.int .i64 i)).run Tryz.prog w = .ok (.pointer (some ⟨b, o, none⟩)) w := by
  rcases h with h | h | h
  all_goals
    obtain ⟨rfl, rfl, -⟩ := h
    kernel_rfl
theorem atI_g (h : AtI i o g m g0 g1 g2 m0 m1 m2 L M L0 L1 L2 M0 M1 M2) {w : World} {b : Nat} (hb : w.heap[b]? = some (.cells #[.slice (some ⟨g0, 0, none⟩) 4 4, .slice (some ⟨g1, 0, none⟩) 4 4, .slice (some ⟨g2, 0, none⟩) 4 4] 36 (0, 0))) : w.cell? ⟨b, o, none⟩ = some (.slice (some ⟨g, 0, none⟩) 4 4) := by
  rcases h with h | h | h
  all_goals
    obtain ⟨-, rfl, rfl, -⟩ := h
    exact blk_cell hb _ _ rfl
theorem atI_m (h : AtI i o g m g0 g1 g2 m0 m1 m2 L M L0 L1 L2 M0 M1 M2) {w : World} {b : Nat} (hb : w.heap[b]? = some (.cells #[.slice (some ⟨m0, 0, none⟩) 4 4, .slice (some ⟨m1, 0, none⟩) 4 4, .slice (some ⟨m2, 0, none⟩) 4 4] 36 (0, 0))) : w.cell? ⟨b, o, none⟩ = some (.slice (some ⟨m, 0, none⟩) 4 4) := by
  rcases h with h | h | h
  all_goals
    obtain ⟨-, rfl, -, rfl, -⟩ := h
    exact blk_cell hb _ _ rfl
theorem atI_all (h : AtI i o g m g0 g1 g2 m0 m1 m2 L M L0 L1 L2 M0 M1 M2) {Q : Int → Nat → Nat → List (Int × Int) → List (Int × Int) → Prop} (k0 : Q 0 g0 m0 L0 M0) (k1 : Q 1 g1 m1 L1 M1) (k2 : Q 2 g2 m2 L2 M2) : Q i g m L M := by
  rcases h with ⟨rfl, rfl, rfl, rfl, rfl, rfl⟩ | ⟨rfl, rfl, rfl, rfl, rfl, rfl⟩ | ⟨rfl, rfl, rfl, rfl, rfl, rfl⟩
  · exact k0
  · exact k1
  · exact k2
end
section
variable {j o1 o2 X Y a1 b1 a2 b2 a3 b3 : Int} {oj : Nat}
theorem atJ_addr (h : AtJ j o1 o2 X Y a1 b1 a2 b2 oj) (b : Nat) (w : World) : (Instr.indexAt 38 (.pointer (some ⟨b, 0, none⟩)) (.int .i64 j)).run Tryz.prog w = .ok (.pointer (some ⟨b, oj, none⟩)) w := by
  rcases h with h | h | h
  all_goals
    obtain ⟨rfl, rfl, -⟩ := h
    kernel_rfl
theorem atJ_cell (h : AtJ j o1 o2 X Y a1 b1 a2 b2 oj) {w : World} {b : Nat} (hb : w.heap[b]? = some (.cells #[.int .i64 X, .int .i64 Y, .int .i64 a1, .int .i64 b1, .int .i64 a2, .int .i64 b2, .int .i64 a3, .int .i64 b3] 38 (0, 0))) : w.cell? ⟨b, oj, none⟩ = some (.int .i64 o1) ∧ w.cell? ⟨b, oj + 1, none⟩ = some (.int .i64 o2) := by
  rcases h with h | h | h
  all_goals
    obtain ⟨-, rfl, rfl, rfl⟩ := h
    exact ⟨blk_cell hb _ _ rfl, blk_cell hb _ _ rfl⟩
end
/-- What one round asks of the two bodies. -/
def Both4 (o1 o2 j i : Int) (L M : List (Int × Int)) : Prop := (i < j → M = L) ∧ (j ≤ i → AllV (outL (o1, o2) L M)) ∧ good4 L ∧ good4 M
end Go.Proofs.YtalhkcmlacppjaaGreatDoor

