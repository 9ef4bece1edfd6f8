/- Mathematics of SweepArc: a point of the arc lies where the ends and the outer point lie. -/
import Derived.Test.YtnpadblfpaiofaaSwO
import Derived.Test.YtnpadblfpaiofaaHlV
import Derived.Deep.AppendLies
namespace Go.Proofs.Ytnpadblfpaiofaa
open Go.ChangeShapes Go.WideShapes Go.ChangeAt Go.RowKit
set_option linter.unusedVariables false
set_option linter.unusedSimpArgs false

theorem arc_core {F0 lu lv c s h k : Int} (fu : 0 ≤ F0 + lu) (fv : 0 ≤ F0 + lv) (fg : 0 ≤ 16 * F0 + 9 * (lu + lv)) (hs : 0 < s) (hc1 : 4056 ≤ c) (hc2 : c ≤ 4225) (hcs : c * c + s * s = 17850625) (hk : 0 ≤ k) (hh : 0 < h) (hw : k * (4225 + c) ≤ h * s) :
    0 ≤ s * (h * h + k * k) * F0 + (s * (h * h - k * k) - 2 * h * k * c) * lu + 8450 * h * k * lv := by
  have hss : s * s = (4225 - c) * (4225 + c) := by grind
  have p1 : 0 ≤ h * s - k * (4225 + c) := by omega
  have a1 : 0 ≤ h * (4225 - c) - k * s := by
    have t := Int.mul_nonneg p1 (show 0 ≤ s by omega)
    have e : (h * s - k * (4225 + c)) * s = (4225 + c) * (h * (4225 - c) - k * s) := by grind
    rw [e] at t
    exact nng_of_mul t (by omega)
  have g0 := Int.mul_nonneg hk a1
  have hk0 := Int.mul_nonneg (show 0 ≤ h by omega) hk
  have a2 : 0 ≤ 8450 * (h * k) - 9 * (k * (h * (4225 - c) - k * s)) := by
    have t1 := Int.mul_nonneg (show 0 ≤ c - 4056 by omega) hk0
    have t2 := Int.mul_nonneg (Int.mul_nonneg hk hk) (show 0 ≤ s by omega)
    have e : k * (h * (4225 - c) - k * s) = 169 * (h * k) - (c - 4056) * (h * k) - k * k * s := by grind
    rw [e]; omega
  have a3 : 0 ≤ s * h * h + 8 * (s * k * k) - h * k * (38025 - 7 * c) := by
    have p2 : 0 ≤ (4225 + c) * h - 8 * (s * k) := by
      have t := Int.mul_nonneg (show 0 ≤ 9 * c - 29575 by omega) (show 0 ≤ h by omega)
      have e : (4225 + c) * h - 8 * (s * k) = (9 * c - 29575) * h + 8 * (h * (4225 - c) - k * s) := by grind
      rw [e]; omega
    have t := Int.mul_nonneg p1 p2
    have e : (h * s - k * (4225 + c)) * ((4225 + c) * h - 8 * (s * k)) = (4225 + c) * (s * h * h + 8 * (s * k * k) - h * k * (38025 - 7 * c)) := by grind
    rw [e] at t
    exact nng_of_mul t (by omega)
  have q1 := Int.mul_nonneg g0 fg
  have q2 := Int.mul_nonneg a3 fu
  have q3 := Int.mul_nonneg a2 fv
  have e : s * (h * h + k * k) * F0 + (s * (h * h - k * k) - 2 * h * k * c) * lu + 8450 * h * k * lv
      = k * (h * (4225 - c) - k * s) * (16 * F0 + 9 * (lu + lv)) + (s * h * h + 8 * (s * k * k) - h * k * (38025 - 7 * c)) * (F0 + lu) + (8450 * (h * k) - 9 * (k * (h * (4225 - c) - k * s))) * (F0 + lv) := by grind
  rw [e]; omega
theorem arc_edge {E G o1 o2 ax ay p1 p2 x0 x1 y0 y1 h k : Int} (hx : x0 * x0 + x1 * x1 = 4225) (hy : y0 * y0 + y1 * y1 = 4225) (hs : 0 < x0 * y1 - x1 * y0) (hc1 : 4056 ≤ x0 * y0 + x1 * y1) (hc2 : x0 * y0 + x1 * y1 ≤ 4225) (hk : 0 ≤ k) (hh : 0 < h) (hw : k * (4225 + (x0 * y0 + x1 * y1)) ≤ h * (x0 * y1 - x1 * y0))
    (f1 : 0 ≤ E * (o2 + 16 * (p1 * x1 + p2 * x0) - ay) - G * (o1 + 16 * (p1 * x0 - p2 * x1) - ax))
    (f2 : 0 ≤ E * (o2 + 16 * (p1 * y1 + p2 * y0) - ay) - G * (o1 + 16 * (p1 * y0 - p2 * y1) - ax))
    (f3 : 0 ≤ E * (o2 + 9 * ((p1 * x1 + p2 * x0) + (p1 * y1 + p2 * y0)) - ay) - G * (o1 + 9 * ((p1 * x0 - p2 * x1) + (p1 * y0 - p2 * y1)) - ax)) :
    0 ≤ E * ((16 * (p1 * x1 + p2 * x0) * (h * h - k * k) + 16 * (p1 * x0 - p2 * x1) * 2 * h * k) + (h * h + k * k) * (o2 - ay)) - G * ((16 * (p1 * x0 - p2 * x1) * (h * h - k * k) - 16 * (p1 * x1 + p2 * x0) * 2 * h * k) + (h * h + k * k) * (o1 - ax)) := by
  obtain ⟨u1, hu1⟩ : ∃ z, p1 * x0 - p2 * x1 = z := ⟨_, rfl⟩
  obtain ⟨u2, hu2⟩ : ∃ z, p1 * x1 + p2 * x0 = z := ⟨_, rfl⟩
  obtain ⟨v1, hv1⟩ : ∃ z, p1 * y0 - p2 * y1 = z := ⟨_, rfl⟩
  obtain ⟨v2, hv2⟩ : ∃ z, p1 * y1 + p2 * y0 = z := ⟨_, rfl⟩
  obtain ⟨c, hc⟩ : ∃ z, x0 * y0 + x1 * y1 = z := ⟨_, rfl⟩
  obtain ⟨s, hs'⟩ : ∃ z, x0 * y1 - x1 * y0 = z := ⟨_, rfl⟩
  have hcs : c * c + s * s = 17850625 := by
    have e : c * c + s * s = (x0 * x0 + x1 * x1) * (y0 * y0 + y1 * y1) := by rw [← hc, ← hs']; grind
    rw [e, hx, hy]; rfl
  have i1 : 4225 * v1 = c * u1 - s * u2 := by rw [← hx, ← hv1, ← hc, ← hs', ← hu1, ← hu2]; grind
  have i2 : 4225 * v2 = c * u2 + s * u1 := by rw [← hx, ← hv2, ← hc, ← hs', ← hu1, ← hu2]; grind
  rw [hu1, hu2] at f1
  rw [hv1, hv2] at f2
  rw [hu1, hu2, hv1, hv2] at f3
  rw [hu1, hu2]
  rw [hc] at hc1 hc2 hw
  rw [hs'] at hs hw
  clear hu1 hu2 hv1 hv2 hc hs' hx hy
  obtain ⟨F0, hF⟩ : ∃ z, E * (o2 - ay) - G * (o1 - ax) = z := ⟨_, rfl⟩
  obtain ⟨lu, hlu⟩ : ∃ z, 16 * (E * u2 - G * u1) = z := ⟨_, rfl⟩
  obtain ⟨lv, hlv⟩ : ∃ z, 16 * (E * v2 - G * v1) = z := ⟨_, rfl⟩
  have fu : 0 ≤ F0 + lu := by rw [show F0 + lu = E * (o2 + 16 * u2 - ay) - G * (o1 + 16 * u1 - ax) by rw [← hF, ← hlu]; grind]; exact f1
  have fv : 0 ≤ F0 + lv := by rw [show F0 + lv = E * (o2 + 16 * v2 - ay) - G * (o1 + 16 * v1 - ax) by rw [← hF, ← hlv]; grind]; exact f2
  have fg : 0 ≤ 16 * F0 + 9 * (lu + lv) := by
    have e : 16 * F0 + 9 * (lu + lv) = 16 * (E * (o2 + 9 * (u2 + v2) - ay) - G * (o1 + 9 * (u1 + v1) - ax)) := by rw [← hF, ← hlu, ← hlv]; grind
    rw [e]; omega
  have key := arc_core fu fv fg hs hc1 hc2 hcs hk hh hw
  refine nng_of_mul (a := s) ?_ hs
  have e : s * (E * ((16 * u2 * (h * h - k * k) + 16 * u1 * 2 * h * k) + (h * h + k * k) * (o2 - ay)) - G * ((16 * u1 * (h * h - k * k) - 16 * u2 * 2 * h * k) + (h * h + k * k) * (o1 - ax)))
      = s * (h * h + k * k) * F0 + (s * (h * h - k * k) - 2 * h * k * c) * lu + 8450 * h * k * lv := by
    have e2 : 8450 * h * k * lv = 2 * h * k * (16 * (E * (4225 * v2) - G * (4225 * v1))) := by rw [← hlv]; grind
    rw [e2, i1, i2, ← hF, ← hlu]
    grind
  rw [e]; exact key

def fit41 (p : Int × Int) : Int × Int := (p.1.tmod 41, p.2.tmod 41)
def turnP (o x p : Int × Int) : Int × Int := (o.1 + 16 * (p.1 * x.1 - p.2 * x.2), o.2 + 16 * (p.1 * x.2 + p.2 * x.1))
def turnL (o x : Int × Int) (l : List (Int × Int)) : List (Int × Int) := (l.take 12).map fun p => turnP o x (fit41 p)
theorem turnL_len (o x : Int × Int) (l : List (Int × Int)) : (turnL o x l).length = min 12 l.length := by unfold turnL; rw [List.length_map, List.length_take]
theorem turnL_at (o x : Int × Int) (l : List (Int × Int)) {k : Nat} (h : k < l.length) (h' : k < 12) : gp (turnL o x l) k = turnP o x (fit41 (gp l k)) := by
  rw [gp_lt (by rw [turnL_len]; omega), gp_lt h]
  unfold turnL
  rw [List.getElem_map, List.getElem_take]
theorem tmod_bd {x : Int} {m : Int} (hm : 0 < m) : -(m - 1) ≤ x.tmod m ∧ x.tmod m ≤ m - 1 := by
  by_cases h : 0 ≤ x
  · rw [Int.tmod_eq_emod_of_nonneg h]
    have := Int.emod_nonneg x (show m ≠ 0 by omega)
    have := Int.emod_lt_of_pos x hm
    omega
  · have e : x.tmod m = -((-x).tmod m) := by rw [Int.neg_tmod, Int.neg_neg]
    rw [e, Int.tmod_eq_emod_of_nonneg (by omega)]
    have := Int.emod_nonneg (-x) (show m ≠ 0 by omega)
    have := Int.emod_lt_of_pos (-x) hm
    omega
theorem turn_bd {o x p : Int × Int} (ho : (-16000 ≤ o.1 ∧ o.1 ≤ 16000) ∧ -16000 ≤ o.2 ∧ o.2 ≤ 16000) (hx : (-65 ≤ x.1 ∧ x.1 ≤ 65) ∧ -65 ≤ x.2 ∧ x.2 ≤ 65) (hp : (-40 ≤ p.1 ∧ p.1 ≤ 40) ∧ -40 ≤ p.2 ∧ p.2 ≤ 40) : (-100000 ≤ (turnP o x p).1 ∧ (turnP o x p).1 ≤ 100000) ∧ -100000 ≤ (turnP o x p).2 ∧ (turnP o x p).2 ≤ 100000 := by
  have m1 := prod_bd hp.1 hx.1
  have m2 := prod_bd hp.2 hx.2
  have m3 := prod_bd hp.1 hx.2
  have m4 := prod_bd hp.2 hx.1
  unfold turnP
  simp only
  omega
theorem out_turn (o x y p : Int × Int) : outP o (turnP o x p) (turnP o y p) = (o.1 + 9 * ((p.1 * x.1 - p.2 * x.2) + (p.1 * y.1 - p.2 * y.2)), o.2 + 9 * ((p.1 * x.2 + p.2 * x.1) + (p.1 * y.2 + p.2 * y.1))) := by
  have key : ∀ o A B : Int, strI o (o + 16 * A) (o + 16 * B) = o + 9 * (A + B) := fun o A B => by
    unfold strI
    rw [show 9 * (o + 16 * A + (o + 16 * B) - 2 * o) = 16 * (9 * (A + B)) by omega, Int.mul_tdiv_cancel_left _ (by decide)]
  exact Prod.ext (key _ _ _) (key _ _ _)
theorem tab_facts (q : Nat) (hq : q < 9) {x0 x1 y0 y1 : Int} (hx : tabQ.getD q (0, 0) = (x0, x1)) (hy : tabQ.getD (q + 1) (0, 0) = (y0, y1)) : x0 * x0 + x1 * x1 = 4225 ∧ y0 * y0 + y1 * y1 = 4225 ∧ 0 < x0 * y1 - x1 * y0 ∧ 4056 ≤ x0 * y0 + x1 * y1 ∧ x0 * y0 + x1 * y1 ≤ 4225 := by
  have hc : q = 0 ∨ q = 1 ∨ q = 2 ∨ q = 3 ∨ q = 4 ∨ q = 5 ∨ q = 6 ∨ q = 7 ∨ q = 8 := by omega
  rcases hc with rfl | rfl | rfl | rfl | rfl | rfl | rfl | rfl | rfl <;> (cases hx; cases hy; decide)
/-- The arc lies in the hull, edge by edge. -/
theorem arc_in {o x y : Int × Int} {l u : List (Int × Int)} {h k : Int} (hx : x.1 * x.1 + x.2 * x.2 = 4225) (hy : y.1 * y.1 + y.2 * y.2 = 4225) (hs : 0 < x.1 * y.2 - x.2 * y.1) (hc1 : 4056 ≤ x.1 * y.1 + x.2 * y.2) (hc2 : x.1 * y.1 + x.2 * y.2 ≤ 4225) (hk : 0 ≤ k) (hh : 0 < h) (hw : k * (4225 + (x.1 * y.1 + x.2 * y.2)) ≤ h * (x.1 * y.2 - x.2 * y.1))
    (hH : IsHull (ptsL o (turnL o x l) (turnL o y l)) u) {i : Nat} (hi : i < l.length) (hi' : i < 12) {U1 U2 W1 W2 : Int} (e1 : U1 = cx (turnL o x l) i - o.1) (e2 : U2 = cy (turnL o x l) i - o.2) (e3 : W1 = U1 * (h * h - k * k) - U2 * 2 * h * k) (e4 : W2 = U2 * (h * h - k * k) + U1 * 2 * h * k) :
    ∀ j, j < u.length → 0 ≤ (cx u (nx u.length j) - cx u j) * (W2 + (h * h + k * k) * (o.2 - cy u j)) - (cy u (nx u.length j) - cy u j) * (W1 + (h * h + k * k) * (o.1 - cx u j)) := fun j hj => by
  have g1 := turnL_at o x l hi hi'
  have g2 := turnL_at o y l hi hi'
  have l1 := turnL_len o x l
  have l2 := turnL_len o y l
  obtain ⟨p, hp⟩ : ∃ p, fit41 (gp l i) = p := ⟨_, rfl⟩
  rw [hp] at g1 g2
  have m1 : turnP o x p ∈ ptsL o (turnL o x l) (turnL o y l) := by
    unfold ptsL; rw [← g1]; exact List.mem_append_left _ (List.mem_append_left _ (gp_mem (by omega)))
  have m2 : turnP o y p ∈ ptsL o (turnL o x l) (turnL o y l) := by
    unfold ptsL; rw [← g2]; exact List.mem_append_left _ (List.mem_append_right _ (gp_mem (by omega)))
  have m3 : outP o (turnP o x p) (turnP o y p) ∈ ptsL o (turnL o x l) (turnL o y l) := by
    unfold ptsL
    rw [← g1, ← g2, ← outL_at o _ _ (by omega) (show i < (turnL o x l).length by omega)]
    exact List.mem_append_right _ (gp_mem (by rw [outL_len _ _ _ (by omega)]; omega))
  have f1 := hH.2.2.1 j hj _ m1
  have f2 := hH.2.2.1 j hj _ m2
  have f3 := hH.2.2.1 j hj _ m3
  rw [out_turn] at f3
  have a1 : U1 = 16 * (p.1 * x.1 - p.2 * x.2) := by
    rw [e1, show cx (turnL o x l) i = (turnP o x p).1 from congrArg Prod.fst g1]
    unfold turnP; simp only; omega
  have a2 : U2 = 16 * (p.1 * x.2 + p.2 * x.1) := by
    rw [e2, show cy (turnL o x l) i = (turnP o x p).2 from congrArg Prod.snd g1]
    unfold turnP; simp only; omega
  rw [e3, e4, a1, a2]
  exact arc_edge (E := cx u (nx u.length j) - cx u j) (G := cy u (nx u.length j) - cy u j) (ax := cx u j) (ay := cy u j) hx hy hs hc1 hc2 hk hh hw f1 f2 f3
/-- What an append of new cells makes: the same block or the next one. -/
theorem wpList_append_at {P : Program} {w : World} {ops : Array Oper} {rest : List Oper} {o : Oper} {a : Act} {Q : Exit → Act → World → Prop} (hgd : o.guard = none) (s x : Operand) (t : TypeId)
    (ho : o.op = .call { callee := .builtin .append, args := #[s, x], argTypes := #[t, t] })
    (base : Nat) (e : TypeId) (i : TypeInfo) (z : Value) (size bytes : Nat) (ht : P.underlying t = some (.slice e)) (hi : P.info? e = some i) (hz : i.zero = some z)
    (hsize : i.size = size) (hby : i.bytes = bytes) (hzs : z.cells.size = size) (hsz : 0 < size)
    (v : Value) (n : Nat) (xs : List Value) (hs : a.eval s = v) (hown : w.ownsRow base e size v n xs)
    (ad : Addr) (m c : Nat) (news : List Value) (hx : a.eval x = .slice (some ad) m c) (hl : news.length = m * size) (hnews : ∀ j u, news[j]? = some u → w.cell? (ad.add j) = some u) (h1 : ∀ u ∈ news, u.oneCell' = true)
    (hm : 0 < m) (h63 : n + m ≤ maxLen) (hbytes : (n + m) * bytes ≤ 140737488355328) (hbase : base ≤ w.heap.size)
    (h : ∀ g cap w', w'.ownsRow base e size (.slice (some ⟨g, 0, none⟩) (n + m) cap) (n + m) (xs ++ news) → w.grownBy w' v.ownBlock → (v.ownBlock = some g ∨ g = w.heap.size) → g < w'.heap.size → wpList P ops Q rest (a.put o.dst (.slice (some ⟨g, 0, none⟩) (n + m) cap)) w') : wpList P ops Q (o :: rest) a w :=
  wpList_plain hgd fun _ hK => wp_append_lies w s x t ho base e i z size bytes ht hi hz hsize hby hzs hsz v n xs hs hown ad m c news hx hl hnews h1 hm h63 hbytes hbase w.heap.size rfl fun g cap w' a b c d => hK _ _ (h g cap w' a b c d)
end Go.Proofs.Ytnpadblfpaiofaa
