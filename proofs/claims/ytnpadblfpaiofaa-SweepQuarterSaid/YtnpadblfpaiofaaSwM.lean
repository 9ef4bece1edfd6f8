/- Mathematics of SweepSymmetric and SweepQuarter: the points exchanged, translated, turned; the hull of turned points. -/
import Derived.Test.YtnpadblfpaiofaaSwJ
import Derived.Test.YtnpadblfpaiofaaHuH
namespace Go.Proofs.Ytnpadblfpaiofaa
open Go.ChangeShapes Go.WideShapes Go.ChangeAt Go.RowKit
set_option linter.unusedVariables false
set_option linter.unusedSimpArgs false

theorem hullL_congr {l m : List (Int × Int)} (h : ∀ q, q ∈ l ↔ q ∈ m) : hullL l = hullL m := by
  rcases hull_cases m with ⟨e, h2⟩ | ⟨_, h2⟩
  · rw [e]; exact hullL_nil fun a ha b hb c hc => h2 a ((h a).1 ha) b ((h b).1 hb) c ((h c).1 hc)
  · exact hullL_eq (isHull_mem (fun q => (h q).symm) h2)
theorem outP_swap (o a b : Int × Int) : outP o b a = outP o a b := by unfold outP strI; rw [Int.add_comm b.1 a.1, Int.add_comm b.2 a.2]
theorem outL_swap (o : Int × Int) : ∀ a b : List (Int × Int), outL o b a = outL o a b
  | [], [] => rfl
  | [], _ :: _ => rfl
  | _ :: _, [] => rfl
  | x :: a, y :: b => by
    show outP o y x :: outL o b a = outP o x y :: outL o a b
    rw [outP_swap, outL_swap o a b]
theorem pts_swap (o : Int × Int) (a b : List (Int × Int)) (q : Int × Int) : q ∈ ptsL o b a ↔ q ∈ ptsL o a b := by
  unfold ptsL
  rw [outL_swap]
  simp only [List.mem_append]
  constructor
  · rintro ((h | h) | h)
    · exact .inl (.inr h)
    · exact .inl (.inl h)
    · exact .inr h
  · rintro ((h | h) | h)
    · exact .inl (.inr h)
    · exact .inl (.inl h)
    · exact .inr h
theorem reg_swap (o : Int × Int) (a b : List (Int × Int)) : regL o b a = regL o a b := by
  unfold regL
  by_cases h : a.length = b.length
  · rw [hullL_congr (pts_swap o a b), h]
  · rw [if_neg (fun k => h k.1.symm), if_neg (fun k => h k.1)]
theorem strI_mov (c a b d : Int) : strI (c + d) (a + d) (b + d) = strI c a b + d := by
  unfold strI
  rw [show a + d + (b + d) - 2 * (c + d) = a + b - 2 * c by omega]; omega
theorem outL_mov (o : Int × Int) (c d : Int) : ∀ a b : List (Int × Int), outL (o.1 + c, o.2 + d) (movL a c d) (movL b c d) = movL (outL o a b) c d
  | [], [] => rfl
  | [], _ :: _ => rfl
  | _ :: _, [] => rfl
  | x :: a, y :: b => by
    show outP (o.1 + c, o.2 + d) (x.1 + c, x.2 + d) (y.1 + c, y.2 + d) :: outL (o.1 + c, o.2 + d) (movL a c d) (movL b c d) = ((outP o x y).1 + c, (outP o x y).2 + d) :: movL (outL o a b) c d
    rw [outL_mov o c d a b]
    congr 1
    exact Prod.ext (strI_mov _ _ _ _) (strI_mov _ _ _ _)
theorem movL_app (a b : List (Int × Int)) (c d : Int) : movL (a ++ b) c d = movL a c d ++ movL b c d := by unfold movL; rw [List.map_append]
theorem pts_mov (o : Int × Int) (a b : List (Int × Int)) (c d : Int) : ptsL (o.1 + c, o.2 + d) (movL a c d) (movL b c d) = movL (ptsL o a b) c d := by
  unfold ptsL; rw [outL_mov, movL_app, movL_app]
theorem reg_mov (o : Int × Int) (a b : List (Int × Int)) (c d : Int) : regL (o.1 + c, o.2 + d) (movL a c d) (movL b c d) = movL (regL o a b) c d := by
  unfold regL
  rw [movL_len, movL_len, pts_mov, movL_hull]
  split
  · rfl
  · rfl

/-- A quarter turn about o. -/
def qr (o p : Int × Int) : Int × Int := (o.1 - (p.2 - o.2), o.2 + p.1 - o.1)
def qrL (o : Int × Int) (l : List (Int × Int)) : List (Int × Int) := l.map (qr o)
theorem qr_dt (o a b c : Int × Int) : dt (qr o a) (qr o b) (qr o c) = dt a b c := by unfold dt det qr; simp only; grind
theorem strI_qr1 (o p a b : Int) : strI o (o - (a - p)) (o - (b - p)) = o - (strI p a b - p) := by
  unfold strI
  have e : 9 * (o - (a - p) + (o - (b - p)) - 2 * o) = -(9 * (a + b - 2 * p)) := by omega
  rw [e, Int.neg_tdiv]; omega
theorem strI_qr2 (o p a b : Int) : strI p (p + a - o) (p + b - o) = p + strI o a b - o := by
  unfold strI
  have e : p + a - o + (p + b - o) - 2 * p = a + b - 2 * o := by omega
  rw [e]; omega
theorem outL_qr (o : Int × Int) : ∀ a b : List (Int × Int), outL o (qrL o a) (qrL o b) = qrL o (outL o a b)
  | [], [] => rfl
  | [], _ :: _ => rfl
  | _ :: _, [] => rfl
  | x :: a, y :: b => by
    show outP o (qr o x) (qr o y) :: outL o (qrL o a) (qrL o b) = qr o (outP o x y) :: qrL o (outL o a b)
    rw [outL_qr o a b]
    congr 1
    exact Prod.ext (strI_qr1 _ _ _ _) (strI_qr2 _ _ _ _)
theorem pts_qr (o : Int × Int) (a b : List (Int × Int)) : ptsL o (qrL o a) (qrL o b) = qrL o (ptsL o a b) := by
  unfold ptsL
  rw [outL_qr]
  unfold qrL
  rw [List.map_append, List.map_append]
theorem qrL_len (o : Int × Int) (l : List (Int × Int)) : (qrL o l).length = l.length := by unfold qrL; rw [List.length_map]
theorem qrL_at (o : Int × Int) (l : List (Int × Int)) {k : Nat} (h : k < l.length) : gp (qrL o l) k = qr o (gp l k) := by
  rw [gp_lt (by rw [qrL_len]; exact h), gp_lt h]
  unfold qrL
  rw [List.getElem_map]
theorem least_ex (f : Nat → Int × Int) : ∀ m, 0 < m → ∃ k, k < m ∧ ∀ i, i < m → lle (f k) (f i)
  | 1, _ => ⟨0, by omega, fun i hi => by
      have e : i = 0 := by omega
      rw [e]; exact lle_refl _⟩
  | m + 2, _ => by
    obtain ⟨k, hk, h⟩ := least_ex f (m + 1) (by omega)
    rcases lle_total (f k) (f (m + 1)) with g | g
    · exact ⟨k, by omega, fun i hi => by
        by_cases e : i = m + 1
        · rw [e]; exact g
        · exact h i (by omega)⟩
    · exact ⟨m + 1, by omega, fun i hi => by
        by_cases e : i = m + 1
        · rw [e]; exact lle_refl _
        · exact lle_trans g (h i (by omega))⟩
/-- The list from its element k on. -/
def rotK (h : List (Int × Int)) (k : Nat) : List (Int × Int) := (List.range h.length).map fun i => gp h ((i + k) % h.length)
theorem rotK_len (h : List (Int × Int)) (k : Nat) : (rotK h k).length = h.length := by unfold rotK; simp
theorem rotK_at (h : List (Int × Int)) (k : Nat) {i : Nat} (hi : i < h.length) : gp (rotK h k) i = gp h ((i + k) % h.length) := by
  rw [gp_lt (by rw [rotK_len]; exact hi)]
  unfold rotK
  simp
theorem rotK_nx (n i k : Nat) : (nx n i + k) % n = nx n ((i + k) % n) := by
  unfold nx
  rw [Nat.mod_add_mod, Nat.mod_add_mod]
  congr 1
  omega
theorem mod_shift {n k : Nat} {i j : Nat} (hi : i < n) (hj : j < n) (h : (i + k) % n = (j + k) % n) : i = j := by
  have h1 := Nat.div_add_mod (i + k) n
  have h2 := Nat.div_add_mod (j + k) n
  obtain ⟨a, ha⟩ : ∃ a, (i + k) / n = a := ⟨_, rfl⟩
  obtain ⟨b, hb⟩ : ∃ b, (j + k) / n = b := ⟨_, rfl⟩
  rw [ha] at h1
  rw [hb] at h2
  rcases Nat.lt_trichotomy a b with g | g | g
  · have := Nat.mul_le_mul_left n (show a + 1 ≤ b from g)
    rw [Nat.mul_add, Nat.mul_one] at this
    omega
  · subst g; omega
  · have := Nat.mul_le_mul_left n (show b + 1 ≤ a from g)
    rw [Nat.mul_add, Nat.mul_one] at this
    omega
theorem mod_back {n k j : Nat} (hk : k < n) (hj : j < n) : ∃ i, i < n ∧ (i + k) % n = j := by
  refine ⟨(j + (n - k)) % n, Nat.mod_lt _ (by omega), ?_⟩
  rw [Nat.mod_add_mod, show j + (n - k) + k = j + n by omega, Nat.add_mod_right, Nat.mod_eq_of_lt hj]
theorem qr_hull {l h : List (Int × Int)} (o : Int × Int) (hH : IsHull l h) : ∃ k, k < h.length ∧ IsHull (qrL o l) (rotK (qrL o h) k) := by
  obtain ⟨⟨h3, hc⟩, hm, hw, _⟩ := hH
  obtain ⟨k, hk, hl⟩ := least_ex (fun i => gp (qrL o h) i) h.length (by omega)
  have L := qrL_len o h
  refine ⟨k, hk, ⟨by rw [rotK_len, L]; exact h3, ?_⟩, ?_, ?_, ?_⟩
  · rw [rotK_len, L]
    intro i j hi hj h1 h2
    have hn : nx h.length i < h.length := Nat.mod_lt _ (by omega)
    rw [rotK_at _ _ (by rw [L]; exact hi), rotK_at _ _ (by rw [L]; exact hn), rotK_at _ _ (by rw [L]; exact hj), L, rotK_nx]
    have m1 : (i + k) % h.length < h.length := Nat.mod_lt _ (by omega)
    have m2 : (j + k) % h.length < h.length := Nat.mod_lt _ (by omega)
    have m3 : nx h.length ((i + k) % h.length) < h.length := Nat.mod_lt _ (by omega)
    rw [qrL_at o h m1, qrL_at o h m3, qrL_at o h m2, qr_dt]
    refine hc _ _ m1 m2 (fun e => h1 (mod_shift hj hi e)) (fun e => h2 ?_)
    rw [← rotK_nx] at e
    exact mod_shift hj hn e
  · rw [rotK_len, L]
    intro i hi
    have m1 : (i + k) % h.length < h.length := Nat.mod_lt _ (by omega)
    rw [rotK_at _ _ (by rw [L]; exact hi), L, qrL_at o h m1]
    exact List.mem_map.2 ⟨_, hm _ m1, rfl⟩
  · rw [rotK_len, L]
    intro i hi q hq
    obtain ⟨p, hp, rfl⟩ := List.mem_map.1 hq
    have hn : nx h.length i < h.length := Nat.mod_lt _ (by omega)
    have m1 : (i + k) % h.length < h.length := Nat.mod_lt _ (by omega)
    have m3 : nx h.length ((i + k) % h.length) < h.length := Nat.mod_lt _ (by omega)
    rw [rotK_at _ _ (by rw [L]; exact hi), rotK_at _ _ (by rw [L]; exact hn), L, rotK_nx, qrL_at o h m1, qrL_at o h m3, qr_dt]
    exact hw _ m1 p hp
  · rw [rotK_len, L]
    intro i hi
    have m1 : (i + k) % h.length < h.length := Nat.mod_lt _ (by omega)
    rw [rotK_at _ _ (by rw [L]; omega), rotK_at _ _ (by rw [L]; exact hi), L, Nat.zero_add, Nat.mod_eq_of_lt hk]
    exact hl _ m1
/-- The hull of turned points has the turned corners. -/
theorem qr_corners (o : Int × Int) (l : List (Int × Int)) : (hullL (qrL o l)).length = (hullL l).length ∧ ∀ q, q ∈ hullL l → qr o q ∈ hullL (qrL o l) := by
  rcases hull_cases l with ⟨e, h⟩ | ⟨_, h⟩
  · have : hullL (qrL o l) = [] := hullL_nil fun a ha b hb c hc => by
      obtain ⟨a', ha', rfl⟩ := List.mem_map.1 ha
      obtain ⟨b', hb', rfl⟩ := List.mem_map.1 hb
      obtain ⟨c', hc', rfl⟩ := List.mem_map.1 hc
      rw [qr_dt]; exact h _ ha' _ hb' _ hc'
    rw [this, e]
    exact ⟨rfl, fun q hq => by cases hq⟩
  · obtain ⟨k, hk, hK⟩ := qr_hull o h
    rw [hullL_eq hK]
    refine ⟨by rw [rotK_len, qrL_len], fun q hq => ?_⟩
    obtain ⟨j, hj, e⟩ := mem_gp hq
    obtain ⟨i, hi, e2⟩ := mod_back hk hj
    have := rotK_at (qrL o (hullL l)) k (i := i) (by rw [qrL_len]; exact hi)
    rw [qrL_len, e2, qrL_at o _ hj, e] at this
    rw [← this]
    exact gp_mem (by rw [rotK_len, qrL_len]; exact hi)
def In9 (x : Int) : Prop := -30000000 ≤ x ∧ x ≤ 30000000
theorem in9_V {x : Int} (h : In9 x) : InV x := by unfold In9 at h; unfold InV; omega
theorem qrL_in9 {o : Int × Int} {l : List (Int × Int)} (h1 : -10000000 ≤ o.1 ∧ o.1 ≤ 10000000) (h2 : -10000000 ≤ o.2 ∧ o.2 ≤ 10000000) (h : Small7 l) : ∀ q ∈ qrL o l, In9 q.1 ∧ In9 q.2 := fun q hq => by
  obtain ⟨p, hp, rfl⟩ := List.mem_map.1 hq
  have := h p hp
  unfold In9 qr
  simp only
  omega
theorem str_in9 {c a b : Int} (hc : In9 c) (ha : In9 a) (hb : In9 b) : InV (strI c a b) := by
  unfold strI
  unfold In9 at *
  unfold InV
  obtain ⟨x, hx⟩ : ∃ x, 9 * (a + b - 2 * c) = x := ⟨_, rfl⟩
  rw [hx]
  by_cases h : 0 ≤ x
  · rw [Int.tdiv_eq_ediv_of_nonneg h]; omega
  · have e : x.tdiv 16 = -((-x).tdiv 16) := by rw [Int.neg_tdiv, Int.neg_neg]
    rw [e, Int.tdiv_eq_ediv_of_nonneg (by omega)]; omega
theorem out_allV9 {o : Int × Int} {a b : List (Int × Int)} (h1 : In9 o.1) (h2 : In9 o.2) (ha : ∀ q ∈ a, In9 q.1 ∧ In9 q.2) (hb : ∀ q ∈ b, In9 q.1 ∧ In9 q.2) : AllV (outL o a b) := (allV_iff _).2 fun q hq => by
  unfold outL at hq
  obtain ⟨i, hi, e⟩ := List.mem_iff_getElem.1 hq
  rw [List.length_zipWith] at hi
  rw [List.getElem_zipWith] at e
  have p1 := ha _ (List.getElem_mem (show i < a.length by omega))
  have p2 := hb _ (List.getElem_mem (show i < b.length by omega))
  rw [← e]
  exact ⟨str_in9 h1 p1.1 p2.1, str_in9 h2 p1.2 p2.2⟩
end Go.Proofs.Ytnpadblfpaiofaa
