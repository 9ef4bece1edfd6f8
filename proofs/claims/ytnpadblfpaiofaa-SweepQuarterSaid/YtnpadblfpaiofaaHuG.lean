/- What the parts of a valid polygon are: mathematics alone. -/
import Derived.Test.YtnpadblfpaiofaaHuF
import Derived.Test.YtnpadblfpaiofaaHuD
import Derived.Test.YtnpadblfpaiofaaHlM
import Derived.Test.YtnpadblfpaiofaaHlR
namespace Go.Proofs.Ytnpadblfpaiofaa

theorem clips_len {ps : List (Int × Int)} {parts : List (List (Int × Int))} (h : Clips ps parts) : parts.length + 2 = ps.length := by
  induction h with
  | done h => simp [h]
  | step h4 he hE _ ih =>
    have hl := List.length_eraseIdx_of_lt (l := _) (nx_lt' (n := _) he)
    rw [hl] at ih
    rw [List.length_cons]; omega
theorem tri_conv3 {t : List (Int × Int)} (h3 : t.length = 3) (hd : 0 < det (cx t 0) (cy t 0) (cx t 1) (cy t 1) (cx t 2) (cy t 2)) : Conv t := by
  have hd : 0 < dt (gp t 0) (gp t 1) (gp t 2) := hd
  refine ⟨by omega, fun i j hi hj h1 h2 => ?_⟩
  rw [h3] at hi hj h2 ⊢
  have : i = 0 ∨ i = 1 ∨ i = 2 := by omega
  have r1 : dt (gp t 1) (gp t 2) (gp t 0) = dt (gp t 0) (gp t 1) (gp t 2) := by unfold dt det; grind
  have r2 : dt (gp t 2) (gp t 0) (gp t 1) = dt (gp t 0) (gp t 1) (gp t 2) := by unfold dt det; grind
  rcases this with rfl | rfl | rfl
  · obtain rfl : j = 2 := by have : nx 3 0 = 1 := rfl; omega
    exact hd
  · obtain rfl : j = 0 := by have : nx 3 1 = 2 := rfl; omega
    show 0 < dt (gp t 1) (gp t 2) (gp t 0)
    rw [r1]; exact hd
  · obtain rfl : j = 1 := by have : nx 3 2 = 0 := rfl; omega
    show 0 < dt (gp t 2) (gp t 0) (gp t 1)
    rw [r2]; exact hd
theorem dec_clips {ps : List (Int × Int)} (h : validP ps = true) (hc : convB ps = false) : Clips ps (decL ps) := by
  unfold decL
  rw [hc]
  exact clipL_clips (ccw_valid h).good
theorem dec_conv {ps : List (Int × Int)} (hc : convB ps = true) : decL ps = [ps] := by unfold decL; rw [hc]; rfl
theorem valid_parts {ps : List (Int × Int)} (h : validP ps = true) : 3 ≤ ps.length ∧ ps.length ≤ 12 ∧ AllV ps := by
  unfold validP at h
  rw [Bool.and_eq_true] at h
  exact (validC_iff ps).1 h.1
theorem area_bd {ps : List (Int × Int)} (h : AllV ps) (h3 : 3 ≤ ps.length) (h12 : ps.length ≤ 12) : -6000000000000000000 ≤ area2 ps ∧ area2 ps ≤ 6000000000000000000 := by
  rw [← fan_area (show 2 ≤ ps.length by omega)]
  exact fan_bd h h12 (ps.length - 2) (by omega)
theorem area_tri {t : List (Int × Int)} (h3 : t.length = 3) : area2 t = det (cx t 0) (cy t 0) (cx t 1) (cy t 1) (cx t 2) (cy t 2) := by
  match t, h3 with
  | [a, b, c], _ =>
    show sumE (crossE [a, b, c]) (List.range 3) = det a.1 a.2 b.1 b.2 c.1 c.2
    rw [sum3]
    unfold crossE
    simp only [List.length_cons, List.length_nil, Nat.reduceAdd, nx3.1, nx3.2.1, nx3.2.2]
    show a.1 * b.2 - a.2 * b.1 + (b.1 * c.2 - b.2 * c.1 + (c.1 * a.2 - c.2 * a.1 + 0)) = _
    unfold det
    grind
theorem sumA_take {l : List (List (Int × Int))} {k : Nat} (h : k < l.length) : sumA (l.take (k + 1)) = sumA (l.take k) + area2 (l.getD k []) := by
  induction l generalizing k with
  | nil => simp at h
  | cons t l ih =>
    cases k with
    | zero => simp [sumA]
    | succ k =>
      rw [List.take_succ_cons, List.take_succ_cons, sumA_cons, sumA_cons, ih (by simpa using h), List.getD_cons_succ]
      omega
theorem sumA_pre {l : List (List (Int × Int))} (hp : ∀ t, t ∈ l → 0 ≤ area2 t) : ∀ k, 0 ≤ sumA (l.take k) ∧ sumA (l.take k) ≤ sumA l := by
  intro k
  induction l generalizing k with
  | nil => simp [sumA]
  | cons t l ih =>
    have h1 := hp t (List.mem_cons_self ..)
    cases k with
    | zero =>
      have := ih (fun t ht => hp t (List.mem_cons_of_mem _ ht)) l.length
      rw [List.take_length] at this
      rw [List.take_zero, sumA_cons]
      show (0 : Int) ≤ 0 ∧ 0 ≤ area2 t + sumA l
      omega
    | succ k =>
      have := ih (fun t ht => hp t (List.mem_cons_of_mem _ ht)) k
      rw [List.take_succ_cons, sumA_cons, sumA_cons]
      omega
theorem getD_mem' {l : List (List (Int × Int))} {k : Nat} (h : k < l.length) : l.getD k [] ∈ l := by
  rw [List.getD_eq_getElem?_getD, List.getElem?_eq_getElem h]
  exact List.getElem_mem h
theorem allV_sub {ps t : List (Int × Int)} (h : AllV ps) (hs : ∀ y, y ∈ t → y ∈ ps) : AllV t := (allV_iff t).2 fun q hq => (allV_iff ps).1 h q (hs q hq)
end Go.Proofs.Ytnpadblfpaiofaa
