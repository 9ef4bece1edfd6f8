/- Contracts of slices.Clone and slices.Delete at points, of hull.triangleAt and hull.contains. Condition: the slice reads as the list says; the coordinates are bounded. -/
import Derived.Test.YtnpadblfpaiofaaHlD
import Derived.Deep.RegionLaw
import Derived.Lib.SliceRun
namespace Go.Proofs.Ytnpadblfpaiofaa
open Go.ChangeShapes Go.WideShapes Go.ChangeAt Go.RowKit
set_option linter.unusedVariables false
set_option linter.unusedSimpArgs false

theorem clone_is (ao : Option Addr) (n c : Nat) (ps : List (Int × Int)) (w : World) (hn : ps.length = n) (h0 : 0 < n) (hle : n ≤ 1000000) (hP : PRow w ao ps) :
    Calls Try.prog 50 #[.slice ao n c] w fun e w' => (∃ g cap, e = .returned (.slice (some ⟨g, 0, none⟩) n cap) ∧ n ≤ cap ∧ cap ≤ maxLen ∧ w.heap.size ≤ g ∧ g < w'.heap.size ∧ Sort.HoldsK encP 2 w' g 0 ps.toArray) ∧ Below w.heap.size w w' := by
  subst hn
  obtain ⟨i0, hi, hz0, hz1', hz2⟩ := info_parts infoP
  obtain ⟨b, o, rfl, _, _⟩ := prow_at hP h0
  have C := AnyE.slices_Clone cloneL i0 (.agg #[.int .i64 0, .int .i64 0]) 2 16 hi hz0 hz1' hz2 rfl (by decide) Try.sizeOf35 b o ps.length c (flat ps) w (by rw [flat_len]) (by unfold maxLen; omega) (by omega) (fun j u hu => by
    have := prow_flat hP j u hu
    rwa [Addr.add_lit] at this) (flat_one ps)
  refine C.mono fun e w' ⟨v', he, hown, hne, hb⟩ => ⟨?_, hb⟩
  have hown' : w'.ownsRow w.heap.size 35 2 v' ps.length (flat ps) := hown
  rcases ownP_row hown' with ⟨h, _⟩ | ⟨g, cap, h, h1, h2, h3⟩
  · exact absurd h hne
  · refine ⟨g, cap, by rw [he, h], ?_, ?_, h1, h2, h3⟩
    · rcases hown'.2 with ⟨h', _⟩ | ⟨g', cap', cur, h', _, _, k3, k4, _⟩
      · exact absurd h' hne
      · rw [h] at h'; cases h'; exact k3
    · rcases hown'.2 with ⟨h', _⟩ | ⟨g', cap', cur, h', _, _, k3, k4, _⟩
      · exact absurd h' hne
      · rw [h] at h'; cases h'; exact k4

/-- 'clear' of one element of two cells. -/
theorem run_clear_one (w : World) (b o c : Nat) (ty : TypeId)
    (hc : ∀ j, j < 2 → (w.cell? ⟨b, o + j, none⟩).isSome = true) (hf : ∀ j, j < 2 → w.frozen? ⟨b, o + j, none⟩ = false) :
    (Builtin.clear_ #[23] ty #[.slice (some ⟨b, o, none⟩) 1 c]).run Try.prog w = .ok (.tuple #[]) (w.setCells b o [.int .i64 0, .int .i64 0]) := by
  have hzc : (Builtin.zeroCells (Value.agg #[.int .i64 0, .int .i64 0]).cells 1).toList = [.int .i64 0, .int .i64 0] := by kernel_rfl
  have hst := run_storeCells_cells (P := Try.prog) b o [.int .i64 0, .int .i64 0] 0 w (by simpa using hc) (by simpa using hf) (by intro v hv'; simp at hv'; subst hv'; rfl)
  simp only [Nat.add_zero] at hst
  simp [Builtin.clear_, run_underlying Try.underlying23, Try.zeroValue35, hzc, hst]

/-- What lies behind the deletion of point i: cell by cell. -/
def cellD (ps : List (Int × Int)) (i t : Nat) : Value := if t < i * 2 then (flat ps).getD t undef else (flat ps).getD (t + 2) undef
theorem flat_drop (ps : List (Int × Int)) (i : Nat) : flat (ps.drop i) = (flat ps).drop (i * 2) := by
  induction ps generalizing i with
  | nil => simp [flat]
  | cons p ps ih =>
    cases i with
    | zero => simp
    | succ i =>
      rw [List.drop_succ_cons, ih i]
      show _ = List.drop ((i + 1) * 2) (.int .i64 p.1 :: .int .i64 p.2 :: flat ps)
      rw [show (i + 1) * 2 = i * 2 + 1 + 1 by omega, List.drop_succ_cons, List.drop_succ_cons]
theorem flat_cell (l : List (Int × Int)) {k : Nat} (hk : k < l.length) : (flat l)[k * 2]? = some (.int .i64 (cx l k)) ∧ (flat l)[k * 2 + 1]? = some (.int .i64 (cy l k)) := flat_get l k hk
theorem erase_cx (ps : List (Int × Int)) (j i : Nat) : cx (ps.eraseIdx j) i = cx ps (if i < j then i else i + 1) ∧ cy (ps.eraseIdx j) i = cy ps (if i < j then i else i + 1) := by
  unfold cx cy
  rw [List.getD_eq_getElem?_getD, List.getD_eq_getElem?_getD, List.getElem?_eraseIdx]
  split <;> simp [List.getD_eq_getElem?_getD]

set_option maxRecDepth 100000 in
set_option maxHeartbeats 1000000 in
theorem delete_is (g cap i j n : Nat) (ps : List (Int × Int)) (w : World) (hn : ps.length = n) (hi : i < n) (hj : j = i + 1) (hcap : n ≤ cap) (hm : cap ≤ maxLen) (hle : n ≤ 1000000) (hH : Sort.HoldsK encP 2 w g 0 ps.toArray) (hg : g < w.heap.size) :
    Calls Try.prog 68 #[.slice (some ⟨g, 0, none⟩) n cap, .int .i64 (i : Int), .int .i64 (j : Int)] w fun e w' => e = .returned (.slice (some ⟨g, 0, none⟩) (n - 1) cap) ∧ Sort.HoldsK encP 2 w' g 0 (ps.eraseIdx i).toArray ∧ w.grownBy w' (some g) := by
  have hmixed := mixedP
  obtain ⟨i0, hi0, hz0, hz1', hz2⟩ := info_parts infoP
  have HP := (holdsP_iff w g ps).1 hH
  obtain ⟨F, hF⟩ : ∃ F, F = Sort.flatK encP 2 ps.toArray := ⟨_, rfl⟩
  have hFs : F.size = n * 2 := by rw [hF, Sort.size_flatK]; simp [hn]
  have hHF : Sort.Holds id w g 0 F := by rw [hF]; exact hH
  obtain ⟨news, hnews⟩ : ∃ news, news = flat (ps.drop (i + 1)) := ⟨_, rfl⟩
  have hlen : news.length = (n - (i + 1)) * 2 := by rw [hnews, flat_len, List.length_drop, hn]
  have hPd : PRow w (some ⟨g, (i + 1) * 2, none⟩) (ps.drop (i + 1)) := by
    have hr : PRow w (some ⟨g, 0, none⟩) ps := fun k hk => by
      obtain ⟨a, b, _, _⟩ := HP k hk
      exact ⟨g, 0, rfl, by rw [Nat.zero_add]; exact a, by rw [Nat.zero_add]; exact b⟩
    have := prow_drop hr (i + 1)
    rwa [Nat.zero_add] at this
  obtain ⟨A, hA, hsrc⟩ : ∃ A : Addr, (if cap = j then some (⟨g, 0, none⟩ : Addr) else some ⟨g, j * 2, none⟩) = some A ∧ Hid (∀ t u, news[t]? = some u → w.drew.cell? (A.add t) = some u) := by
    by_cases h : cap = j
    · refine ⟨⟨g, 0, none⟩, by simp [h], Lib.hid fun t u hu => ?_⟩
      have h0 : news.length = 0 := by rw [hlen]; omega
      rw [List.length_eq_zero_iff.1 h0] at hu
      simp at hu
    · refine ⟨⟨g, j * 2, none⟩, by simp [h], Lib.hid fun t u hu => ?_⟩
      rw [hj]
      rw [hnews] at hu
      exact prow_flat hPd t u hu
  have s1 : Hid (news.length = (n - j) * 2) := Lib.hid (by rw [hlen, hj])
  have s2 : Hid (∀ u ∈ news, u.oneCell' = true) := Lib.hid (by rw [hnews]; exact flat_one _)
  have s3 : Hid (∀ t, t < news.length → (w.drew.cell? ⟨g, 0 + i * 2 + t, none⟩).isSome = true ∧ w.drew.frozen? ⟨g, 0 + i * 2 + t, none⟩ = false) := Lib.hid (by
    intro t ht
    rw [hlen] at ht
    have := hHF (i * 2 + t) (by omega)
    rw [← Nat.add_assoc] at this
    exact ⟨by show (w.cell? _).isSome = true; rw [this.1]; rfl, this.2⟩)
  obtain ⟨W1, hW1⟩ : ∃ W1, W1 = w.drew.setCells g (0 + i * 2) news := ⟨_, rfl⟩
  have hW1' : W1 = Sort.putRow id (Sort.ahead w 1) g 0 (Sort.setMany F (i * 2) news) := by
    rw [hW1, ← Sort.setCells_putRow _ _ _ _ _ _ (by rw [hlen, hFs]; omega), Sort.putRow_self id (Sort.ahead w 1) g 0 F hHF]
    rfl
  have hF1 : (Sort.setMany F (i * 2) news).size = n * 2 := by rw [Sort.size_setMany, hFs]
  have hH1 : Sort.Holds id W1 g 0 (Sort.setMany F (i * 2) news) := by rw [hW1']; exact Sort.holds_putRow id _ g 0 F _ hHF (by rw [hF1, hFs])
  have hcl : ∀ ty, (Builtin.clear_ #[23] ty #[.slice (some ⟨g, (n - 1) * 2, none⟩) 1 (cap - (n - 1))]).run Try.prog W1 = .ok (.tuple #[]) (W1.setCells g ((n - 1) * 2) [.int .i64 0, .int .i64 0]) :=
    fun ty => run_clear_one W1 g ((n - 1) * 2) _ ty (fun t ht => by
      have := hH1 ((n - 1) * 2 + t) (by rw [hF1]; omega)
      rw [Nat.zero_add] at this
      rw [this.1]; rfl) (fun t ht => by
      have := hH1 ((n - 1) * 2 + t) (by rw [hF1]; omega)
      rw [Nat.zero_add] at this
      exact this.2)
  have hW2 : W1.setCells g ((n - 1) * 2) [.int .i64 0, .int .i64 0] = Sort.putRow id (Sort.ahead w 1) g 0 (Sort.setMany (Sort.setMany F (i * 2) news) ((n - 1) * 2) [.int .i64 0, .int .i64 0]) := by
    rw [← Sort.setCells_putRow _ _ _ _ _ _ (by rw [hF1]; simp; omega), ← hW1', Nat.zero_add]
  -- what the cells hold
  have FIN : Hid (Sort.HoldsK encP 2 (W1.setCells g ((n - 1) * 2) [.int .i64 0, .int .i64 0]) g 0 (ps.eraseIdx i).toArray ∧ w.grownBy (W1.setCells g ((n - 1) * 2) [.int .i64 0, .int .i64 0]) (some g)) := Lib.hid (by
    rw [hW2]
    have hF2 : (Sort.setMany (Sort.setMany F (i * 2) news) ((n - 1) * 2) [.int .i64 0, .int .i64 0]).size = n * 2 := by rw [Sort.size_setMany, hF1]
    have hH2 := Sort.holds_putRow id (Sort.ahead w 1) g 0 F (Sort.setMany (Sort.setMany F (i * 2) news) ((n - 1) * 2) [.int .i64 0, .int .i64 0]) hHF (by rw [hF2, hFs])
    have rd : ∀ t, t < (n - 1) * 2 → (Sort.setMany (Sort.setMany F (i * 2) news) ((n - 1) * 2) [.int .i64 0, .int .i64 0])[t]! = if i * 2 ≤ t then news[t - i * 2]! else F[t]! := fun t ht => by
      rw [Sort.get_setMany _ _ _ _ (by rw [hF1]; omega), if_neg (by omega), Sort.get_setMany _ _ _ _ (by rw [hFs]; omega)]
      by_cases h : i * 2 ≤ t
      · rw [if_pos ⟨h, by rw [hlen]; omega⟩, if_pos h]
      · rw [if_neg (fun k => h k.1), if_neg h]
    refine ⟨(holdsP_iff _ g _).2 fun k hk => ?_, ⟨rfl, rfl, rfl, by show _ ≤ (w.heap.modify g _).size; rw [Array.size_modify]; exact Nat.le_refl _, fun k hk hne => by
      have : k ≠ g := fun e => hne (by rw [e])
      show (w.heap.modify g _)[k]? = _
      rw [Array.getElem?_modify, if_neg (fun e => this e.symm)]⟩⟩
    rw [List.length_eraseIdx_of_lt (by omega)] at hk
    have a := hH2 (k * 2) (by rw [hF2]; omega)
    have b := hH2 (k * 2 + 1) (by rw [hF2]; omega)
    rw [Nat.zero_add] at a b
    rw [rd _ (by omega)] at a b
    generalize Sort.putRow id (Sort.ahead w 1) g 0 (Sort.setMany (Sort.setMany F (i * 2) news) ((n - 1) * 2) [.int .i64 0, .int .i64 0]) = W2 at a b ⊢
    rw [(erase_cx ps i k).1, (erase_cx ps i k).2]
    by_cases h : k < i
    · rw [if_neg (by omega), hF, flatK_encP ps _ (by omega)] at a b
      rw [if_pos h]
      rw [if_pos (by omega), show k * 2 / 2 = k by omega] at a
      rw [if_neg (by omega), show (k * 2 + 1) / 2 = k by omega] at b
      simp only [id_eq] at a b
      exact ⟨a.1, b.1, a.2, b.2⟩
    · rw [if_pos (by omega), hnews] at a b
      rw [if_neg h]
      have fc := flat_cell (ps.drop (i + 1)) (k := k - i) (by rw [List.length_drop]; omega)
      have ec : cx (ps.drop (i + 1)) (k - i) = cx ps (k + 1) ∧ cy (ps.drop (i + 1)) (k - i) = cy ps (k + 1) := by
        unfold cx cy
        rw [List.getD_eq_getElem?_getD, List.getD_eq_getElem?_getD, List.getElem?_drop, show i + 1 + (k - i) = k + 1 by omega]
        exact ⟨rfl, rfl⟩
      rw [ec.1, ec.2] at fc
      rw [show k * 2 - i * 2 = (k - i) * 2 by omega, getElem!_def, fc.1] at a
      rw [show k * 2 + 1 - i * 2 = (k - i) * 2 + 1 by omega, getElem!_def, fc.2] at b
      simp only [id_eq] at a b
      exact ⟨a.1, b.1, a.2, b.2⟩)
  have hW : Hid (W1 = w.drew.setCells g (0 + i * 2) news) := Lib.hid hW1
  have hic : i ≤ cap := by omega
  have hjc : j ≤ cap := by omega
  have hij : i ≤ j := by omega
  have E1 : i + (n - j) = n - 1 := by omega
  have hcl' : ∀ ty, (Builtin.clear_ #[23] ty #[.slice (some ⟨g, (i + (n - j)) * 2, none⟩) (n - (i + (n - j))) (cap - (i + (n - j)))]).run Try.prog W1 = .ok (.tuple #[]) (W1.setCells g ((n - 1) * 2) [.int .i64 0, .int .i64 0]) := fun ty => by
    rw [E1, show n - (n - 1) = 1 by omega]; exact hcl ty
  have hcn1 : i + (n - j) ≤ n := by omega
  have hcn2 : ¬ cap = i + (n - j) := by omega
  have EN := Lib.hid E1
  have hjn : j ≤ n := by omega
  have hne : ¬ (i : Int) = (j : Int) := by omega
  have hcm : cap ≤ 9223372036854775807 := by unfold maxLen at hm; omega
  have HI := Lib.hid (And.intro hi (And.intro hj hcap))
  clear hcl E1 hW1 hW1' hH1 hH hHF HP hPd hnews hlen hF hFs hF1 hW2 hj
  go_enter Try.func68, Try.ntmps68
  go_wp2_with fail
  go_region_law_o (refine step_append_room rfl (.tmp 22) (.tmp 25) 23 rfl 35 i0 2 Try.underlying23 hi0 hz1' g 0 i cap (by simp [Act.eval, Act.put]) A (n - j) (cap - j) news (by simp [Act.eval, Act.put]) s1.out hsrc.out s2.out (by omega) s3.out ?_; rw [← hW.out])
  go_wp2
  go_ret
  exact ⟨by rw [← EN.out]; rfl, FIN.out⟩
end Go.Proofs.Ytnpadblfpaiofaa
