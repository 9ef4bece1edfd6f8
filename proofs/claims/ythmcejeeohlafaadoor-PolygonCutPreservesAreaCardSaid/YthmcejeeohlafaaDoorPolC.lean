/- Contract of package polygon: bendsAtEveryCorner. Conditions: the slice reads as the list says; its points are in range. -/
import Derived.Test.YthmcejeeohlafaaDoorPolB
namespace Go.Proofs.YthmcejeeohlafaaDoor
open Go.ChangeShapes Go.WideShapes Go.ChangeAt Go.RowKit
attribute [local go_sem] Oper.semAt_some
set_option linter.unusedVariables false
set_option linter.unusedSimpArgs false

def AllR2 (l : List (Int × Int)) : Prop := ∀ i, i < l.length → InR (cx l i) ∧ InR (cy l i)
theorem AllV.allr2 {l : List (Int × Int)} (h : AllV l) : AllR2 l := fun i hi => ⟨(h i hi).1.inr, (h i hi).2.inr⟩
def oriE (ps : List (Int × Int)) (i : Nat) : Int := ori (cx ps i) (cy ps i) (cx ps (nx ps.length i)) (cy ps (nx ps.length i)) (cx ps (nx ps.length (nx ps.length i))) (cy ps (nx ps.length (nx ps.length i)))
def bendsB (ps : List (Int × Int)) : Bool := (List.range ps.length).all fun i => oriE ps i != 0
theorem orient_is (a b c d p q o : Int) (w : World) (h : Hid (ori a b c d p q = o)) (ha : InR a) (hb : InR b) (hc : InR c) (hd : InR d) (hp : InR p) (hq : InR q) :
    Calls Tryd.prog 40 #[.agg #[.int .i64 a, .int .i64 b], .agg #[.int .i64 c, .int .i64 d], .agg #[.int .i64 p, .int .i64 q]] w fun e w' => e = .returned (.int .i64 o) ∧ Below w.heap.size w w' := by
  have := orient_any a b c d p q w ha hb hc hd hp hq
  rw [h.out] at this
  exact this
theorem prow_at {w : World} {ao : Option Addr} {ps : List (Int × Int)} (h : PRow w ao ps) {i : Nat} (hi : i < ps.length) : ∃ b o, ao = some ⟨b, o, none⟩ ∧ w.cell? ⟨b, o + i * 2, none⟩ = some (.int .i64 (cx ps i)) ∧ w.cell? ⟨b, o + i * 2 + 1, none⟩ = some (.int .i64 (cy ps i)) := h i hi
theorem nx_lt {n i : Nat} (h : 0 < n) : nx n i < n := Nat.mod_lt _ h


set_option maxRecDepth 100000 in
set_option maxHeartbeats 8000000 in
theorem bends_any (ao : Option Addr) (cap : Nat) (ps : List (Int × Int)) (w : World) (h0 : 0 < ps.length) (hle : ps.length ≤ 1000000) (hP : PRow w ao ps) (hv : AllR2 ps) :
    Calls Tryd.prog 26 #[.slice ao ps.length cap] w fun e w' => e = .returned (.bool (bendsB ps)) ∧ Below w.heap.size w w' := by
  refine (callsIn_wide (n := 3)).1 ?_
  refine callsIn_of_wp_marks Tryd.func26 rfl trivial ?_ rfl
  simp only [Tryd.ntmps26, List.size_toArray, List.length_cons, List.length_nil, Nat.reduceAdd, Nat.reduceSub, Array.replicate_succ, Array.replicate_zero, List.push_toArray, List.append_toArray, List.nil_append, List.cons_append]
  gi_wp2_with (refine ⟨trivial, ?_⟩; gi_at_call 28; refine (callsIn_wide.2 (edges_is ao ps.length cap _)).mono ?_; rintro e w' ⟨rfl, rfl⟩)
  obtain ⟨W0, hW0⟩ : ∃ W0, ((w.alloc (.cells #[.slice ao ps.length cap] 23)).alloc (.cells #[.bool false] 4)).alloc (.cells #[.slice ao ps.length cap] 23) = W0 := ⟨_, rfl⟩
  have hP0 : W0.heap[w.heap.size]? = some (.cells #[.slice ao ps.length cap] 23 (0, 0)) := by rw [← hW0]; exact blk_alloc (blk_alloc (blk_new _ _ _ rfl) _) _
  have hR0 : W0.heap[w.heap.size + 1]? = some (.cells #[.bool false] 4 (0, 0)) := by rw [← hW0]; exact blk_alloc (blk_new _ _ _ (by simp)) _
  have hN0 : W0.heap[w.heap.size + 1 + 1]? = some (.cells #[.slice ao ps.length cap] 23 (0, 0)) := by rw [← hW0]; exact blk_new _ _ _ (by simp)
  have hB0 : Below w.heap.size w W0 := by rw [← hW0]; exact belA (belA (belA (Below.refl _ _) _) _) _
  have hsz : W0.heap.size = w.heap.size + 1 + 1 + 1 := by rw [← hW0]; simp
  rw [hW0]
  clear hW0
  refine wpIn_rangeFunc_ownH rfl (by omega) (gf := 42) (lb := #[.pointer (some ⟨w.heap.size + 1 + 1, 0, none⟩)]) rfl trivial (enters_of Tryd.func42 (by kernel_rfl) rfl)
    (edges_stops (3 - 1) (by omega) (w.heap.size + 1 + 1) ao cap ps w W0 h0 hle hP hB0 hN0) kpE_t (kpE_b (by omega) (by omega)) (Below.refl _ _) (fun _ => rfl)
    (fun pre W => (((∀ i ∈ vals pre, oriE ps i ≠ 0) ∧ W.heap[w.heap.size]? = some (.cells #[.slice ao ps.length cap] 23 (0, 0))) ∧ W.heap[w.heap.size + 1]? = some (.cells #[.bool false] 4 (0, 0))) ∧ Below w.heap.size w W ∧ W0.heap.size ≤ W.heap.size)
    (fun c pre W => ((c = .ret ∧ ∃ i, i < ps.length ∧ oriE ps i = 0) ∧ W.heap[w.heap.size + 1]? = some (.cells #[.bool false] 4 (0, 0))) ∧ Below w.heap.size w W)
    (OwnFrom.and (OwnFrom.and (OwnFrom.and (ownFrom_pure _ _) (Own.from (blk_own _ _ (fun _ => rfl)) _)) (Own.from (blk_own _ _ (fun _ => rfl)) _)) (OwnFrom.and (ownFrom_below (Nat.le_refl _) (by omega)) (own_size _ _)))
    (fun c => OwnFrom.and (OwnFrom.and (ownFrom_pure _ _) (Own.from (blk_own _ _ (fun _ => rfl)) _)) (ownFrom_below (Nat.le_refl _) (by omega)))
    ⟨⟨⟨by simp [vals], hP0⟩, hR0⟩, hB0, Nat.le_refl _⟩
    (fun x a' W => ∃ Bx, W0.heap.size ≤ Bx ∧ W.heap[Bx]? = some (.cells #[.int .i64 (cx ps x.1), .int .i64 (cy ps x.1), .int .i64 (cx ps (nx ps.length x.1)), .int .i64 (cy ps (nx ps.length x.1))] 50 (0, 0)) ∧ a' = { tmps := #[.slice ao ps.length cap, .pointer (some ⟨w.heap.size, 0, none⟩), .pointer (some ⟨w.heap.size + 1, 0, none⟩), .int .i64 (x.1 : Int), .pointer (some ⟨Bx, 0, none⟩), .slice ao ps.length cap, .func (.func 42) #[] #[.pointer (some ⟨w.heap.size + 1 + 1, 0, none⟩)], .int .i64 (x.1 : Int), .agg #[.int .i64 (cx ps x.1), .int .i64 (cy ps x.1), .int .i64 (cx ps (nx ps.length x.1)), .int .i64 (cy ps (nx ps.length x.1))], undef, undef, undef, undef, undef, undef, undef, undef, undef, undef, undef, undef, undef, undef], defers := [] })
    (fun x a' => fun _ X Y row ⟨Bx, h1, h2, h3⟩ hg hr => ⟨Bx, h1, (blk_own Bx (fun (_ : Unit) => (.cells #[.int .i64 (cx ps x.1), .int .i64 (cy ps x.1), .int .i64 (cx ps (nx ps.length x.1)), .int .i64 (cy ps (nx ps.length x.1))] 50 (0, 0))) (fun _ => rfl)).from _ () X Y row h2 hg hr, h3⟩)
    ?assign ?body ?done ?stop
  case assign =>
    rintro l pre x W K ⟨⟨⟨hp, hPb⟩, hR⟩, hB, hz⟩ hK
    rw [show encE ps x = #[.int .i64 (x.1 : Int), .agg #[.int .i64 (cx ps x.1), .int .i64 (cy ps x.1), .int .i64 (cx ps (nx ps.length x.1)), .int .i64 (cy ps (nx ps.length x.1))]] from rfl]
    gi_wp2
    exact hK _ _ ((KeepsOthers.alloc _ _).from _) ⟨(Below.refl _ _).alloc hB.size _, Below.heap_alloc W _ _ (by omega)⟩ ⟨⟨⟨hp, blk_alloc hPb _⟩, blk_alloc hR _⟩, belA hB _, by simp; omega⟩ ⟨W.heap.size, hz, blk_new _ _ _ rfl, rfl⟩
  case body =>
    rintro l pre x a' W hl ⟨rl, hrl⟩ ⟨⟨⟨hp, hPb⟩, hR⟩, hB, hz⟩ ⟨Bx, hBx, hx, rfl⟩ hlen
    have hxl := x.2
    obtain ⟨i1, i2⟩ := hv x.1 hxl
    obtain ⟨i3, i4⟩ := hv _ (nx_lt (i := x.1) h0)
    obtain ⟨i5, i6⟩ := hv _ (nx_lt (i := nx ps.length x.1) h0)
    obtain ⟨b, o, rfl, c1, c2⟩ := prow_at hP (nx_lt (i := nx ps.length x.1) h0)
    obtain ⟨oo, ho⟩ : ∃ oo, oriE ps x.1 = oo := ⟨_, rfl⟩
    have hX := ho
    unfold oriE at ho
    obtain ⟨j1, hj1⟩ : ∃ j, nx ps.length x.1 = j := ⟨_, rfl⟩
    have l1 : j1 < ps.length := by rw [← hj1]; exact nx_lt h0
    rw [hj1] at hx i3 i4 i5 i6 ho c1 c2 ⊢
    obtain ⟨j2, hj2⟩ : ∃ j, nx ps.length j1 = j := ⟨_, rfl⟩
    have l2 : j2 < ps.length := by rw [← hj2]; exact nx_lt h0
    rw [hj2] at i5 i6 ho c1 c2
    generalize cx ps x.1 = a1 at *
    generalize cy ps x.1 = a2 at *
    generalize cx ps j1 = e1 at *
    generalize cy ps j1 = e2 at *
    generalize cx ps j2 = u1 at *
    generalize cy ps j2 = u2 at *
    obtain ⟨t, ht⟩ : ∃ t, (oo == 0) = t := ⟨_, rfl⟩
    have HX := Lib.hid hX
    have HO : Hid (ori a1 a2 e1 e2 u1 u2 = oo) := Lib.hid ho
    have HJ1 : Hid ((x.1 + 1) % ps.length = j1) := Lib.hid hj1
    have HJ2 : Hid ((j1 + 1) % ps.length = j2) := Lib.hid hj2
    have d1 := (hB.cell (World.block_lt_of_cell? w _ c1)).trans c1
    have d2 := (hB.cell (World.block_lt_of_cell? w _ c2)).trans c2
    have k0 := blk_cell hx 0 _ rfl
    have k1 := blk_cell hx 1 _ rfl
    have k2 := blk_cell hx 2 _ rfl
    have k3 := blk_cell hx 3 _ rfl
    have kp := blk_cell hPb 0 _ rfl
    have HP := Lib.hid hp
    clear hX ho hj1 hj2 c1 c2 hp
    gi_upto_region 4 with fail
    obtain ⟨sp, hsp⟩ : ∃ sp : Told, sp = [none, none, none, none, none, none, none, none, none, some (.inl (.pointer (some ⟨Bx, 0, none⟩))), some (.inl (.agg #[.int .i64 a1, .int .i64 a2])), some (.inl (.pointer (some ⟨Bx, 2, none⟩))), some (.inl (.agg #[.int .i64 e1, .int .i64 e2])), some (.inl (.slice (some ⟨b, o, none⟩) ps.length cap)), some (.inl (.slice (some ⟨b, o, none⟩) ps.length cap)), some (.inl (.slice (some ⟨b, o, none⟩) ps.length cap)), some (.inl (.int .i64 (x.1 : Int))), some (.inl (.int .i64 (j1 : Int))), some (.inl (.int .i64 (j2 : Int))), some (.inl (.pointer (some ⟨b, o + j2 * 2, none⟩))), some (.inl (.agg #[.int .i64 u1, .int .i64 u2])), some (.inl (.int .i64 oo)), some (.inl (.bool t))] := ⟨_, rfl⟩
    have s9 : sp.getD 9 none = some (.inl (.pointer (some ⟨Bx, 0, none⟩))) := by rw [hsp]; rfl
    have s10 : sp.getD 10 none = some (.inl (.agg #[.int .i64 a1, .int .i64 a2])) := by rw [hsp]; rfl
    have s11 : sp.getD 11 none = some (.inl (.pointer (some ⟨Bx, 2, none⟩))) := by rw [hsp]; rfl
    have s12 : sp.getD 12 none = some (.inl (.agg #[.int .i64 e1, .int .i64 e2])) := by rw [hsp]; rfl
    have s13 : sp.getD 13 none = some (.inl (.slice (some ⟨b, o, none⟩) ps.length cap)) := by rw [hsp]; rfl
    have s14 : sp.getD 14 none = some (.inl (.slice (some ⟨b, o, none⟩) ps.length cap)) := by rw [hsp]; rfl
    have s15 : sp.getD 15 none = some (.inl (.slice (some ⟨b, o, none⟩) ps.length cap)) := by rw [hsp]; rfl
    have s16 : sp.getD 16 none = some (.inl (.int .i64 (x.1 : Int))) := by rw [hsp]; rfl
    have s17 : sp.getD 17 none = some (.inl (.int .i64 (j1 : Int))) := by rw [hsp]; rfl
    have s18 : sp.getD 18 none = some (.inl (.int .i64 (j2 : Int))) := by rw [hsp]; rfl
    have s19 : sp.getD 19 none = some (.inl (.pointer (some ⟨b, o + j2 * 2, none⟩))) := by rw [hsp]; rfl
    have s20 : sp.getD 20 none = some (.inl (.agg #[.int .i64 u1, .int .i64 u2])) := by rw [hsp]; rfl
    have s21 : sp.getD 21 none = some (.inl (.int .i64 oo)) := by rw [hsp]; rfl
    have s22 : sp.getD 22 none = some (.inl (.bool t)) := by rw [hsp]; rfl
    clear hsp
    refine region_obs_in sp rfl rfl rfl (by kernel_rfl) (by rintro ⟨_, _, h⟩; exact h) (by kernel_rfl) (by kernel_rfl) ?_ ?_
    · rw [List.toList_toArray]
      refine obs_cons ?_ ?_
      · intro T wx K hB hF hD hK
        have g4 : T[4]? = some (.pointer (some ⟨Bx, 0, none⟩)) := hF 4 (free_of (by kernel_rfl))
        refine ob_yes (wanted_none rfl) ?_
        clear hF hD
        go_simp
        exact hK _ _ (Below.refl _ _) (rt_eq s9)
      refine obs_cons ?_ ?_
      · intro T wx K hB hF hD hK
        have g9 := get_eq (hD 0 9 (by simp [Region.binds]) (by kernel_rfl)) s9
        refine ob_yes (wanted_none rfl) ?_
        clear hF hD
        have c0 := cell_call k0 hB
        have c1 := cell_call k1 hB
        go_simp
        exact hK _ _ (Below.refl _ _) (rt_eq s10)
      refine obs_cons ?_ ?_
      · intro T wx K hB hF hD hK
        have g4 : T[4]? = some (.pointer (some ⟨Bx, 0, none⟩)) := hF 4 (free_of (by kernel_rfl))
        refine ob_yes (wanted_none rfl) ?_
        clear hF hD
        go_simp
        exact hK _ _ (Below.refl _ _) (rt_eq s11)
      refine obs_cons ?_ ?_
      · intro T wx K hB hF hD hK
        have g11 := get_eq (hD 2 11 (by simp [Region.binds]) (by kernel_rfl)) s11
        refine ob_yes (wanted_none rfl) ?_
        clear hF hD
        have c0 := cell_call k2 hB
        have c1 := cell_call k3 hB
        go_simp
        exact hK _ _ (Below.refl _ _) (rt_eq s12)
      refine obs_cons ?_ ?_
      · intro T wx K hB hF hD hK
        have g1 : T[1]? = some (.pointer (some ⟨w.heap.size, 0, none⟩)) := hF 1 (free_of (by kernel_rfl))
        refine ob_yes (wanted_none rfl) ?_
        clear hF hD
        have c0 := cell_call kp hB
        go_simp
        exact hK _ _ (Below.refl _ _) (rt_eq s13)
      refine obs_cons ?_ ?_
      · intro T wx K hB hF hD hK
        have g1 : T[1]? = some (.pointer (some ⟨w.heap.size, 0, none⟩)) := hF 1 (free_of (by kernel_rfl))
        refine ob_yes (wanted_none rfl) ?_
        clear hF hD
        have c0 := cell_call kp hB
        go_simp
        exact hK _ _ (Below.refl _ _) (rt_eq s14)
      refine obs_cons ?_ ?_
      · intro T wx K hB hF hD hK
        have g1 : T[1]? = some (.pointer (some ⟨w.heap.size, 0, none⟩)) := hF 1 (free_of (by kernel_rfl))
        refine ob_yes (wanted_none rfl) ?_
        clear hF hD
        have c0 := cell_call kp hB
        go_simp
        exact hK _ _ (Below.refl _ _) (rt_eq s15)
      refine obs_cons ?_ ?_
      · intro T wx K hB hF hD hK
        have g3 : T[3]? = some (.int .i64 (x.1 : Int)) := hF 3 (free_of (by kernel_rfl))
        refine ob_yes (wanted_none rfl) ?_
        clear hF hD
        go_simp
        exact hK _ _ (Below.refl _ _) (rt_eq s16)
      refine obs_cons ?_ ?_
      · intro T wx K hB hF hD hK
        have g15 := get_eq (hD 6 15 (by simp [Region.binds]) (by kernel_rfl)) s15
        have g16 := get_eq (hD 7 16 (by simp [Region.binds]) (by kernel_rfl)) s16
        refine ob_yes (wanted_none rfl) ?_
        clear hF hD
        go_simp
        refine (next_is _ ps.length cap x.1 j1 _ h0 hle (by omega) HJ1).mono ?_; rintro e w9 ⟨rfl, rfl⟩
        exact hK _ _ (Below.refl _ _) (rt_eq s17)
      refine obs_cons ?_ ?_
      · intro T wx K hB hF hD hK
        have g14 := get_eq (hD 5 14 (by simp [Region.binds]) (by kernel_rfl)) s14
        have g17 := get_eq (hD 8 17 (by simp [Region.binds]) (by kernel_rfl)) s17
        refine ob_yes (wanted_none rfl) ?_
        clear hF hD
        have hji : (j2 : Int) < ps.length := by omega
        go_simp
        refine (next_is _ ps.length cap j1 j2 _ h0 hle (by omega) HJ2).mono ?_; rintro e w9 ⟨rfl, rfl⟩
        exact hK _ _ (Below.refl _ _) (rt_eq s18)
      refine obs_cons ?_ ?_
      · intro T wx K hB hF hD hK
        have g13 := get_eq (hD 4 13 (by simp [Region.binds]) (by kernel_rfl)) s13
        have g18 := get_eq (hD 9 18 (by simp [Region.binds]) (by kernel_rfl)) s18
        refine ob_yes (wanted_none rfl) ?_
        clear hF hD
        go_simp
        exact hK _ _ (Below.refl _ _) (rt_eq s19)
      refine obs_cons ?_ ?_
      · intro T wx K hB hF hD hK
        have g19 := get_eq (hD 10 19 (by simp [Region.binds]) (by kernel_rfl)) s19
        refine ob_yes (wanted_none rfl) ?_
        clear hF hD
        have c0 := cell_call d1 hB
        have c1 := cell_call d2 hB
        go_simp
        exact hK _ _ (Below.refl _ _) (rt_eq s20)
      refine obs_cons ?_ ?_
      · intro T wx K hB hF hD hK
        have g10 := get_eq (hD 1 10 (by simp [Region.binds]) (by kernel_rfl)) s10
        have g12 := get_eq (hD 3 12 (by simp [Region.binds]) (by kernel_rfl)) s12
        have g20 := get_eq (hD 11 20 (by simp [Region.binds]) (by kernel_rfl)) s20
        refine ob_yes (wanted_none rfl) ?_
        clear hF hD
        go_simp
        refine (orient_is _ _ _ _ _ _ oo _ HO i1 i2 i3 i4 i5 i6).mono ?_; rintro e w9 ⟨rfl, hb⟩
        exact hK _ _ hb (rt_eq s21)
      refine obs_cons ?_ ?_
      · intro T wx K hB hF hD hK
        have g21 := get_eq (hD 12 21 (by simp [Region.binds]) (by kernel_rfl)) s21
        refine ob_yes (wanted_none rfl) ?_
        clear hF hD
        go_simp
        exact hK _ _ (Below.refl _ _) (rt_eq s22)
      exact obs_nil
    · intro T w2 hb hF hs hD
      have g9 := get_eq (hD 0 9 (by kernel_rfl)) s9
      have g10 := get_eq (hD 1 10 (by kernel_rfl)) s10
      have g11 := get_eq (hD 2 11 (by kernel_rfl)) s11
      have g12 := get_eq (hD 3 12 (by kernel_rfl)) s12
      have g13 := get_eq (hD 4 13 (by kernel_rfl)) s13
      have g14 := get_eq (hD 5 14 (by kernel_rfl)) s14
      have g15 := get_eq (hD 6 15 (by kernel_rfl)) s15
      have g16 := get_eq (hD 7 16 (by kernel_rfl)) s16
      have g17 := get_eq (hD 8 17 (by kernel_rfl)) s17
      have g18 := get_eq (hD 9 18 (by kernel_rfl)) s18
      have g19 := get_eq (hD 10 19 (by kernel_rfl)) s19
      have g20 := get_eq (hD 11 20 (by kernel_rfl)) s20
      have g21 := get_eq (hD 12 21 (by kernel_rfl)) s21
      have g22 := get_eq (hD 13 22 (by kernel_rfl)) s22
      have g0 := hF 0 (free_of (by kernel_rfl))
      have g1 := hF 1 (free_of (by kernel_rfl))
      have g2 := hF 2 (free_of (by kernel_rfl))
      have g3 := hF 3 (free_of (by kernel_rfl))
      have g4 := hF 4 (free_of (by kernel_rfl))
      have g5 := hF 5 (free_of (by kernel_rfl))
      have g6 := hF 6 (free_of (by kernel_rfl))
      have g7 := hF 7 (free_of (by kernel_rfl))
      have g8 := hF 8 (free_of (by kernel_rfl))
      clear hF hD
      obtain ⟨x0, x1, x2, x3, x4, x5, x6, x7, x8, x9, x10, x11, x12, x13, x14, x15, x16, x17, x18, x19, x20, x21, x22, rfl⟩ : ∃ x0 x1 x2 x3 x4 x5 x6 x7 x8 x9 x10 x11 x12 x13 x14 x15 x16 x17 x18 x19 x20 x21 x22, T = #[x0, x1, x2, x3, x4, x5, x6, x7, x8, x9, x10, x11, x12, x13, x14, x15, x16, x17, x18, x19, x20, x21, x22] := by
        obtain ⟨Tl⟩ := T
        match Tl, hs with
        | [x0, x1, x2, x3, x4, x5, x6, x7, x8, x9, x10, x11, x12, x13, x14, x15, x16, x17, x18, x19, x20, x21, x22], _ => exact ⟨x0, x1, x2, x3, x4, x5, x6, x7, x8, x9, x10, x11, x12, x13, x14, x15, x16, x17, x18, x19, x20, x21, x22, rfl⟩
      have q0 : x0 = .slice (some ⟨b, o, none⟩) ps.length cap := Option.some.inj g0
      have q1 : x1 = .pointer (some ⟨w.heap.size, 0, none⟩) := Option.some.inj g1
      have q2 : x2 = .pointer (some ⟨w.heap.size + 1, 0, none⟩) := Option.some.inj g2
      have q3 : x3 = .int .i64 (x.1 : Int) := Option.some.inj g3
      have q4 : x4 = .pointer (some ⟨Bx, 0, none⟩) := Option.some.inj g4
      have q5 : x5 = .slice (some ⟨b, o, none⟩) ps.length cap := Option.some.inj g5
      have q6 : x6 = .func (.func 42) #[] #[.pointer (some ⟨w.heap.size + 1 + 1, 0, none⟩)] := Option.some.inj g6
      have q7 : x7 = .int .i64 (x.1 : Int) := Option.some.inj g7
      have q8 : x8 = .agg #[.int .i64 a1, .int .i64 a2, .int .i64 e1, .int .i64 e2] := Option.some.inj g8
      have q9 : x9 = .pointer (some ⟨Bx, 0, none⟩) := Option.some.inj g9
      have q10 : x10 = .agg #[.int .i64 a1, .int .i64 a2] := Option.some.inj g10
      have q11 : x11 = .pointer (some ⟨Bx, 2, none⟩) := Option.some.inj g11
      have q12 : x12 = .agg #[.int .i64 e1, .int .i64 e2] := Option.some.inj g12
      have q13 : x13 = .slice (some ⟨b, o, none⟩) ps.length cap := Option.some.inj g13
      have q14 : x14 = .slice (some ⟨b, o, none⟩) ps.length cap := Option.some.inj g14
      have q15 : x15 = .slice (some ⟨b, o, none⟩) ps.length cap := Option.some.inj g15
      have q16 : x16 = .int .i64 (x.1 : Int) := Option.some.inj g16
      have q17 : x17 = .int .i64 (j1 : Int) := Option.some.inj g17
      have q18 : x18 = .int .i64 (j2 : Int) := Option.some.inj g18
      have q19 : x19 = .pointer (some ⟨b, o + j2 * 2, none⟩) := Option.some.inj g19
      have q20 : x20 = .agg #[.int .i64 u1, .int .i64 u2] := Option.some.inj g20
      have q21 : x21 = .int .i64 oo := Option.some.inj g21
      have q22 : x22 = .bool t := Option.some.inj g22
      clear g0 g1 g2 g3 g4 g5 g6 g7 g8 g9 g10 g11 g12 g13 g14 g15 g16 g17 g18 g19 g20 g21 g22
      subst q0 q1 q2 q3 q4 q5 q6 q7 q8 q9 q10 q11 q12 q13 q14 q15 q16 q17 q18 q19 q20 q21 q22
      have hB2 := hB.trans (hb.mono hB.size)
      have hR2 := blk_call hR hb
      have hP2 := blk_call hPb hb
      have hz2 : W0.heap.size ≤ w2.heap.size := Nat.le_trans hz hb.size
      have kf : KeepsFrom W0.heap.size W w2 := KeepsFrom.of_grownBy (grown_of_below hb) (fun j e => by cases e)
      have kk : KpE w.heap.size (w.heap.size + 1 + 1) W w2 := ⟨hb.mono hB.size, hb.block _ (by omega)⟩
      have cR2 := blk_cell hR2 0 _ rfl
      have fR2 := blk_fz hR2 0
      clear hb hB hR hPb hx k0 k1 k2 k3 kp d1 d2 s9 s10 s11 s12 s13 s14 s15 s16 s17 s18 s19 s20 s21 s22
      cases t
      · gi_wp2
        exact ⟨kf, kk, ⟨⟨fun i hi => by
          rw [vals_snoc, List.mem_append, List.mem_singleton] at hi
          rcases hi with hi | rfl
          · exact HP.out i hi
          · rw [HX.out]; simpa using ht, hP2⟩, hR2⟩, hB2, hz2⟩
      · gi_wp2
        exact ⟨kf.trans ((KeepsOthers.setCell _ _ _).from _), ⟨⟨rfl, x.1, hxl, by rw [HX.out]; simpa using ht⟩, blk_set hR2 _⟩, hB2.setCell (by simp) _⟩
  case done =>
    rintro D ys W hD rfl ⟨⟨⟨hp, hPb⟩, hR⟩, hB, hz⟩ hK
    rw [vals_upE] at hp
    have HE : Hid (bendsB ps = true) := Lib.hid (List.all_eq_true.2 fun i hi => by simpa using hp i hi)
    have cR := blk_cell hR 0 _ rfl
    have fR := blk_fz hR 0
    clear hp
    gi_wp2
    have hK' := (KeepsOthers.setCell W ⟨w.heap.size + 1, 0, none⟩ (.bool true)).same D _ hK rfl
    refine ⟨by simp, .inl ⟨_, _, rfl, run_takeDeferred hK', ?_⟩⟩
    have hc5 := cell_kept (World.cell?_setCell_same' W ⟨w.heap.size + 1, 0, none⟩ (.bool true) (by rw [cR]; rfl)) (grownBy_putObj' _ D (.deferred none)) (fun r e => by cases e; exact ⟨_, hK', rfl⟩)
    refine ⟨.bool true, by simp [results, Tryd.f26, go_sem, hc5], by rw [HE.out], (hB.setCell (p := ⟨w.heap.size + 1, 0, none⟩) (by simp) _).trans (belowK_b (w := w) (Nat.le_refl _) _ D _ _ (by omega) hK' rfl rfl)⟩
  case stop =>
    rintro D c pre W hD hSp ⟨⟨⟨rfl, i, hi, hio⟩, hR⟩, hB⟩ hK
    have HE : Hid (bendsB ps = false) := Lib.hid (by rw [bendsB, List.all_eq_false]; exact ⟨i, List.mem_range.2 hi, by simp [hio]⟩)
    clear hio
    gi_wp2
    refine ⟨by simp, .inl ⟨_, _, rfl, run_takeDeferred hK, ?_⟩⟩
    have hc5 := cell_kept (blk_cell hR 0 _ rfl) (grownBy_putObj' _ D (.deferred none)) (fun r e => by cases e; exact ⟨_, hK, rfl⟩)
    refine ⟨.bool false, by simp [results, Tryd.f26, go_sem, hc5], by rw [HE.out], hB.trans (belowK_b (w := w) (Nat.le_refl _) _ D _ _ (by omega) hK rfl rfl)⟩
end Go.Proofs.YthmcejeeohlafaaDoor
