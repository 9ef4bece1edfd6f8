/- Proved: a bounding box holds all its points, each of its sides touches one, and more points never shrink it (the law GeomBoxes returns true).
Conditions: none on the arguments: for all two slices of points. -/
import Derived.Test.YthmcejeeohlafaaGeoL
import Derived.Test.YthmcejeeohlafaaGeoQo
import Derived.Test.YthmcejeeohlafaaGeoFr
namespace Go.Proofs.Ythmcejeeohlafaa.geomBoxes
open Go.ChangeShapes Go.WideShapes Go.ChangeAt Go.RowKit
set_option linter.unusedVariables false

theorem fitL_inr (l : List (Int × Int)) : AllR (fitL l) := fun i hi => by
  have : ((fitL l).getD i (0, 0)) = fitP ((l.take 30)[i]'(by simpa [fitL] using hi)) := by
    rw [List.getD_eq_getElem?_getD, List.getElem?_eq_getElem hi]
    simp [fitL]
  rw [this]
  exact ⟨(fit_y _).inr, (fit_y _).inr⟩
theorem allr_app {u v : List (Int × Int)} (hu : AllR u) (hv : AllR v) : AllR (u ++ v) := fun i hi => by
  by_cases h : i < u.length
  · have := hu i h
    rwa [List.getD_eq_getElem?_getD, List.getElem?_append_left h, ← List.getD_eq_getElem?_getD]
  · have := hv (i - u.length) (by simp at hi; omega)
    rwa [List.getD_eq_getElem?_getD, List.getElem?_append_right (by omega), ← List.getD_eq_getElem?_getD]
theorem apts_below {w w' : World} {ao : Option Addr} {n : Nat} {l : List (Int × Int)} (h : APts w ao n l) (hb : Below w.heap.size w w') : APts w' ao n l :=
  ⟨h.1, fun i hi => by
    obtain ⟨a, e, c1, c2⟩ := h.2 i hi
    exact ⟨a, e, (hb.cell (World.block_lt_of_cell? w _ c1)).trans c1, (hb.cell (World.block_lt_of_cell? w _ c2)).trans c2⟩⟩
/-- Does one of the first k points meet the test? -/
def anyP (f : Int × Int → Bool) (l : List (Int × Int)) (k : Nat) : Bool := (l.take k).any f
theorem anyP_next (f : Int × Int → Bool) (l : List (Int × Int)) (k : Nat) (h : k < l.length) : anyP f l (k + 1) = (anyP f l k || f (l.getD k (0, 0))) := by
  unfold anyP
  rw [List.take_succ_eq_append_getElem h, List.any_append]
  simp [List.getD_eq_getElem?_getD, h]
theorem anyP_all (f : Int × Int → Bool) (l : List (Int × Int)) (h : ∃ i, i < l.length ∧ f (l.getD i (0, 0)) = true) : anyP f l l.length = true := by
  obtain ⟨i, hi, hf⟩ := h
  unfold anyP
  rw [List.take_length, List.any_eq_true]
  exact ⟨l[i], List.getElem_mem hi, by rw [← hf, List.getD_eq_getElem?_getD, List.getElem?_eq_getElem hi]; rfl⟩
theorem fits_is (ao : Option Addr) (len cap : Nat) (l u : List (Int × Int)) (w : World) (hA : APts w ao len l) (hu : Hid (fitL l = u)) :
    Calls Try.prog 6 #[.slice ao len cap] w fun e w' => (∃ g c, e = .returned (.slice (some ⟨g, 0, none⟩) u.length c) ∧ w'.ownsRow w.heap.size 27 2 (.slice (some ⟨g, 0, none⟩) u.length c) u.length (flat u)) ∧ Below w.heap.size w w' := by
  have := fits_own ao len cap l w hA; unfold Fown at this; rw [hu.out] at this; exact this
theorem prow_g {w : World} {base g c : Nat} {e : TypeId} {l : List (Int × Int)} (h : w.ownsRow base e 2 (.slice (some ⟨g, 0, none⟩) l.length c) l.length (flat l)) : PRow w (some ⟨g, 0, none⟩) l := fun i hi => by
  refine ⟨g, 0, rfl, ?_, ?_⟩
  · rw [Nat.zero_add, h.cellAt (i * 2) (by omega)]; exact (flat_get l i hi).1
  · rw [Nat.zero_add, h.cellAt (i * 2 + 1) (by omega)]; exact (flat_get l i hi).2
theorem le_of_own {a b n k : Nat} {c : Nat} (h : a ≤ b) (hk : (Value.slice (some ⟨b, 0, none⟩) n c).ownBlock = some k) : a ≤ k := by
  have : b = k := by simpa [Value.ownBlock] using hk
  omega
theorem flat_one (u : List (Int × Int)) : ∀ x ∈ flat u, x.oneCell' = true := by
  intro x hx
  unfold flat at hx
  obtain ⟨p, _, hp⟩ := List.mem_flatMap.1 hx
  simp at hp
  rcases hp with rfl | rfl <;> rfl

theorem own_ne {g b c n : Nat} {j : Nat} (h : g ≠ b) : (Value.slice (some ⟨g, 0, none⟩) n c).ownBlock ≠ some (Addr.mk b j none).block := by
  intro e
  exact h (by simpa [Value.ownBlock] using e)
theorem getD_app {u v : List (Int × Int)} {i : Nat} (h : i < u.length) : (u ++ v).getD i (0, 0) = u.getD i (0, 0) := by
  rw [List.getD_eq_getElem?_getD, List.getElem?_append_left h, ← List.getD_eq_getElem?_getD]
theorem nested (u v : List (Int × Int)) (h : 0 < u.length) : ((foldP lowP (u ++ v)).1 ≤ (foldP lowP u).1 ∧ (foldP lowP (u ++ v)).2 ≤ (foldP lowP u).2) ∧ (foldP uppP u).1 ≤ (foldP uppP (u ++ v)).1 ∧ (foldP uppP u).2 ≤ (foldP uppP (u ++ v)).2 := by
  obtain ⟨⟨i, hi, ei⟩, j, hj, ej⟩ := low_met u h
  obtain ⟨⟨k, hk, ek⟩, l, hl, el⟩ := upp_met u h
  have lz : ∀ i, i < u.length → i < (u ++ v).length := fun i hi => by rw [List.length_append]; omega
  rw [← ei, ← ej, ← ek, ← el, ← getD_app (v := v) hi, ← getD_app (v := v) hj, ← getD_app (v := v) hk, ← getD_app (v := v) hl]
  exact ⟨⟨(low_le _ i (lz i hi)).1, (low_le _ j (lz j hj)).2⟩, (upp_ge _ k (lz k hk)).1, (upp_ge _ l (lz l hl)).2⟩
theorem mx_zero {a b : Int} (ha : a = 0) (hb : b ≤ 0) : mxI a b = 0 := by unfold mxI; split <;> omega
theorem gap_in (u v : List (Int × Int)) (h : 0 < u.length) : boxD u (u ++ v) = 0 := by
  obtain ⟨⟨h1, h2⟩, h3, h4⟩ := nested u v h
  have a := low_le u 0 h
  have b := upp_ge u 0 h
  obtain ⟨a1, a2⟩ := a
  obtain ⟨b1, b2⟩ := b
  unfold boxD
  rw [if_neg (by rw [List.length_append]; omega)]
  unfold gapI foldI
  simp only [List.foldl_cons, List.foldl_nil]
  rw [mx_zero rfl (show (foldP lowP (u ++ v)).1 - (foldP uppP u).1 ≤ 0 by omega), mx_zero rfl (show (foldP lowP (u ++ v)).2 - (foldP uppP u).2 ≤ 0 by omega), mx_zero rfl (show (foldP lowP u).1 - (foldP uppP (u ++ v)).1 ≤ 0 by omega), mx_zero rfl (show (foldP lowP u).2 - (foldP uppP (u ++ v)).2 ≤ 0 by omega)]
theorem bd_z (ao bo : Option Addr) (ca cb : Nat) (u v : List (Int × Int)) (w : World) (na : u.length ≤ 1000000) (nb : v.length ≤ 1000000) (pa : PRow w ao u) (pb : PRow w bo v) (ra : AllR u) (rb : AllR v) (h : Hid (boxD u v = 0)) :
    Calls Try.prog 7 #[.slice ao u.length ca, .slice bo v.length cb] w fun e w' => e = .returned (.int .i64 0) ∧ Below w.heap.size w w' := by
  have := boxdist_any ao bo ca cb u v w na nb pa pb ra rb; rw [h.out] at this; exact this

set_option maxRecDepth 100000 in
set_option maxHeartbeats 16000000 in
theorem walk_some (ao : Option Addr) (lena capa : Nat) (l : List (Int × Int)) (bo : Option Addr) (lenb capb : Nat) (m : List (Int × Int)) (w : World) (hl : APts w ao lena l) (hm : APts w bo lenb m) (u v : List (Int × Int)) (HU : Hid (fitL l = u)) (HV : Hid (fitL m = v)) (hu0 : 0 < u.length) (nu : u.length ≤ 30) (nv : v.length ≤ 30) (ru : AllR u) (rv : AllR v) :
    Calls Try.prog 3 #[.slice ao lena capa, .slice bo lenb capb] w fun e w' => e = .returned (.bool true) ∧ Below w.heap.size w w' := by
  have PL := Lib.hid hl
  have PM := Lib.hid hm
  have n0 : ((u.length : Int) == 0) = false := by rw [beq_eq_false_iff_ne]; omega
  obtain ⟨i0, hi, hz0, hz1', hz2⟩ := info_parts infoP
  have hB : Below w.heap.size w w := Below.refl _ _
  clear hl hm
  go_enter Try.func3, Try.ntmps3
  go_wp2_with fail
  refine (head_any _).mono ?_; rintro e w1 ⟨rfl, hb⟩
  replace hB := belT hB hb
  clear hb
  go_wp2_with fail
  refine (fits_is ao lena capa l u _ (apts_below PL.out hB) HU).mono ?_; rintro e w2 ⟨⟨g1, k1, rfl, o1⟩, hb⟩
  replace hB := belT hB hb
  have s1 := hb.size
  clear hb
  go_wp2_with fail
  refine (fits_is bo lenb capb m v _ (apts_below PM.out hB) HV).mono ?_; rintro e w3 ⟨⟨g2, k2, rfl, o2⟩, hb⟩
  replace o1 := own_below o1 hb
  replace hB := belT hB hb
  have s2 := hb.size
  have hB0 := hB
  have Z1 : g1 < w3.heap.size := (o1.lt g1 rfl).2
  clear hb
  go_wp2_with (at_builtin; refine wpList_append_own _ rfl (.tmp 21) (.tmp 22) 22 rfl w3.heap.size 27 i0 (.agg #[.int .i64 0, .int .i64 0]) 2 16 Try.underlying22 hi hz0 hz1' hz2 rfl (by decide) _ _ _ rfl (World.ownsRow_lit w3 #[] 0 (Nat.le_refl _) (by decide) rfl) ⟨g1, 0, none⟩ u.length k1 (flat u) rfl (flat_len u) ((o1.alloc _).cells rfl) (flat_one u) (by unfold maxLen; omega) (by omega) (by simp) ?_)
  intro v1 w4 o3 hg hn
  replace o1 := (o1.alloc (.cells #[] 27)).kept hg (.inr (by show some g1 ≠ some w3.heap.size; intro h; have := (o1.lt g1 rfl).2; simp at h; omega))
  replace o2 := (o2.alloc (.cells #[] 27)).kept hg (.inr (by show some g2 ≠ some w3.heap.size; intro h; have := (o2.lt g2 rfl).2; simp at h; omega))
  have q1 := (o1.lt g1 rfl).1
  have s3 : w3.heap.size < w4.heap.size := by have := hg.size; simp at this; omega
  replace hB := (belA hB (.cells #[] 27)).grown hg (Nat.le_trans hB.size (by simp)) (fun k hk => le_of_own hB.size hk)
  clear hg
  try simp only [Nat.zero_add, List.nil_append] at o3
  have g1lt : g1 < w3.heap.size := Z1
  go_wp2_with (at_builtin; refine wpList_append_own _ rfl (.tmp 24) (.tmp 25) 22 rfl w3.heap.size 27 i0 (.agg #[.int .i64 0, .int .i64 0]) 2 16 Try.underlying22 hi hz0 hz1' hz2 rfl (by decide) _ _ _ rfl o3 ⟨g2, 0, none⟩ v.length k2 (flat v) rfl (flat_len v) (o2.cells rfl) (flat_one v) (by unfold maxLen; omega) (by omega) (by omega) ?_)
  intro v2 w5 o4 hg hn2
  have hv2 : v2 ≠ .slice none 0 0 := by intro h; first | exact hn2 h | exact hn (hn2.1 h).1
  have o1' := o1.kept hg (.inr (by intro h; have := (o3.lt g1 h.symm).1; omega))
  have s0 := hB0.size
  replace hB := hB.grown hg hB.size (fun k hk => by have := (o3.lt k hk).1; omega)
  clear hg o1 o2 o3 hn hn2 PL PM
  obtain ⟨z, hz⟩ : ∃ z, z = u ++ v := ⟨_, rfl⟩
  rw [← flat_app, ← hz, show u.length + v.length = z.length by rw [hz, List.length_append]] at o4
  obtain ⟨g3, k3, rfl, o5⟩ := own_form o4 hv2
  have rz : AllR z := by rw [hz]; exact allr_app ru rv
  have nz : z.length ≤ 1000000 := by rw [hz, List.length_append]; omega
  have Z := Lib.hid hz
  have pa := prow_g o1'
  have pz := prow_g o5
  clear o4 hv2 hz
  go_wp2_with fail
  obtain ⟨c0, c1, hc⟩ : ∃ x y, foldP lowP u = (x, y) := ⟨_, _, rfl⟩
  obtain ⟨d0, d1, hd⟩ : ∃ x y, foldP uppP u = (x, y) := ⟨_, _, rfl⟩
  obtain ⟨p0, p1, hp⟩ : ∃ x y, foldP lowP z = (x, y) := ⟨_, _, rfl⟩
  obtain ⟨r0, r1, hr⟩ : ∃ x y, foldP uppP z = (x, y) := ⟨_, _, rfl⟩
  have HC := Lib.hid hc
  have HD := Lib.hid hd
  have HP := Lib.hid hp
  have HR := Lib.hid hr
  have nu' : u.length ≤ 1000000 := by omega
  clear hc hd hp hr
  refine (bbox_is (some ⟨g1, 0, none⟩) k1 u _ nu' pa c0 c1 d0 d1 HC HD).mono ?_; rintro e w6 ⟨rfl, hb⟩
  replace o1' := own_below o1' hb
  replace o5 := own_below o5 hb
  replace hB := belT hB hb
  clear hb pa pz
  go_wp2_with fail
  refine (bbox_is (some ⟨g3, 0, none⟩) k3 z _ nz (prow_g ((o5.alloc _).alloc _)) p0 p1 r0 r1 HP HR).mono ?_; rintro e w7 ⟨rfl, hb⟩
  have a9 : w7.heap[w6.heap.size]? = some (.cells #[.int .i64 c0, .int .i64 c1] 27 (0, 0)) := blk_call (blk_alloc (blk_new _ _ _ rfl) _) hb
  have a10 : w7.heap[w6.heap.size + 1]? = some (.cells #[.int .i64 d0, .int .i64 d1] 27 (0, 0)) := blk_call (blk_new _ _ _ (by simp)) hb
  replace o1' := own_below ((o1'.alloc _).alloc _) hb
  replace o5 := own_below ((o5.alloc _).alloc _) hb
  replace hB := belT (belA (belA hB _) _) hb
  clear hb
  have l1 := (o1'.lt g1 rfl).2
  have l3 := (o5.lt g3 rfl).2
  have l9 := blk_lt a9
  have l10 := blk_lt a10
  have s7 := hB.size
  have n1 : g1 < w7.heap.size + 1 + 1 := by omega
  have n3 : g3 < w7.heap.size + 1 + 1 := by omega
  have n9 : w6.heap.size < w7.heap.size + 1 + 1 := by omega
  have n10 : w6.heap.size + 1 < w7.heap.size + 1 + 1 := by omega
  have ns : w.heap.size ≤ w7.heap.size + 1 + 1 := by omega
  go_wp2_with fail
  have b9 : (((w7.alloc (.cells #[.int .i64 p0, .int .i64 p1] 27)).alloc (.cells #[.int .i64 r0, .int .i64 r1] 27)).alloc (.cells #[.bool false, .bool false, .bool false, .bool false] 30)).heap[w6.heap.size]? = some (.cells #[.int .i64 c0, .int .i64 c1] 27 (0, 0)) := blk_alloc (blk_alloc (blk_alloc a9 _) _) _
  have b10 : (((w7.alloc (.cells #[.int .i64 p0, .int .i64 p1] 27)).alloc (.cells #[.int .i64 r0, .int .i64 r1] 27)).alloc (.cells #[.bool false, .bool false, .bool false, .bool false] 30)).heap[w6.heap.size + 1]? = some (.cells #[.int .i64 d0, .int .i64 d1] 27 (0, 0)) := blk_alloc (blk_alloc (blk_alloc a10 _) _) _
  have b11 : (((w7.alloc (.cells #[.int .i64 p0, .int .i64 p1] 27)).alloc (.cells #[.int .i64 r0, .int .i64 r1] 27)).alloc (.cells #[.bool false, .bool false, .bool false, .bool false] 30)).heap[w7.heap.size]? = some (.cells #[.int .i64 p0, .int .i64 p1] 27 (0, 0)) := blk_alloc (blk_alloc (blk_new _ _ _ rfl) _) _
  have b12 : (((w7.alloc (.cells #[.int .i64 p0, .int .i64 p1] 27)).alloc (.cells #[.int .i64 r0, .int .i64 r1] 27)).alloc (.cells #[.bool false, .bool false, .bool false, .bool false] 30)).heap[w7.heap.size + 1]? = some (.cells #[.int .i64 r0, .int .i64 r1] 27 (0, 0)) := blk_alloc (blk_new _ _ _ (by simp)) _
  have b13 : (((w7.alloc (.cells #[.int .i64 p0, .int .i64 p1] 27)).alloc (.cells #[.int .i64 r0, .int .i64 r1] 27)).alloc (.cells #[.bool false, .bool false, .bool false, .bool false] 30)).heap[w7.heap.size + 1 + 1]? = some (.cells #[.bool false, .bool false, .bool false, .bool false] 30 (0, 0)) := blk_new _ _ _ (by simp)
  replace o1' := ((o1'.alloc (.cells #[.int .i64 p0, .int .i64 p1] 27)).alloc (.cells #[.int .i64 r0, .int .i64 r1] 27)).alloc (.cells #[.bool false, .bool false, .bool false, .bool false] 30)
  replace o5 := ((o5.alloc (.cells #[.int .i64 p0, .int .i64 p1] 27)).alloc (.cells #[.int .i64 r0, .int .i64 r1] 27)).alloc (.cells #[.bool false, .bool false, .bool false, .bool false] 30)
  replace hB : Below w.heap.size w (((w7.alloc (.cells #[.int .i64 p0, .int .i64 p1] 27)).alloc (.cells #[.int .i64 r0, .int .i64 r1] 27)).alloc (.cells #[.bool false, .bool false, .bool false, .bool false] 30)) := belA (belA (belA hB _) _) _
  clear a9 a10
  generalize (((w7.alloc (.cells #[.int .i64 p0, .int .i64 p1] 27)).alloc (.cells #[.int .i64 r0, .int .i64 r1] 27)).alloc (.cells #[.bool false, .bool false, .bool false, .bool false] 30)) = wl at *
  have hm := hB.size
  go_loopw [14] (fun i wr => ∃ (k : Nat) (t0 t1 t2 t3 : Bool), k ≤ u.length ∧ i = .int .i64 k ∧ Hid (anyP (fun p => p.1 == c0) u k = t0) ∧ Hid (anyP (fun p => p.2 == c1) u k = t1) ∧ Hid (anyP (fun p => p.1 == d0) u k = t2) ∧ Hid (anyP (fun p => p.2 == d1) u k = t3) ∧ wr.heap[w6.heap.size]? = some (.cells #[.int .i64 c0, .int .i64 c1] 27 (0, 0)) ∧ wr.heap[w6.heap.size + 1]? = some (.cells #[.int .i64 d0, .int .i64 d1] 27 (0, 0)) ∧ wr.heap[w7.heap.size]? = some (.cells #[.int .i64 p0, .int .i64 p1] 27 (0, 0)) ∧ wr.heap[w7.heap.size + 1]? = some (.cells #[.int .i64 r0, .int .i64 r1] 27 (0, 0)) ∧ wr.heap[w7.heap.size + 1 + 1]? = some (.cells #[.bool t0, .bool t1, .bool t2, .bool t3] 30 (0, 0)) ∧ wr.ownsRow w1.heap.size 27 2 (.slice (some ⟨g1, 0, none⟩) u.length k1) u.length (flat u) ∧ wr.ownsRow w3.heap.size 27 2 (.slice (some ⟨g3, 0, none⟩) z.length k3) z.length (flat z) ∧ Below w.heap.size w wr) (fun i _ => u.length - (intOf i).toNat)
  case atStart => exact ⟨0, false, false, false, false, Nat.zero_le _, rfl, Lib.hid rfl, Lib.hid rfl, Lib.hid rfl, Lib.hid rfl, b9, b10, b11, b12, b13, o1', o5, hB⟩
  case round =>
    clear b9 b10 b11 b12 b13 o1' o5 hB
    obtain ⟨k, t0, t1, t2, t3, hk, rfl, T0, T1, T2, T3, b9, b10, b11, b12, b13, o1, o5, hB⟩ := hrel
    have f9a := blk_cell b9 0 _ rfl
    have f9b := blk_cell b9 1 _ rfl
    have f10a := blk_cell b10 0 _ rfl
    have f10b := blk_cell b10 1 _ rfl
    have y9 := blk_lt b9
    have y10 := blk_lt b10
    have y13 := blk_lt b13
    by_cases hlt : k < u.length
    · obtain ⟨_, _, ho, x1, x2⟩ := prow_g o1 k hlt
      obtain ⟨rfl, rfl⟩ : g1 = _ ∧ 0 = _ := by simpa using ho
      have m1 := low_le u k hlt
      have m2 := upp_ge u k hlt
      rw [HC.out] at m1
      rw [HD.out] at m2
      obtain ⟨e1, e2, he⟩ : ∃ e1 e2, u.getD k (0, 0) = (e1, e2) := ⟨_, _, rfl⟩
      rw [he] at x1 x2 m1 m2
      obtain ⟨m11, m12⟩ := m1
      obtain ⟨m21, m22⟩ := m2
      simp only [Nat.zero_add] at x1 x2
      have N0 : Hid (anyP (fun p => p.1 == c0) u (k + 1) = (t0 || (e1 == c0))) := Lib.hid (by rw [anyP_next _ _ _ hlt, T0.out, he])
      have N1 : Hid (anyP (fun p => p.2 == c1) u (k + 1) = (t1 || (e2 == c1))) := Lib.hid (by rw [anyP_next _ _ _ hlt, T1.out, he])
      have N2 : Hid (anyP (fun p => p.1 == d0) u (k + 1) = (t2 || (e1 == d0))) := Lib.hid (by rw [anyP_next _ _ _ hlt, T2.out, he])
      have N3 : Hid (anyP (fun p => p.2 == d1) u (k + 1) = (t3 || (e2 == d1))) := Lib.hid (by rw [anyP_next _ _ _ hlt, T3.out, he])
      have hki : (k : Int) < u.length := by omega
      clear he ho T0 T1 T2 T3
      have c130 := blk_cell b13 0 _ rfl
      have c131 := blk_cell b13 1 _ rfl
      have c132 := blk_cell b13 2 _ rfl
      have c133 := blk_cell b13 3 _ rfl
      have z130 := blk_fz b13 0
      have z131 := blk_fz b13 1
      have z132 := blk_fz b13 2
      have z133 := blk_fz b13 3
      cases t0
      · cases t1
        · cases t2
          · cases t3
            · go_wp2
              go_roundw
              case rel =>
                refine ⟨k + 1, (e1 == c0), (e2 == c1), (e1 == d0), (e2 == d1), by omega, by go_num, N0, N1, N2, N3, ?_, ?_, ?_, ?_, ?_, ?_, ?_, ?_⟩
                · exact blk_alloc (blk_other (blk_other (blk_other (blk_other b9 (by omega) _) (by omega) _) (by omega) _) (by omega) _) _
                · exact blk_alloc (blk_other (blk_other (blk_other (blk_other b10 (by omega) _) (by omega) _) (by omega) _) (by omega) _) _
                · exact blk_alloc (blk_other (blk_other (blk_other (blk_other b11 (by omega) _) (by omega) _) (by omega) _) (by omega) _) _
                · exact blk_alloc (blk_other (blk_other (blk_other (blk_other b12 (by omega) _) (by omega) _) (by omega) _) (by omega) _) _
                · first | exact blk_alloc (blk_set (blk_set (blk_set (blk_set b13 _) _) _) _) _ | exact blk_set (blk_set (blk_set (blk_set (blk_alloc b13 _) _) _) _) _
                · exact World.ownsRow.alloc (ownsRow_setCell_other (ownsRow_setCell_other (ownsRow_setCell_other (ownsRow_setCell_other o1 (own_ne (by omega)) _) (own_ne (by omega)) _) (own_ne (by omega)) _) (own_ne (by omega)) _) _
                · exact World.ownsRow.alloc (ownsRow_setCell_other (ownsRow_setCell_other (ownsRow_setCell_other (ownsRow_setCell_other o5 (own_ne (by omega)) _) (own_ne (by omega)) _) (own_ne (by omega)) _) (own_ne (by omega)) _) _
                · exact belA (belS (belS (belS (belS hB (by simp; omega) _) (by simp; omega) _) (by simp; omega) _) (by simp; omega) _) _
              case measure => simp [intOf]; omega
            · go_wp2
              go_roundw
              case rel =>
                refine ⟨k + 1, (e1 == c0), (e2 == c1), (e1 == d0), true, by omega, by go_num, N0, N1, N2, N3, ?_, ?_, ?_, ?_, ?_, ?_, ?_, ?_⟩
                · exact blk_alloc (blk_other (blk_other (blk_other (blk_other b9 (by omega) _) (by omega) _) (by omega) _) (by omega) _) _
                · exact blk_alloc (blk_other (blk_other (blk_other (blk_other b10 (by omega) _) (by omega) _) (by omega) _) (by omega) _) _
                · exact blk_alloc (blk_other (blk_other (blk_other (blk_other b11 (by omega) _) (by omega) _) (by omega) _) (by omega) _) _
                · exact blk_alloc (blk_other (blk_other (blk_other (blk_other b12 (by omega) _) (by omega) _) (by omega) _) (by omega) _) _
                · first | exact blk_alloc (blk_set (blk_set (blk_set (blk_set b13 _) _) _) _) _ | exact blk_set (blk_set (blk_set (blk_set (blk_alloc b13 _) _) _) _) _
                · exact World.ownsRow.alloc (ownsRow_setCell_other (ownsRow_setCell_other (ownsRow_setCell_other (ownsRow_setCell_other o1 (own_ne (by omega)) _) (own_ne (by omega)) _) (own_ne (by omega)) _) (own_ne (by omega)) _) _
                · exact World.ownsRow.alloc (ownsRow_setCell_other (ownsRow_setCell_other (ownsRow_setCell_other (ownsRow_setCell_other o5 (own_ne (by omega)) _) (own_ne (by omega)) _) (own_ne (by omega)) _) (own_ne (by omega)) _) _
                · exact belA (belS (belS (belS (belS hB (by simp; omega) _) (by simp; omega) _) (by simp; omega) _) (by simp; omega) _) _
              case measure => simp [intOf]; omega
          · cases t3
            · go_wp2
              go_roundw
              case rel =>
                refine ⟨k + 1, (e1 == c0), (e2 == c1), true, (e2 == d1), by omega, by go_num, N0, N1, N2, N3, ?_, ?_, ?_, ?_, ?_, ?_, ?_, ?_⟩
                · exact blk_alloc (blk_other (blk_other (blk_other (blk_other b9 (by omega) _) (by omega) _) (by omega) _) (by omega) _) _
                · exact blk_alloc (blk_other (blk_other (blk_other (blk_other b10 (by omega) _) (by omega) _) (by omega) _) (by omega) _) _
                · exact blk_alloc (blk_other (blk_other (blk_other (blk_other b11 (by omega) _) (by omega) _) (by omega) _) (by omega) _) _
                · exact blk_alloc (blk_other (blk_other (blk_other (blk_other b12 (by omega) _) (by omega) _) (by omega) _) (by omega) _) _
                · first | exact blk_alloc (blk_set (blk_set (blk_set (blk_set b13 _) _) _) _) _ | exact blk_set (blk_set (blk_set (blk_set (blk_alloc b13 _) _) _) _) _
                · exact World.ownsRow.alloc (ownsRow_setCell_other (ownsRow_setCell_other (ownsRow_setCell_other (ownsRow_setCell_other o1 (own_ne (by omega)) _) (own_ne (by omega)) _) (own_ne (by omega)) _) (own_ne (by omega)) _) _
                · exact World.ownsRow.alloc (ownsRow_setCell_other (ownsRow_setCell_other (ownsRow_setCell_other (ownsRow_setCell_other o5 (own_ne (by omega)) _) (own_ne (by omega)) _) (own_ne (by omega)) _) (own_ne (by omega)) _) _
                · exact belA (belS (belS (belS (belS hB (by simp; omega) _) (by simp; omega) _) (by simp; omega) _) (by simp; omega) _) _
              case measure => simp [intOf]; omega
            · go_wp2
              go_roundw
              case rel =>
                refine ⟨k + 1, (e1 == c0), (e2 == c1), true, true, by omega, by go_num, N0, N1, N2, N3, ?_, ?_, ?_, ?_, ?_, ?_, ?_, ?_⟩
                · exact blk_alloc (blk_other (blk_other (blk_other (blk_other b9 (by omega) _) (by omega) _) (by omega) _) (by omega) _) _
                · exact blk_alloc (blk_other (blk_other (blk_other (blk_other b10 (by omega) _) (by omega) _) (by omega) _) (by omega) _) _
                · exact blk_alloc (blk_other (blk_other (blk_other (blk_other b11 (by omega) _) (by omega) _) (by omega) _) (by omega) _) _
                · exact blk_alloc (blk_other (blk_other (blk_other (blk_other b12 (by omega) _) (by omega) _) (by omega) _) (by omega) _) _
                · first | exact blk_alloc (blk_set (blk_set (blk_set (blk_set b13 _) _) _) _) _ | exact blk_set (blk_set (blk_set (blk_set (blk_alloc b13 _) _) _) _) _
                · exact World.ownsRow.alloc (ownsRow_setCell_other (ownsRow_setCell_other (ownsRow_setCell_other (ownsRow_setCell_other o1 (own_ne (by omega)) _) (own_ne (by omega)) _) (own_ne (by omega)) _) (own_ne (by omega)) _) _
                · exact World.ownsRow.alloc (ownsRow_setCell_other (ownsRow_setCell_other (ownsRow_setCell_other (ownsRow_setCell_other o5 (own_ne (by omega)) _) (own_ne (by omega)) _) (own_ne (by omega)) _) (own_ne (by omega)) _) _
                · exact belA (belS (belS (belS (belS hB (by simp; omega) _) (by simp; omega) _) (by simp; omega) _) (by simp; omega) _) _
              case measure => simp [intOf]; omega
        · cases t2
          · cases t3
            · go_wp2
              go_roundw
              case rel =>
                refine ⟨k + 1, (e1 == c0), true, (e1 == d0), (e2 == d1), by omega, by go_num, N0, N1, N2, N3, ?_, ?_, ?_, ?_, ?_, ?_, ?_, ?_⟩
                · exact blk_alloc (blk_other (blk_other (blk_other (blk_other b9 (by omega) _) (by omega) _) (by omega) _) (by omega) _) _
                · exact blk_alloc (blk_other (blk_other (blk_other (blk_other b10 (by omega) _) (by omega) _) (by omega) _) (by omega) _) _
                · exact blk_alloc (blk_other (blk_other (blk_other (blk_other b11 (by omega) _) (by omega) _) (by omega) _) (by omega) _) _
                · exact blk_alloc (blk_other (blk_other (blk_other (blk_other b12 (by omega) _) (by omega) _) (by omega) _) (by omega) _) _
                · first | exact blk_alloc (blk_set (blk_set (blk_set (blk_set b13 _) _) _) _) _ | exact blk_set (blk_set (blk_set (blk_set (blk_alloc b13 _) _) _) _) _
                · exact World.ownsRow.alloc (ownsRow_setCell_other (ownsRow_setCell_other (ownsRow_setCell_other (ownsRow_setCell_other o1 (own_ne (by omega)) _) (own_ne (by omega)) _) (own_ne (by omega)) _) (own_ne (by omega)) _) _
                · exact World.ownsRow.alloc (ownsRow_setCell_other (ownsRow_setCell_other (ownsRow_setCell_other (ownsRow_setCell_other o5 (own_ne (by omega)) _) (own_ne (by omega)) _) (own_ne (by omega)) _) (own_ne (by omega)) _) _
                · exact belA (belS (belS (belS (belS hB (by simp; omega) _) (by simp; omega) _) (by simp; omega) _) (by simp; omega) _) _
              case measure => simp [intOf]; omega
            · go_wp2
              go_roundw
              case rel =>
                refine ⟨k + 1, (e1 == c0), true, (e1 == d0), true, by omega, by go_num, N0, N1, N2, N3, ?_, ?_, ?_, ?_, ?_, ?_, ?_, ?_⟩
                · exact blk_alloc (blk_other (blk_other (blk_other (blk_other b9 (by omega) _) (by omega) _) (by omega) _) (by omega) _) _
                · exact blk_alloc (blk_other (blk_other (blk_other (blk_other b10 (by omega) _) (by omega) _) (by omega) _) (by omega) _) _
                · exact blk_alloc (blk_other (blk_other (blk_other (blk_other b11 (by omega) _) (by omega) _) (by omega) _) (by omega) _) _
                · exact blk_alloc (blk_other (blk_other (blk_other (blk_other b12 (by omega) _) (by omega) _) (by omega) _) (by omega) _) _
                · first | exact blk_alloc (blk_set (blk_set (blk_set (blk_set b13 _) _) _) _) _ | exact blk_set (blk_set (blk_set (blk_set (blk_alloc b13 _) _) _) _) _
                · exact World.ownsRow.alloc (ownsRow_setCell_other (ownsRow_setCell_other (ownsRow_setCell_other (ownsRow_setCell_other o1 (own_ne (by omega)) _) (own_ne (by omega)) _) (own_ne (by omega)) _) (own_ne (by omega)) _) _
                · exact World.ownsRow.alloc (ownsRow_setCell_other (ownsRow_setCell_other (ownsRow_setCell_other (ownsRow_setCell_other o5 (own_ne (by omega)) _) (own_ne (by omega)) _) (own_ne (by omega)) _) (own_ne (by omega)) _) _
                · exact belA (belS (belS (belS (belS hB (by simp; omega) _) (by simp; omega) _) (by simp; omega) _) (by simp; omega) _) _
              case measure => simp [intOf]; omega
          · cases t3
            · go_wp2
              go_roundw
              case rel =>
                refine ⟨k + 1, (e1 == c0), true, true, (e2 == d1), by omega, by go_num, N0, N1, N2, N3, ?_, ?_, ?_, ?_, ?_, ?_, ?_, ?_⟩
                · exact blk_alloc (blk_other (blk_other (blk_other (blk_other b9 (by omega) _) (by omega) _) (by omega) _) (by omega) _) _
                · exact blk_alloc (blk_other (blk_other (blk_other (blk_other b10 (by omega) _) (by omega) _) (by omega) _) (by omega) _) _
                · exact blk_alloc (blk_other (blk_other (blk_other (blk_other b11 (by omega) _) (by omega) _) (by omega) _) (by omega) _) _
                · exact blk_alloc (blk_other (blk_other (blk_other (blk_other b12 (by omega) _) (by omega) _) (by omega) _) (by omega) _) _
                · first | exact blk_alloc (blk_set (blk_set (blk_set (blk_set b13 _) _) _) _) _ | exact blk_set (blk_set (blk_set (blk_set (blk_alloc b13 _) _) _) _) _
                · exact World.ownsRow.alloc (ownsRow_setCell_other (ownsRow_setCell_other (ownsRow_setCell_other (ownsRow_setCell_other o1 (own_ne (by omega)) _) (own_ne (by omega)) _) (own_ne (by omega)) _) (own_ne (by omega)) _) _
                · exact World.ownsRow.alloc (ownsRow_setCell_other (ownsRow_setCell_other (ownsRow_setCell_other (ownsRow_setCell_other o5 (own_ne (by omega)) _) (own_ne (by omega)) _) (own_ne (by omega)) _) (own_ne (by omega)) _) _
                · exact belA (belS (belS (belS (belS hB (by simp; omega) _) (by simp; omega) _) (by simp; omega) _) (by simp; omega) _) _
              case measure => simp [intOf]; omega
            · go_wp2
              go_roundw
              case rel =>
                refine ⟨k + 1, (e1 == c0), true, true, true, by omega, by go_num, N0, N1, N2, N3, ?_, ?_, ?_, ?_, ?_, ?_, ?_, ?_⟩
                · exact blk_alloc (blk_other (blk_other (blk_other (blk_other b9 (by omega) _) (by omega) _) (by omega) _) (by omega) _) _
                · exact blk_alloc (blk_other (blk_other (blk_other (blk_other b10 (by omega) _) (by omega) _) (by omega) _) (by omega) _) _
                · exact blk_alloc (blk_other (blk_other (blk_other (blk_other b11 (by omega) _) (by omega) _) (by omega) _) (by omega) _) _
                · exact blk_alloc (blk_other (blk_other (blk_other (blk_other b12 (by omega) _) (by omega) _) (by omega) _) (by omega) _) _
                · first | exact blk_alloc (blk_set (blk_set (blk_set (blk_set b13 _) _) _) _) _ | exact blk_set (blk_set (blk_set (blk_set (blk_alloc b13 _) _) _) _) _
                · exact World.ownsRow.alloc (ownsRow_setCell_other (ownsRow_setCell_other (ownsRow_setCell_other (ownsRow_setCell_other o1 (own_ne (by omega)) _) (own_ne (by omega)) _) (own_ne (by omega)) _) (own_ne (by omega)) _) _
                · exact World.ownsRow.alloc (ownsRow_setCell_other (ownsRow_setCell_other (ownsRow_setCell_other (ownsRow_setCell_other o5 (own_ne (by omega)) _) (own_ne (by omega)) _) (own_ne (by omega)) _) (own_ne (by omega)) _) _
                · exact belA (belS (belS (belS (belS hB (by simp; omega) _) (by simp; omega) _) (by simp; omega) _) (by simp; omega) _) _
              case measure => simp [intOf]; omega
      · cases t1
        · cases t2
          · cases t3
            · go_wp2
              go_roundw
              case rel =>
                refine ⟨k + 1, true, (e2 == c1), (e1 == d0), (e2 == d1), by omega, by go_num, N0, N1, N2, N3, ?_, ?_, ?_, ?_, ?_, ?_, ?_, ?_⟩
                · exact blk_alloc (blk_other (blk_other (blk_other (blk_other b9 (by omega) _) (by omega) _) (by omega) _) (by omega) _) _
                · exact blk_alloc (blk_other (blk_other (blk_other (blk_other b10 (by omega) _) (by omega) _) (by omega) _) (by omega) _) _
                · exact blk_alloc (blk_other (blk_other (blk_other (blk_other b11 (by omega) _) (by omega) _) (by omega) _) (by omega) _) _
                · exact blk_alloc (blk_other (blk_other (blk_other (blk_other b12 (by omega) _) (by omega) _) (by omega) _) (by omega) _) _
                · first | exact blk_alloc (blk_set (blk_set (blk_set (blk_set b13 _) _) _) _) _ | exact blk_set (blk_set (blk_set (blk_set (blk_alloc b13 _) _) _) _) _
                · exact World.ownsRow.alloc (ownsRow_setCell_other (ownsRow_setCell_other (ownsRow_setCell_other (ownsRow_setCell_other o1 (own_ne (by omega)) _) (own_ne (by omega)) _) (own_ne (by omega)) _) (own_ne (by omega)) _) _
                · exact World.ownsRow.alloc (ownsRow_setCell_other (ownsRow_setCell_other (ownsRow_setCell_other (ownsRow_setCell_other o5 (own_ne (by omega)) _) (own_ne (by omega)) _) (own_ne (by omega)) _) (own_ne (by omega)) _) _
                · exact belA (belS (belS (belS (belS hB (by simp; omega) _) (by simp; omega) _) (by simp; omega) _) (by simp; omega) _) _
              case measure => simp [intOf]; omega
            · go_wp2
              go_roundw
              case rel =>
                refine ⟨k + 1, true, (e2 == c1), (e1 == d0), true, by omega, by go_num, N0, N1, N2, N3, ?_, ?_, ?_, ?_, ?_, ?_, ?_, ?_⟩
                · exact blk_alloc (blk_other (blk_other (blk_other (blk_other b9 (by omega) _) (by omega) _) (by omega) _) (by omega) _) _
                · exact blk_alloc (blk_other (blk_other (blk_other (blk_other b10 (by omega) _) (by omega) _) (by omega) _) (by omega) _) _
                · exact blk_alloc (blk_other (blk_other (blk_other (blk_other b11 (by omega) _) (by omega) _) (by omega) _) (by omega) _) _
                · exact blk_alloc (blk_other (blk_other (blk_other (blk_other b12 (by omega) _) (by omega) _) (by omega) _) (by omega) _) _
                · first | exact blk_alloc (blk_set (blk_set (blk_set (blk_set b13 _) _) _) _) _ | exact blk_set (blk_set (blk_set (blk_set (blk_alloc b13 _) _) _) _) _
                · exact World.ownsRow.alloc (ownsRow_setCell_other (ownsRow_setCell_other (ownsRow_setCell_other (ownsRow_setCell_other o1 (own_ne (by omega)) _) (own_ne (by omega)) _) (own_ne (by omega)) _) (own_ne (by omega)) _) _
                · exact World.ownsRow.alloc (ownsRow_setCell_other (ownsRow_setCell_other (ownsRow_setCell_other (ownsRow_setCell_other o5 (own_ne (by omega)) _) (own_ne (by omega)) _) (own_ne (by omega)) _) (own_ne (by omega)) _) _
                · exact belA (belS (belS (belS (belS hB (by simp; omega) _) (by simp; omega) _) (by simp; omega) _) (by simp; omega) _) _
              case measure => simp [intOf]; omega
          · cases t3
            · go_wp2
              go_roundw
              case rel =>
                refine ⟨k + 1, true, (e2 == c1), true, (e2 == d1), by omega, by go_num, N0, N1, N2, N3, ?_, ?_, ?_, ?_, ?_, ?_, ?_, ?_⟩
                · exact blk_alloc (blk_other (blk_other (blk_other (blk_other b9 (by omega) _) (by omega) _) (by omega) _) (by omega) _) _
                · exact blk_alloc (blk_other (blk_other (blk_other (blk_other b10 (by omega) _) (by omega) _) (by omega) _) (by omega) _) _
                · exact blk_alloc (blk_other (blk_other (blk_other (blk_other b11 (by omega) _) (by omega) _) (by omega) _) (by omega) _) _
                · exact blk_alloc (blk_other (blk_other (blk_other (blk_other b12 (by omega) _) (by omega) _) (by omega) _) (by omega) _) _
                · first | exact blk_alloc (blk_set (blk_set (blk_set (blk_set b13 _) _) _) _) _ | exact blk_set (blk_set (blk_set (blk_set (blk_alloc b13 _) _) _) _) _
                · exact World.ownsRow.alloc (ownsRow_setCell_other (ownsRow_setCell_other (ownsRow_setCell_other (ownsRow_setCell_other o1 (own_ne (by omega)) _) (own_ne (by omega)) _) (own_ne (by omega)) _) (own_ne (by omega)) _) _
                · exact World.ownsRow.alloc (ownsRow_setCell_other (ownsRow_setCell_other (ownsRow_setCell_other (ownsRow_setCell_other o5 (own_ne (by omega)) _) (own_ne (by omega)) _) (own_ne (by omega)) _) (own_ne (by omega)) _) _
                · exact belA (belS (belS (belS (belS hB (by simp; omega) _) (by simp; omega) _) (by simp; omega) _) (by simp; omega) _) _
              case measure => simp [intOf]; omega
            · go_wp2
              go_roundw
              case rel =>
                refine ⟨k + 1, true, (e2 == c1), true, true, by omega, by go_num, N0, N1, N2, N3, ?_, ?_, ?_, ?_, ?_, ?_, ?_, ?_⟩
                · exact blk_alloc (blk_other (blk_other (blk_other (blk_other b9 (by omega) _) (by omega) _) (by omega) _) (by omega) _) _
                · exact blk_alloc (blk_other (blk_other (blk_other (blk_other b10 (by omega) _) (by omega) _) (by omega) _) (by omega) _) _
                · exact blk_alloc (blk_other (blk_other (blk_other (blk_other b11 (by omega) _) (by omega) _) (by omega) _) (by omega) _) _
                · exact blk_alloc (blk_other (blk_other (blk_other (blk_other b12 (by omega) _) (by omega) _) (by omega) _) (by omega) _) _
                · first | exact blk_alloc (blk_set (blk_set (blk_set (blk_set b13 _) _) _) _) _ | exact blk_set (blk_set (blk_set (blk_set (blk_alloc b13 _) _) _) _) _
                · exact World.ownsRow.alloc (ownsRow_setCell_other (ownsRow_setCell_other (ownsRow_setCell_other (ownsRow_setCell_other o1 (own_ne (by omega)) _) (own_ne (by omega)) _) (own_ne (by omega)) _) (own_ne (by omega)) _) _
                · exact World.ownsRow.alloc (ownsRow_setCell_other (ownsRow_setCell_other (ownsRow_setCell_other (ownsRow_setCell_other o5 (own_ne (by omega)) _) (own_ne (by omega)) _) (own_ne (by omega)) _) (own_ne (by omega)) _) _
                · exact belA (belS (belS (belS (belS hB (by simp; omega) _) (by simp; omega) _) (by simp; omega) _) (by simp; omega) _) _
              case measure => simp [intOf]; omega
        · cases t2
          · cases t3
            · go_wp2
              go_roundw
              case rel =>
                refine ⟨k + 1, true, true, (e1 == d0), (e2 == d1), by omega, by go_num, N0, N1, N2, N3, ?_, ?_, ?_, ?_, ?_, ?_, ?_, ?_⟩
                · exact blk_alloc (blk_other (blk_other (blk_other (blk_other b9 (by omega) _) (by omega) _) (by omega) _) (by omega) _) _
                · exact blk_alloc (blk_other (blk_other (blk_other (blk_other b10 (by omega) _) (by omega) _) (by omega) _) (by omega) _) _
                · exact blk_alloc (blk_other (blk_other (blk_other (blk_other b11 (by omega) _) (by omega) _) (by omega) _) (by omega) _) _
                · exact blk_alloc (blk_other (blk_other (blk_other (blk_other b12 (by omega) _) (by omega) _) (by omega) _) (by omega) _) _
                · first | exact blk_alloc (blk_set (blk_set (blk_set (blk_set b13 _) _) _) _) _ | exact blk_set (blk_set (blk_set (blk_set (blk_alloc b13 _) _) _) _) _
                · exact World.ownsRow.alloc (ownsRow_setCell_other (ownsRow_setCell_other (ownsRow_setCell_other (ownsRow_setCell_other o1 (own_ne (by omega)) _) (own_ne (by omega)) _) (own_ne (by omega)) _) (own_ne (by omega)) _) _
                · exact World.ownsRow.alloc (ownsRow_setCell_other (ownsRow_setCell_other (ownsRow_setCell_other (ownsRow_setCell_other o5 (own_ne (by omega)) _) (own_ne (by omega)) _) (own_ne (by omega)) _) (own_ne (by omega)) _) _
                · exact belA (belS (belS (belS (belS hB (by simp; omega) _) (by simp; omega) _) (by simp; omega) _) (by simp; omega) _) _
              case measure => simp [intOf]; omega
            · go_wp2
              go_roundw
              case rel =>
                refine ⟨k + 1, true, true, (e1 == d0), true, by omega, by go_num, N0, N1, N2, N3, ?_, ?_, ?_, ?_, ?_, ?_, ?_, ?_⟩
                · exact blk_alloc (blk_other (blk_other (blk_other (blk_other b9 (by omega) _) (by omega) _) (by omega) _) (by omega) _) _
                · exact blk_alloc (blk_other (blk_other (blk_other (blk_other b10 (by omega) _) (by omega) _) (by omega) _) (by omega) _) _
                · exact blk_alloc (blk_other (blk_other (blk_other (blk_other b11 (by omega) _) (by omega) _) (by omega) _) (by omega) _) _
                · exact blk_alloc (blk_other (blk_other (blk_other (blk_other b12 (by omega) _) (by omega) _) (by omega) _) (by omega) _) _
                · first | exact blk_alloc (blk_set (blk_set (blk_set (blk_set b13 _) _) _) _) _ | exact blk_set (blk_set (blk_set (blk_set (blk_alloc b13 _) _) _) _) _
                · exact World.ownsRow.alloc (ownsRow_setCell_other (ownsRow_setCell_other (ownsRow_setCell_other (ownsRow_setCell_other o1 (own_ne (by omega)) _) (own_ne (by omega)) _) (own_ne (by omega)) _) (own_ne (by omega)) _) _
                · exact World.ownsRow.alloc (ownsRow_setCell_other (ownsRow_setCell_other (ownsRow_setCell_other (ownsRow_setCell_other o5 (own_ne (by omega)) _) (own_ne (by omega)) _) (own_ne (by omega)) _) (own_ne (by omega)) _) _
                · exact belA (belS (belS (belS (belS hB (by simp; omega) _) (by simp; omega) _) (by simp; omega) _) (by simp; omega) _) _
              case measure => simp [intOf]; omega
          · cases t3
            · go_wp2
              go_roundw
              case rel =>
                refine ⟨k + 1, true, true, true, (e2 == d1), by omega, by go_num, N0, N1, N2, N3, ?_, ?_, ?_, ?_, ?_, ?_, ?_, ?_⟩
                · exact blk_alloc (blk_other (blk_other (blk_other (blk_other b9 (by omega) _) (by omega) _) (by omega) _) (by omega) _) _
                · exact blk_alloc (blk_other (blk_other (blk_other (blk_other b10 (by omega) _) (by omega) _) (by omega) _) (by omega) _) _
                · exact blk_alloc (blk_other (blk_other (blk_other (blk_other b11 (by omega) _) (by omega) _) (by omega) _) (by omega) _) _
                · exact blk_alloc (blk_other (blk_other (blk_other (blk_other b12 (by omega) _) (by omega) _) (by omega) _) (by omega) _) _
                · first | exact blk_alloc (blk_set (blk_set (blk_set (blk_set b13 _) _) _) _) _ | exact blk_set (blk_set (blk_set (blk_set (blk_alloc b13 _) _) _) _) _
                · exact World.ownsRow.alloc (ownsRow_setCell_other (ownsRow_setCell_other (ownsRow_setCell_other (ownsRow_setCell_other o1 (own_ne (by omega)) _) (own_ne (by omega)) _) (own_ne (by omega)) _) (own_ne (by omega)) _) _
                · exact World.ownsRow.alloc (ownsRow_setCell_other (ownsRow_setCell_other (ownsRow_setCell_other (ownsRow_setCell_other o5 (own_ne (by omega)) _) (own_ne (by omega)) _) (own_ne (by omega)) _) (own_ne (by omega)) _) _
                · exact belA (belS (belS (belS (belS hB (by simp; omega) _) (by simp; omega) _) (by simp; omega) _) (by simp; omega) _) _
              case measure => simp [intOf]; omega
            · go_wp2
              go_roundw
              case rel =>
                refine ⟨k + 1, true, true, true, true, by omega, by go_num, N0, N1, N2, N3, ?_, ?_, ?_, ?_, ?_, ?_, ?_, ?_⟩
                · exact blk_alloc (blk_other (blk_other (blk_other (blk_other b9 (by omega) _) (by omega) _) (by omega) _) (by omega) _) _
                · exact blk_alloc (blk_other (blk_other (blk_other (blk_other b10 (by omega) _) (by omega) _) (by omega) _) (by omega) _) _
                · exact blk_alloc (blk_other (blk_other (blk_other (blk_other b11 (by omega) _) (by omega) _) (by omega) _) (by omega) _) _
                · exact blk_alloc (blk_other (blk_other (blk_other (blk_other b12 (by omega) _) (by omega) _) (by omega) _) (by omega) _) _
                · first | exact blk_alloc (blk_set (blk_set (blk_set (blk_set b13 _) _) _) _) _ | exact blk_set (blk_set (blk_set (blk_set (blk_alloc b13 _) _) _) _) _
                · exact World.ownsRow.alloc (ownsRow_setCell_other (ownsRow_setCell_other (ownsRow_setCell_other (ownsRow_setCell_other o1 (own_ne (by omega)) _) (own_ne (by omega)) _) (own_ne (by omega)) _) (own_ne (by omega)) _) _
                · exact World.ownsRow.alloc (ownsRow_setCell_other (ownsRow_setCell_other (ownsRow_setCell_other (ownsRow_setCell_other o5 (own_ne (by omega)) _) (own_ne (by omega)) _) (own_ne (by omega)) _) (own_ne (by omega)) _) _
                · exact belA (belS (belS (belS (belS hB (by simp; omega) _) (by simp; omega) _) (by simp; omega) _) (by simp; omega) _) _
              case measure => simp [intOf]; omega
    · have hk' : k = u.length := by omega
      have w1' := low_met u hu0
      have w2' := upp_met u hu0
      rw [HC.out] at w1'
      rw [HD.out] at w2'
      have e0 : t0 = true := by rw [← T0.out, hk']; exact anyP_all _ u (by obtain ⟨⟨i, hi, h⟩, _⟩ := w1'; exact ⟨i, hi, by simpa using h⟩)
      have e1 : t1 = true := by rw [← T1.out, hk']; exact anyP_all _ u (by obtain ⟨_, i, hi, h⟩ := w1'; exact ⟨i, hi, by simpa using h⟩)
      have e2 : t2 = true := by rw [← T2.out, hk']; exact anyP_all _ u (by obtain ⟨⟨i, hi, h⟩, _⟩ := w2'; exact ⟨i, hi, by simpa using h⟩)
      have e3 : t3 = true := by rw [← T3.out, hk']; exact anyP_all _ u (by obtain ⟨_, i, hi, h⟩ := w2'; exact ⟨i, hi, by simpa using h⟩)
      subst e0 e1 e2 e3
      obtain ⟨⟨h1, h2⟩, h3, h4⟩ := nested u v hu0
      rw [← Z.out, HC.out, HP.out] at h1
      rw [← Z.out, HC.out, HP.out] at h2
      rw [← Z.out, HD.out, HR.out] at h3
      rw [← Z.out, HD.out, HR.out] at h4
      have hz0 : boxD u z = 0 := by rw [Z.out]; exact gap_in u v hu0
      have HZ := Lib.hid hz0
      have c130 := blk_cell b13 0 _ rfl
      have c131 := blk_cell b13 1 _ rfl
      have c132 := blk_cell b13 2 _ rfl
      have c133 := blk_cell b13 3 _ rfl
      have f11a := blk_cell b11 0 _ rfl
      have f11b := blk_cell b11 1 _ rfl
      have f12a := blk_cell b12 0 _ rfl
      have f12b := blk_cell b12 1 _ rfl
      clear w1' w2' T0 T1 T2 T3 hk' hz0
      go_wp2_with fail
      refine (bd_z (some ⟨g1, 0, none⟩) (some ⟨g3, 0, none⟩) k1 k3 u z _ nu' nz (prow_g o1) (prow_g o5) ru rz HZ).mono ?_; rintro e w9 ⟨rfl, hb⟩
      replace hB := belT hB hb
      clear hb
      go_wp2_with fail
      go_ret
      exact ⟨rfl, hB⟩

set_option maxRecDepth 100000 in
set_option maxHeartbeats 16000000 in
theorem walk_zero (ao : Option Addr) (lena capa : Nat) (l : List (Int × Int)) (bo : Option Addr) (lenb capb : Nat) (m : List (Int × Int)) (w : World) (hl : APts w ao lena l) (hm : APts w bo lenb m) (u v : List (Int × Int)) (HU : Hid (fitL l = u)) (HV : Hid (fitL m = v)) (hu0 : Hid (u.length = 0)) (nu : u.length ≤ 30) (nv : v.length ≤ 30) (ru : AllR u) (rv : AllR v) :
    Calls Try.prog 3 #[.slice ao lena capa, .slice bo lenb capb] w fun e w' => e = .returned (.bool true) ∧ Below w.heap.size w w' := by
  have PL := Lib.hid hl
  have PM := Lib.hid hm
  obtain ⟨i0, hi, hz0, hz1', hz2⟩ := info_parts infoP
  have hB : Below w.heap.size w w := Below.refl _ _
  clear hl hm
  go_enter Try.func3, Try.ntmps3
  go_wp2_with fail
  refine (head_any _).mono ?_; rintro e w1 ⟨rfl, hb⟩
  replace hB := belT hB hb
  clear hb
  go_wp2_with fail
  refine (fits_is ao lena capa l u _ (apts_below PL.out hB) HU).mono ?_; rintro e w2 ⟨⟨g1, k1, rfl, o1⟩, hb⟩
  replace hB := belT hB hb
  have s1 := hb.size
  clear hb
  go_wp2_with fail
  refine (fits_is bo lenb capb m v _ (apts_below PM.out hB) HV).mono ?_; rintro e w3 ⟨⟨g2, k2, rfl, o2⟩, hb⟩
  replace o1 := own_below o1 hb
  replace hB := belT hB hb
  have s2 := hb.size
  have hB0 := hB
  have Z1 : g1 < w3.heap.size := (o1.lt g1 rfl).2
  have Z2 : g2 < w3.heap.size := (o2.lt g2 rfl).2
  clear hb
  go_wp2_with (at_builtin; refine wpList_append_own _ rfl (.tmp 21) (.tmp 22) 22 rfl w3.heap.size 27 i0 (.agg #[.int .i64 0, .int .i64 0]) 2 16 Try.underlying22 hi hz0 hz1' hz2 rfl (by decide) _ _ _ rfl (World.ownsRow_lit w3 #[] 0 (Nat.le_refl _) (by decide) rfl) ⟨g1, 0, none⟩ u.length k1 (flat u) rfl (flat_len u) ((o1.alloc _).cells rfl) (flat_one u) (by unfold maxLen; omega) (by omega) (by simp) ?_)
  intro v1 w4 o3 hg hn
  replace o1 := (o1.alloc (.cells #[] 27)).kept hg (.inr (by show some g1 ≠ some w3.heap.size; intro h; have := (o1.lt g1 rfl).2; simp at h; omega))
  replace o2 := (o2.alloc (.cells #[] 27)).kept hg (.inr (by show some g2 ≠ some w3.heap.size; intro h; have := (o2.lt g2 rfl).2; simp at h; omega))
  have q1 := (o1.lt g1 rfl).1
  have s3 : w3.heap.size < w4.heap.size := by have := hg.size; simp at this; omega
  replace hB := (belA hB (.cells #[] 27)).grown hg (Nat.le_trans hB.size (by simp)) (fun k hk => le_of_own hB.size hk)
  clear hg
  try simp only [Nat.zero_add, List.nil_append] at o3
  have g1lt : g1 < w3.heap.size := Z1
  go_wp2_with (at_builtin; refine wpList_append_own _ rfl (.tmp 24) (.tmp 25) 22 rfl w3.heap.size 27 i0 (.agg #[.int .i64 0, .int .i64 0]) 2 16 Try.underlying22 hi hz0 hz1' hz2 rfl (by decide) _ _ _ rfl o3 ⟨g2, 0, none⟩ v.length k2 (flat v) rfl (flat_len v) (o2.cells rfl) (flat_one v) (by unfold maxLen; omega) (by omega) (by omega) ?_)
  intro v2 w5 o4 hg hn2
  have o1' := o1.kept hg (.inr (by intro h; have := (o3.lt g1 h.symm).1; omega))
  have o2' := o2.kept hg (.inr (by intro h; have := (o3.lt g2 h.symm).1; omega))
  have s0 := hB0.size
  replace hB := hB.grown hg hB.size (fun k hk => by have := (o3.lt k hk).1; omega)
  have HZ : Hid (boxD u v = 0) := Lib.hid (by unfold boxD; rw [if_pos (.inl hu0.out)])
  have n0 : ((u.length : Int) == 0) = true := by rw [beq_iff_eq]; have := hu0.out; omega
  clear hg o1 o2 o3 hn hn2 PL PM o4
  go_wp2_with fail
  refine (bd_z (some ⟨g1, 0, none⟩) (some ⟨g2, 0, none⟩) k1 k2 u v _ (by omega) (by omega) (prow_g o1') (prow_g o2') ru rv HZ).mono ?_; rintro e w9 ⟨rfl, hb⟩
  replace hB := belT hB hb
  clear hb
  go_wp2_with fail
  go_ret
  exact ⟨rfl, hB⟩

theorem walk {w : World} (ao : Option Addr) (lena capa : Nat) (l : List (Int × Int)) (hl : APts w ao lena l) (bo : Option Addr) (lenb capb : Nat) (m : List (Int × Int)) (hm : APts w bo lenb m) :
    Calls Try.prog 3 #[.slice ao lena capa, .slice bo lenb capb] w fun e w' => e = .returned (.bool true) ∧ Below w.heap.size w w' := by
  by_cases h : 0 < (fitL l).length
  · exact walk_some ao lena capa l bo lenb capb m w hl hm _ _ (Lib.hid rfl) (Lib.hid rfl) h (fitL_len l) (fitL_len m) (fitL_inr l) (fitL_inr m)
  · exact walk_zero ao lena capa l bo lenb capb m w hl hm _ _ (Lib.hid rfl) (Lib.hid rfl) (Lib.hid (by omega)) (fitL_len l) (fitL_len m) (fitL_inr l) (fitL_inr m)

set_option maxRecDepth 100000 in
theorem lifted (os : Os) (started : os.Started) (H : Type) (enc : TypeId × Value → H) :
    ReturnsInHanded {} Try.checked os 3 .any (Rows.geomBoxesSpec.pre6 enc Try.prog Try.f3 Rows.geomBoxesRow.domain false) (Rows.geomBoxesSpec.post enc Try.prog Try.f3 false true false false) := by
  refine returnsInHanded_of_change (C := Try.checked) own started (by kernel_rfl) Try.func3
    (ChangeSpec.witness6 (enc := enc) (C := Try.checked) false ⟨#[], #[.slice none 0 0, .slice none 0 0], []⟩ 8 (by kernel_rfl) (by kernel_rfl) (by kernel_rfl) (by kernel_rfl)) ?_
  intro W base args ds gs before hval0 hW hcnd _
  have hval : ∀ (j : Nat) t v, Try.f3.params[j]? = some t → args[j]? = some v → Value.okWide Try.prog W .any base t v := hval0
  have hW' := hW
  obtain ⟨p, q, hA0, hV, rfl, hfz, hnd⟩ := hW
  have hA : DataW.TrodAll enc Try.prog W 0 (fun _ => true) true Try.f3.params.toList args.toList ds p := hA0
  rw [Try.params3] at hA hval
  obtain ⟨v0, vs0, d0, ds0, p0, q0, hargs, rfl, rfl, h0, r0⟩ := trodAll_cons hA
  obtain ⟨v1, vs1, d1, ds1, p1, q1, rfl, rfl, rfl, h1, r1⟩ := trodAll_cons r0
  obtain ⟨rfl, rfl, rfl⟩ := trodAll_nil r1
  obtain rfl : args = #[v0, v1] := by cases args; simp_all
  obtain ⟨rfl, rfl⟩ := trodVars_none hV
  have k0 := h0
  have lt0 : ∀ x ∈ p0, x.block < W.heap.size := by obtain ⟨m, hm⟩ := k0; exact DataW.trod_lt m _ _ _ hm
  obtain ⟨a0, len0, cap0, l0, rfl, w0⟩ := open_pts (hval 0 22 v0 rfl rfl) h0
  have k1 := h1
  have lt1 : ∀ x ∈ p1, x.block < W.heap.size := by obtain ⟨m, hm⟩ := k1; exact DataW.trod_lt m _ _ _ hm
  obtain ⟨a1, len1, cap1, l1, rfl, w1⟩ := open_pts (hval 1 22 v1 rfl rfl) h1
  clear hA0 hval0
  refine (walk a0 len0 cap0 l0 w0 a1 len1 cap1 l1 w1).mono fun e W' ⟨he, bel⟩ => ?_
  subst he
  exact ⟨_, rfl, _, _, _, [], _, [], hW', trodAll_mk1 (shut_bool Try.underlying4 _), (trodAll_cons_mk (Below.trod laidOut (by kernel_rfl) (of_decide_eq_true (by kernel_rfl)) k0 bel lt0) (trodAll_cons_mk (Below.trod laidOut (by kernel_rfl) (of_decide_eq_true (by kernel_rfl)) k1 bel lt1) trodAll_mk0)), rfl, bel.frame _, fun h => by cases h⟩

/-- THE STATEMENT. -/
theorem holds : Rows.GeomBoxesSaid :=
  OpenClaim.holds_of_wide 3 Try.f3 rfl rfl rfl rfl rfl rfl rfl ⟨rfl, rfl, rfl, rfl, rfl⟩ rfl rfl rfl rfl rfl (by kernel_rfl) Try.func3 (by kernel_rfl)
    (of_decide_eq_true (by kernel_rfl)) (by unfold Func.isWrapper; first | (rw [if_pos (by decide +kernel)]; kernel_rfl) | (rw [if_neg (by decide +kernel)]; exact ⟨rfl, rfl⟩))
    (fun os started H enc _ => lifted os started H enc)
#print axioms holds
end Go.Proofs.Ythmcejeeohlafaa.geomBoxes
