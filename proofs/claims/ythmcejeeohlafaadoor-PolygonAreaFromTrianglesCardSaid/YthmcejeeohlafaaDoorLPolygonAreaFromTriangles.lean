/- Proved: the signed areas of the triangles of a reference point and each edge add up to DoubleArea (the law PolygonAreaFromTriangles returns true).
Conditions: none on the arguments: for every polygon and every point. The table of package rotation lies as the program text lays it (the card ties it). -/
import Derived.Test.YthmcejeeohlafaaDoorPolK
import Derived.Test.YthmcejeeohlafaaDoorPolRegM
import Derived.Test.YthmcejeeohlafaaDoorPolFr
import Derived.Test.YthmcejeeohlafaaDoorTie
import Derived.Test.YthmcejeeohlafaaDoorCards
import Derived.SevenTiedAt
namespace Go.Proofs.YthmcejeeohlafaaDoor.polygonAreaFromTriangles
open Go.ChangeShapes Go.WideShapes Go.ChangeAt Go.RowKit
set_option linter.unusedVariables false
set_option linter.unusedSimpArgs false

def hlf (ps : List (Int × Int)) : List (Int × Int) := ps.map fun p => (p.1.tdiv 2, p.2.tdiv 2)
theorem hlf_len (ps : List (Int × Int)) : (hlf ps).length = ps.length := by simp [hlf]
theorem hlf_at (ps : List (Int × Int)) {i : Nat} (hi : i < ps.length) : cx (hlf ps) i = (cx ps i).tdiv 2 ∧ cy (hlf ps) i = (cy ps i).tdiv 2 := by
  unfold cx cy hlf
  rw [List.getD_eq_getElem?_getD, List.getD_eq_getElem?_getD, List.getElem?_map, List.getElem?_eq_getElem hi]
  exact ⟨rfl, rfl⟩
def InH (x : Int) : Prop := -219700000 ≤ x ∧ x ≤ 219700000
theorem half_inh {x : Int} (h : InV x) : InH (x.tdiv 2) := by
  unfold InV at h
  unfold InH
  obtain ⟨h1, h2⟩ := h
  rcases Int.le_total 0 x with h | h
  · rw [Int.tdiv_eq_ediv_of_nonneg h]; omega
  · obtain ⟨y, rfl⟩ : ∃ y, x = -y := ⟨-x, by omega⟩
    rw [Int.neg_tdiv, Int.tdiv_eq_ediv_of_nonneg (by omega)]; omega
theorem InH.inv {x : Int} (h : InH x) : InV x := by unfold InH at h; unfold InV; omega
/-- The signed area of the triangle. -/
def tri (o p a b c d : Int) : Int := (o * b - p * a) + (a * d - b * c) + (c * p - d * o)
theorem tri_is (o p a b c d : Int) : area2 [(o, p), (a, b), (c, d)] = tri o p a b c d := by
  simp [area2, sumE, crossE, cx, cy, nx, List.range_succ, tri]
  omega
theorem tri_bd {o p a b c d : Int} (h1 : InH o) (h2 : InH p) (h3 : InH a) (h4 : InH b) (h5 : InH c) (h6 : InH d) : -300000000000000000 ≤ tri o p a b c d ∧ tri o p a b c d ≤ 300000000000000000 := by
  unfold InH at *
  have m1 := mul_bd (x := o) (c := b) h1 h4
  have m2 := mul_bd (x := p) (c := a) h2 h3
  have m3 := mul_bd (x := a) (c := d) h3 h6
  have m4 := mul_bd (x := b) (c := c) h4 h5
  have m5 := mul_bd (x := c) (c := p) h5 h2
  have m6 := mul_bd (x := d) (c := o) h6 h1
  unfold tri
  omega
def triE (us : List (Int × Int)) (o p : Int) (i : Nat) : Int := tri o p (cx us i) (cy us i) (cx us (nx us.length i)) (cy us (nx us.length i))
def spokes (us : List (Int × Int)) (o p : Int) (i : Nat) : Int := o * cy us i - p * cx us i
theorem triE_split (us : List (Int × Int)) (o p : Int) (i : Nat) : triE us o p i = crossE us i + (spokes us o p i - spokes us o p (nx us.length i)) := by
  unfold triE tri crossE spokes
  rw [Int.mul_comm (cx us (nx us.length i)) p, Int.mul_comm (cy us (nx us.length i)) o]
  omega
theorem sum_tel (us : List (Int × Int)) (o p : Int) : ∀ k, k < us.length → sumE (triE us o p) (List.range k) = sumE (crossE us) (List.range k) + (spokes us o p 0 - spokes us o p k)
  | 0, _ => by simp [sumE]
  | k + 1, h => by
    rw [List.range_succ, sumE_snoc, sumE_snoc, sum_tel us o p k (by omega), triE_split]
    rw [show nx us.length k = k + 1 from Nat.mod_eq_of_lt h]
    omega
theorem sum_all (us : List (Int × Int)) (o p : Int) (h : 0 < us.length) : sumE (triE us o p) (List.range us.length) = area2 us := by
  obtain ⟨k, hk⟩ : ∃ k, us.length = k + 1 := ⟨us.length - 1, by omega⟩
  unfold area2
  rw [hk, List.range_succ, sumE_snoc, sumE_snoc, sum_tel us o p k (by omega), triE_split]
  rw [show nx us.length k = 0 from by unfold nx; rw [hk]; simp]
  omega
theorem triE_bd {us : List (Int × Int)} {o p : Int} (hu : ∀ i, i < us.length → InH (cx us i) ∧ InH (cy us i)) (ho : InH o) (hp : InH p) {i : Nat} (hi : i < us.length) : -300000000000000000 ≤ triE us o p i ∧ triE us o p i ≤ 300000000000000000 := by
  obtain ⟨a, b⟩ := hu i hi
  obtain ⟨c, d⟩ := hu _ (nx_lt (n := us.length) (i := i) (by omega))
  exact tri_bd ho hp a b c d
theorem sumT_bd {us : List (Int × Int)} {o p : Int} (hu : ∀ i, i < us.length → InH (cx us i) ∧ InH (cy us i)) (ho : InH o) (hp : InH p) : ∀ k, k ≤ us.length → -(300000000000000000 * (k : Int)) ≤ sumE (triE us o p) (List.range k) ∧ sumE (triE us o p) (List.range k) ≤ 300000000000000000 * (k : Int)
  | 0, _ => by simp [sumE]
  | k + 1, h => by
    have h1 := triE_bd hu ho hp (i := k) (by omega)
    have h2 := sumT_bd hu ho hp k (by omega)
    rw [List.range_succ, sumE_snoc]
    omega
theorem area_is (g n c : Nat) (l : List (Int × Int)) (v : Int) (w : World) (hn : l.length = n) (hv : Hid (area2 l = v)) (h0 : 0 < l.length) (h12 : l.length ≤ 12) (hP : PRow w (some ⟨g, 0, none⟩) l) (ha : AllV l) :
    Calls Tryd.prog 15 #[.slice (some ⟨g, 0, none⟩) n c] w fun e w' => e = .returned (.int .i64 v) ∧ Below w.heap.size w w' := by
  subst hn
  have := area_any _ c l w h0 h12 hP ha
  rw [hv.out] at this
  exact this
theorem prow_grown {w w' : World} {b o O : Nat} {ps : List (Int × Int)} {row : Option Nat} (h : PRow w (some ⟨b, o, none⟩) ps) (hg : w.grownBy w' row) (hb : ∀ b' o', some (⟨b, o, none⟩ : Addr) = some ⟨b', o', none⟩ → b' < O) (hr : ∀ g, row = some g → O + 1 ≤ g) : PRow w' (some ⟨b, o, none⟩) ps := fun i hi => by
  obtain ⟨b1, o1, e, c1, c2⟩ := h i hi
  have hlt := World.block_lt_of_cell? w _ c1
  have hbo := hb b1 o1 e
  have hne : some b1 ≠ row := fun e' => by have := hr b1 e'.symm; omega
  exact ⟨b1, o1, e, (World.cell?_of_block (a := ⟨b1, o1 + i * 2, none⟩) (hg.block b1 hlt hne)).trans c1, (World.cell?_of_block (a := ⟨b1, o1 + i * 2 + 1, none⟩) (hg.block b1 hlt hne)).trans c2⟩
theorem allv3 {o p a b c d : Int} (h1 : InH o) (h2 : InH p) (h3 : InH a) (h4 : InH b) (h5 : InH c) (h6 : InH d) : AllV [(o, p), (a, b), (c, d)] := fun i hi => by
  have : i = 0 ∨ i = 1 ∨ i = 2 := by simp at hi; omega
  rcases this with rfl | rfl | rfl
  · exact ⟨h1.inv, h2.inv⟩
  · exact ⟨h3.inv, h4.inv⟩
  · exact ⟨h5.inv, h6.inv⟩


set_option maxRecDepth 100000 in
set_option maxHeartbeats 16000000 in
theorem walk_main {w : World} (ao : Option Addr) (cap : Nat) (ps : List (Int × Int)) (hle : ps.length ≤ 9223372036854775807) (hP : PRow w ao ps) (x y : Int) (hT : Rot.Tab w) (h3 : 3 ≤ ps.length) (h12 : ps.length ≤ 12) (hv : AllV ps) (ix : InV x) (iy : InV y) :
    Calls Tryd.prog 4 #[.slice ao ps.length cap, .agg #[.int .i64 x, .int .i64 y]] w fun e w' => e = .returned (.bool true) ∧ Below w.heap.size w w' := by
  have hB : Below w.heap.size w w := Below.refl _ _
  have HF : Hid (fitsB ps = true) := Lib.hid ((fitsB_iff ps).2 ⟨h12, hv⟩)
  have HM : Hid (mayB x y = true) := Lib.hid ((mayB_iff x y).2 ⟨ix, iy⟩)
  have h3i : 3 ≤ (ps.length : Int) := by omega
  have jx := half_inh ix
  have jy := half_inh iy
  obtain ⟨us, hus⟩ : ∃ us, hlf ps = us := ⟨_, rfl⟩
  have hul : us.length = ps.length := by rw [← hus]; exact hlf_len ps
  have huh : ∀ i, i < us.length → InH (cx us i) ∧ InH (cy us i) := fun i hi => by
    rw [hul] at hi
    rw [← hus, (hlf_at ps hi).1, (hlf_at ps hi).2]
    exact ⟨half_inh (hv i hi).1, half_inh (hv i hi).2⟩
  have HU := Lib.hid (fun i (hi : i < ps.length) => (by rw [← hus]; exact hlf_at ps hi : cx us i = (cx ps i).tdiv 2 ∧ cy us i = (cy ps i).tdiv 2))
  have HUL := Lib.hid hul
  have hvr := hv.allr2
  have ixr := ix.inr
  have iyr := iy.inr
  clear hus hul
  obtain ⟨i0, hi, hz0, hz1', hz2⟩ := info_parts infoP
  go_enter Tryd.func4, Tryd.ntmps4
  go_wp2_with fail
  refine (head_any _ (hT.alloc _)).mono ?_; rintro e w1 ⟨rfl, hb⟩
  have hX := blk_call (blk_new w (.cells #[.int .i64 x, .int .i64 y] 25) _ rfl) hb
  replace hB := belT (belA hB _) hb
  replace hP := prow_below (prow_alloc hP _) hb
  clear hb hT
  go_wp2_with fail
  refine (fits_is ao _ cap ps true _ rfl HF hle hP).mono ?_; rintro e w2 ⟨rfl, hb⟩
  replace hX := blk_call hX hb
  replace hB := belT hB hb
  replace hP := prow_below hP hb
  clear hb
  have x0 := blk_cell hX 0 _ rfl
  have x1 := blk_cell hX 1 _ rfl
  go_wp2_with fail
  refine (may_any x y true _ HM).mono ?_; rintro e w3 ⟨rfl, hb⟩
  replace hX := blk_call hX hb
  replace hB := belT hB hb
  replace hP := prow_below hP hb
  clear hb x0 x1
  have x0 := blk_cell hX 0 _ rfl
  have x1 := blk_cell hX 1 _ rfl
  go_wp2_with fail
  refine (half_is x y _ ixr iyr).mono ?_; rintro e w4 ⟨rfl, hb⟩
  replace hB := belT hB hb
  replace hP := prow_below hP hb
  clear hb x0 x1 hX
  generalize x.tdiv 2 = hx at *
  generalize y.tdiv 2 = hy at *
  have hs4 := hB.size
  have hPb : ∀ b o, ao = some ⟨b, o, none⟩ → b < w4.heap.size := fun b o e => by
    obtain ⟨b', o', e', c, _⟩ := hP 0 (by omega)
    rw [e] at e'
    obtain ⟨rfl, rfl⟩ : b = b' ∧ o = o' := by simpa using e'
    exact World.block_lt_of_cell? w4 _ c
  go_wp2_with fail
  have hO : ((w4.alloc (.cells #[.int .i64 hx, .int .i64 hy] 25)).alloc (.cells #[] 25)).heap[w4.heap.size]? = some (.cells #[.int .i64 hx, .int .i64 hy] 25 (0, 0)) := blk_alloc (blk_new _ _ _ rfl) _
  have hO1 : (w4.alloc (.cells #[.int .i64 hx, .int .i64 hy] 25)).heap.size = w4.heap.size + 1 := by simp
  have hown0 : ((w4.alloc (.cells #[.int .i64 hx, .int .i64 hy] 25)).alloc (.cells #[] 25)).ownsRow (w4.heap.size + 1) 25 2 (.slice (some ⟨w4.heap.size + 1, 0, none⟩) 0 0) 0 (flat (us.take 0)) := by
    have := World.ownsRow_lit (base := w4.heap.size + 1) (e := 25) (size := 2) (w4.alloc (.cells #[.int .i64 hx, .int .i64 hy] 25)) #[] 0 (by rw [hO1]; exact Nat.le_refl _) (by decide) rfl
    rw [hO1] at this
    exact this
  replace hB := belA (belA hB (.cells #[.int .i64 hx, .int .i64 hy] 25)) (.cells #[] 25)
  replace hP := prow_alloc (prow_alloc hP (.cells #[.int .i64 hx, .int .i64 hy] 25)) (.cells #[] 25)
  have hs5 : w4.heap.size + 1 < ((w4.alloc (.cells #[.int .i64 hx, .int .i64 hy] 25)).alloc (.cells #[] 25)).heap.size := by simp
  clear hO1
  generalize (w4.alloc (.cells #[.int .i64 hx, .int .i64 hy] 25)).alloc (.cells #[] 25) = w5 at *
  generalize hOO : w4.heap.size = O at *
  have hPO : Hid (∀ b o, ao = some ⟨b, o, none⟩ → b < O) := Lib.hid hPb
  clear hPb
  go_loopw [7, 8] (fun v i wr => ∃ k : Nat, k ≤ ps.length ∧ i = .int .i64 k ∧ wr.ownsRow (O + 1) 25 2 v k (flat (us.take k)) ∧ Below w.heap.size w wr ∧ PRow wr ao ps ∧ wr.heap[O]? = some (.cells #[.int .i64 hx, .int .i64 hy] 25 (0, 0)) ∧ O + 1 < wr.heap.size) (fun _ i _ => ps.length - (intOf i).toNat)
  case atStart => exact ⟨0, Nat.zero_le _, rfl, hown0, hB, hP, hO, hs5⟩
  case round =>
    clear hB hP hO hs5 hown0
    obtain ⟨k, hk, rfl, hown, hB, hP, hO, hs5⟩ := hrel
    by_cases hlt : k < ps.length
    · obtain ⟨b, o, rfl, d1, d2⟩ := prow_at hP hlt
      obtain ⟨e1, e2⟩ := HU.out k hlt
      have E : Hid (flat (us.take (k + 1)) = flat (us.take k) ++ [.int .i64 ((cx ps k).tdiv 2), .int .i64 ((cy ps k).tdiv 2)]) := Lib.hid (by rw [flat_take us k (by rw [HUL.out]; exact hlt), e1, e2])
      have hki : (k : Int) < ps.length := by omega
      obtain ⟨v1, v2⟩ := hvr k hlt
      clear e1 e2
      generalize cx ps k = a at *
      generalize cy ps k = b' at *
      go_wp2_with fail
      refine (half_is a b' _ v1 v2).mono ?_; rintro e w6 ⟨rfl, hb⟩
      replace hown := own_below hown hb
      replace hB := belT hB hb
      replace hP := prow_below hP hb
      replace hO := blk_call hO hb
      have hz6 := hb.size
      generalize a.tdiv 2 = A at *
      generalize b'.tdiv 2 = B at *
      clear d1 d2 hb
      have hBs := hB.size
      go_wp2_with (at_builtin; refine wpList_append_own _ rfl (.tmp 35) (.tmp 41) 23 rfl (O + 1) 25 i0 (.agg #[.int .i64 0, .int .i64 0]) 2 16 Tryd.underlying23 hi hz0 hz1' hz2 rfl (by decide) _ _ _ rfl (hown.alloc _) ⟨w6.heap.size, 0, none⟩ 1 1 [.int .i64 A, .int .i64 B] rfl rfl ?c1 ?c2 ?c3 ?c4 ?c5 ?_)
      case c1 =>
        intro j u hj
        match j, hj with
        | 0, hj => simp at hj; subst hj; exact cbx' _ _ _ _ 0 _ rfl rfl
        | 1, hj => simp at hj; subst hj; exact cbx' _ _ _ _ 1 _ rfl rfl
      case c2 => intro u hu; simp at hu; rcases hu with rfl | rfl <;> rfl
      case c3 => unfold maxLen; omega
      case c4 => omega
      case c5 => simp; omega
      · intro v' w7 hown' hgrow _
        have hlo := fun g hg => (hown.lt g hg).1
        have hnb : w.heap.size ≤ O + 1 := by omega
        have hB2 : Below w.heap.size w w7 := (belA hB _).grown hgrow (by simp; omega) (fun g hg => Nat.le_trans hnb (hlo g hg))
        have hP7 : PRow w7 (some ⟨b, o, none⟩) ps := prow_grown (prow_alloc hP _) hgrow hPO.out hlo
        have hO7 : w7.heap[O]? = some (.cells #[.int .i64 hx, .int .i64 hy] 25 (0, 0)) := (hgrow.block O (by simp; omega) (fun h => by have := hlo O h.symm; omega)).trans (blk_alloc hO _)
        have hs7 : O + 1 < w7.heap.size := by have := hgrow.size; simp at this; omega
        rw [← E.out] at hown'
        clear hgrow hown hB hP hO hlo
        go_wp2
        go_roundw
        case rel => exact ⟨k + 1, by omega, by go_num, hown', hB2, hP7, hO7, hs7⟩
        case measure => simp [intOf]; omega
    · have e : k = us.length := by rw [HUL.out]; omega
      subst e
      rw [List.take_length] at hown
      obtain ⟨g, cs, rfl, hS⟩ := prow_own1 (by rw [HUL.out]; omega) hown
      clear hown hP
      have hS' := Lib.hid hS
      go_wp2_with fail
      go_loopw [9, 10] (fun s i wr => ∃ k : Nat, k ≤ us.length ∧ i = .int .i64 k ∧ s = .int .i64 (sumE (triE us hx hy) (List.range k)) ∧ Below w.heap.size w wr ∧ PRow wr (some ⟨g, 0, none⟩) us ∧ wr.heap[O]? = some (.cells #[.int .i64 hx, .int .i64 hy] 25 (0, 0))) (fun _ i _ => us.length - (intOf i).toNat)
      case atStart => exact ⟨0, Nat.zero_le _, rfl, rfl, hB, hS, hO⟩
      case round =>
        clear hB hS hO hS'
        obtain ⟨k, hk, rfl, rfl, hB, hS, hO⟩ := hrel
        by_cases hlk : k < us.length
        · have hsb := sumT_bd huh jx jy k hk
          have htb := triE_bd huh jx jy hlk
          have hsn : sumE (triE us hx hy) (List.range (k + 1)) = sumE (triE us hx hy) (List.range k) + triE us hx hy k := by rw [List.range_succ, sumE_snoc]
          obtain ⟨fk0, fk1⟩ := prow_c hS k hlk _ _ rfl rfl
          obtain ⟨j, hj⟩ : ∃ j, nx us.length k = j := ⟨_, rfl⟩
          have hjl : j < us.length := by rw [← hj]; exact nx_lt (by omega)
          obtain ⟨fj0, fj1⟩ := prow_c hS j hjl _ _ rfl rfl
          obtain ⟨i1, i2⟩ := huh k hlk
          obtain ⟨i3, i4⟩ := huh j hjl
          have ht : triE us hx hy k = area2 [(hx, hy), (cx us k, cy us k), (cx us j, cy us j)] := by rw [tri_is]; unfold triE; rw [hj]
          change wr.cell? _ = some (.int .i64 (cx us k)) at fk0
          change wr.cell? _ = some (.int .i64 (cy us k)) at fk1
          change wr.cell? _ = some (.int .i64 (cx us j)) at fj0
          change wr.cell? _ = some (.int .i64 (cy us j)) at fj1
          have hul12 : us.length ≤ 12 := by rw [HUL.out]; exact h12
          generalize sumE (triE us hx hy) (List.range k) = S at *
          generalize triE us hx hy k = t at *
          generalize cx us k = a1 at *
          generalize cy us k = a2 at *
          generalize cx us j = e1 at *
          generalize cy us j = e2 at *
          have HT : Hid (area2 [(hx, hy), (a1, a2), (e1, e2)] = t) := Lib.hid ht.symm
          have HSN := Lib.hid hsn
          have hw1 : IntKind.i64.wrap ((k : Int) + 1) = (k : Int) + 1 := wrap_k _ (by omega)
          have hw2 : IntKind.i64.wrap (S + t) = S + t := by rw [IntKind.wrap_i64]; omega
          have htm : ((k : Int) + 1).tmod (us.length : Int) = (j : Int) := by
            rw [← hj, Int.tmod_eq_emod_of_nonneg (by omega)]; unfold nx; simp
          have hn0 : (us.length : Int) ≠ 0 := by omega
          have hne : ¬ us = [] := fun e => by rw [e] at hjl; simp at hjl
          have hki : (k : Int) < us.length := by omega
          have hji : (j : Int) < us.length := by omega
          have fo0 := blk_cell hO 0 _ rfl
          have fo1 := blk_cell hO 1 _ rfl
          have HBB := Lib.hid hB
          have HSS := Lib.hid hS
          have HOO := Lib.hid hO
          clear ht hsn hj hsb htb hB hS hO
          go_upto_region 14 with fail
          obtain ⟨sp, hsp⟩ : ∃ sp : Told, sp = [none, none, none, none, none, none, none, none, none, none, none, none, none, none, none, none, none, none, none, none, none, none, none, none, none, none, none, none, none, none, none, none, none, none, none, none, none, none, none, none, none, none, none, none, none, none, none, none, none, some (.inl (.int .i64 S)), some (.inl (.agg #[.int .i64 hx, .int .i64 hy])), some (.inl (.slice (some ⟨g, 0, none⟩) us.length cs)), some (.inl (.int .i64 (k : Int))), some (.inl (.pointer (some ⟨g, k * 2, none⟩))), some (.inl (.agg #[.int .i64 a1, .int .i64 a2])), some (.inl (.slice (some ⟨g, 0, none⟩) us.length cs)), some (.inl (.int .i64 (k : Int))), some (.inl (.int .i64 ((k : Int) + 1))), some (.inl (.slice (some ⟨g, 0, none⟩) us.length cs)), some (.inl (.int .i64 (us.length : Int))), some (.inl (.int .i64 (j : Int))), some (.inl (.pointer (some ⟨g, j * 2, none⟩))), some (.inl (.agg #[.int .i64 e1, .int .i64 e2])), some (.inr [(hx, hy), (a1, a2), (e1, e2)]), some (.inl (.int .i64 t)), some (.inl (.int .i64 (S + t)))] := ⟨_, rfl⟩
          have s49 : sp.getD 49 none = some (.inl (.int .i64 S)) := by rw [hsp]; rfl
          have s50 : sp.getD 50 none = some (.inl (.agg #[.int .i64 hx, .int .i64 hy])) := by rw [hsp]; rfl
          have s51 : sp.getD 51 none = some (.inl (.slice (some ⟨g, 0, none⟩) us.length cs)) := by rw [hsp]; rfl
          have s52 : sp.getD 52 none = some (.inl (.int .i64 (k : Int))) := by rw [hsp]; rfl
          have s53 : sp.getD 53 none = some (.inl (.pointer (some ⟨g, k * 2, none⟩))) := by rw [hsp]; rfl
          have s54 : sp.getD 54 none = some (.inl (.agg #[.int .i64 a1, .int .i64 a2])) := by rw [hsp]; rfl
          have s55 : sp.getD 55 none = some (.inl (.slice (some ⟨g, 0, none⟩) us.length cs)) := by rw [hsp]; rfl
          have s56 : sp.getD 56 none = some (.inl (.int .i64 (k : Int))) := by rw [hsp]; rfl
          have s57 : sp.getD 57 none = some (.inl (.int .i64 ((k : Int) + 1))) := by rw [hsp]; rfl
          have s58 : sp.getD 58 none = some (.inl (.slice (some ⟨g, 0, none⟩) us.length cs)) := by rw [hsp]; rfl
          have s59 : sp.getD 59 none = some (.inl (.int .i64 (us.length : Int))) := by rw [hsp]; rfl
          have s60 : sp.getD 60 none = some (.inl (.int .i64 (j : Int))) := by rw [hsp]; rfl
          have s61 : sp.getD 61 none = some (.inl (.pointer (some ⟨g, j * 2, none⟩))) := by rw [hsp]; rfl
          have s62 : sp.getD 62 none = some (.inl (.agg #[.int .i64 e1, .int .i64 e2])) := by rw [hsp]; rfl
          have s63 : sp.getD 63 none = some (.inr [(hx, hy), (a1, a2), (e1, e2)]) := by rw [hsp]; rfl
          have s64 : sp.getD 64 none = some (.inl (.int .i64 t)) := by rw [hsp]; rfl
          have s65 : sp.getD 65 none = some (.inl (.int .i64 (S + t))) := by rw [hsp]; rfl
          clear hsp
          refine (wpIn_wide (n := 0)).1 (region_headM sp 17 rfl rfl rfl (by kernel_rfl) (by decide) (by kernel_rfl) (by kernel_rfl) (by kernel_rfl) ?_ ?_)
          · intro Q'; show ObsM _ _ _ _ _ _ _ _ (List.take _ _); simp only [List.take_succ_cons, List.take_zero]
            refine obsM_cons ?_ ?_
            · intro T wx K hB hF hD hK
              have g9 : T[9]? = some (.int .i64 S) := hF 9 (freeM_of (by kernel_rfl))
              refine ob_yes (wanted_none rfl) ?_
              clear hF hD
              go_simp
              exact hK _ _ (Below.refl _ _) (rt_eq s49)
            refine obsM_cons ?_ ?_
            · intro T wx K hB hF hD hK
              have g6 : T[6]? = some (.pointer (some ⟨O, 0, none⟩)) := hF 6 (freeM_of (by kernel_rfl))
              refine ob_yes (wanted_none rfl) ?_
              clear hF hD
              have c0 := cell_call fo0 hB
              have c1 := cell_call fo1 hB
              go_simp
              exact hK _ _ (Below.refl _ _) (rt_eq s50)
            refine obsM_cons ?_ ?_
            · intro T wx K hB hF hD hK
              have g7 : T[7]? = some (.slice (some ⟨g, 0, none⟩) us.length cs) := hF 7 (freeM_of (by kernel_rfl))
              refine ob_yes (wanted_none rfl) ?_
              clear hF hD
              go_simp
              exact hK _ _ (Below.refl _ _) (rt_eq s51)
            refine obsM_cons ?_ ?_
            · intro T wx K hB hF hD hK
              have g10 : T[10]? = some (.int .i64 (k : Int)) := hF 10 (freeM_of (by kernel_rfl))
              refine ob_yes (wanted_none rfl) ?_
              clear hF hD
              go_simp
              exact hK _ _ (Below.refl _ _) (rt_eq s52)
            refine obsM_cons ?_ ?_
            · intro T wx K hB hF hD hK
              have g51 := get_eq (hD 2 51 (by simp [Region.binds]) (by kernel_rfl)) s51
              have g52 := get_eq (hD 3 52 (by simp [Region.binds]) (by kernel_rfl)) s52
              refine ob_yes (wanted_none rfl) ?_
              clear hF hD
              go_simp
              exact hK _ _ (Below.refl _ _) (rt_eq s53)
            refine obsM_cons ?_ ?_
            · intro T wx K hB hF hD hK
              have g53 := get_eq (hD 4 53 (by simp [Region.binds]) (by kernel_rfl)) s53
              refine ob_yes (wanted_none rfl) ?_
              clear hF hD
              have c0 := cell_call fk0 hB
              have c1 := cell_call fk1 hB
              go_simp
              exact hK _ _ (Below.refl _ _) (rt_eq s54)
            refine obsM_cons ?_ ?_
            · intro T wx K hB hF hD hK
              have g7 : T[7]? = some (.slice (some ⟨g, 0, none⟩) us.length cs) := hF 7 (freeM_of (by kernel_rfl))
              refine ob_yes (wanted_none rfl) ?_
              clear hF hD
              go_simp
              exact hK _ _ (Below.refl _ _) (rt_eq s55)
            refine obsM_cons ?_ ?_
            · intro T wx K hB hF hD hK
              have g10 : T[10]? = some (.int .i64 (k : Int)) := hF 10 (freeM_of (by kernel_rfl))
              refine ob_yes (wanted_none rfl) ?_
              clear hF hD
              go_simp
              exact hK _ _ (Below.refl _ _) (rt_eq s56)
            refine obsM_cons ?_ ?_
            · intro T wx K hB hF hD hK
              have g56 := get_eq (hD 7 56 (by simp [Region.binds]) (by kernel_rfl)) s56
              refine ob_yes (wanted_none rfl) ?_
              clear hF hD
              go_simp
              exact hK _ _ (Below.refl _ _) (rt_eq s57)
            refine obsM_cons ?_ ?_
            · intro T wx K hB hF hD hK
              have g7 : T[7]? = some (.slice (some ⟨g, 0, none⟩) us.length cs) := hF 7 (freeM_of (by kernel_rfl))
              refine ob_yes (wanted_none rfl) ?_
              clear hF hD
              go_simp
              exact hK _ _ (Below.refl _ _) (rt_eq s58)
            refine obsM_cons ?_ ?_
            · intro T wx K hB hF hD hK
              have g58 := get_eq (hD 9 58 (by simp [Region.binds]) (by kernel_rfl)) s58
              refine ob_yes (wanted_none rfl) ?_
              clear hF hD
              go_simp
              exact hK _ _ (Below.refl _ _) (rt_eq s59)
            refine obsM_cons ?_ ?_
            · intro T wx K hB hF hD hK
              have g57 := get_eq (hD 8 57 (by simp [Region.binds]) (by kernel_rfl)) s57
              have g59 := get_eq (hD 10 59 (by simp [Region.binds]) (by kernel_rfl)) s59
              refine ob_yes (wanted_none rfl) ?_
              clear hF hD
              go_simp
              exact hK _ _ (Below.refl _ _) (rt_eq s60)
            refine obsM_cons ?_ ?_
            · intro T wx K hB hF hD hK
              have g55 := get_eq (hD 6 55 (by simp [Region.binds]) (by kernel_rfl)) s55
              have g60 := get_eq (hD 11 60 (by simp [Region.binds]) (by kernel_rfl)) s60
              refine ob_yes (wanted_none rfl) ?_
              clear hF hD
              go_simp
              exact hK _ _ (Below.refl _ _) (rt_eq s61)
            refine obsM_cons ?_ ?_
            · intro T wx K hB hF hD hK
              have g61 := get_eq (hD 12 61 (by simp [Region.binds]) (by kernel_rfl)) s61
              refine ob_yes (wanted_none rfl) ?_
              clear hF hD
              have c0 := cell_call fj0 hB
              have c1 := cell_call fj1 hB
              go_simp
              exact hK _ _ (Below.refl _ _) (rt_eq s62)
            refine obsM_cons ?_ ?_
            · intro T wx K hB hF hD hK
              have g50 := get_eq (hD 1 50 (by simp [Region.binds]) (by kernel_rfl)) s50
              have g54 := get_eq (hD 5 54 (by simp [Region.binds]) (by kernel_rfl)) s54
              have g62 := get_eq (hD 13 62 (by simp [Region.binds]) (by kernel_rfl)) s62
              refine ob_yes (wanted_none rfl) ?_
              clear hF hD
              go_simp
              exact hK _ _ (belA (Below.refl _ _) _) (rt_row s63 rfl (prow_new _ _ _ _ rfl rfl))
            refine obsM_cons ?_ ?_
            · intro T wx K hB hF hD hK
              obtain ⟨b63, c63, g63, p63⟩ := get_row (hD 14 63 (by simp [Region.binds]) (by kernel_rfl)) s63
              refine ob_yes (wanted_none rfl) ?_
              clear hF hD
              go_simp
              refine (area_is b63 3 c63 [(hx, hy), (a1, a2), (e1, e2)] t _ rfl HT (by simp) (by simp) p63 (allv3 jx jy i1 i2 i3 i4)).mono ?_; rintro e w9 ⟨rfl, hb⟩
              exact hK _ _ hb (rt_eq s64)
            refine obsM_cons ?_ ?_
            · intro T wx K hB hF hD hK
              have g49 := get_eq (hD 0 49 (by simp [Region.binds]) (by kernel_rfl)) s49
              have g64 := get_eq (hD 15 64 (by simp [Region.binds]) (by kernel_rfl)) s64
              refine ob_yes (wanted_none rfl) ?_
              clear hF hD
              go_simp
              exact hK _ _ (Below.refl _ _) (rt_eq s65)
            exact obsM_nil
          · intro T w8 hb hF hs hD
            have g49 := get_eq (hD 0 49 (by decide) (by kernel_rfl)) s49
            have g50 := get_eq (hD 1 50 (by decide) (by kernel_rfl)) s50
            have g51 := get_eq (hD 2 51 (by decide) (by kernel_rfl)) s51
            have g52 := get_eq (hD 3 52 (by decide) (by kernel_rfl)) s52
            have g53 := get_eq (hD 4 53 (by decide) (by kernel_rfl)) s53
            have g54 := get_eq (hD 5 54 (by decide) (by kernel_rfl)) s54
            have g55 := get_eq (hD 6 55 (by decide) (by kernel_rfl)) s55
            have g56 := get_eq (hD 7 56 (by decide) (by kernel_rfl)) s56
            have g57 := get_eq (hD 8 57 (by decide) (by kernel_rfl)) s57
            have g58 := get_eq (hD 9 58 (by decide) (by kernel_rfl)) s58
            have g59 := get_eq (hD 10 59 (by decide) (by kernel_rfl)) s59
            have g60 := get_eq (hD 11 60 (by decide) (by kernel_rfl)) s60
            have g61 := get_eq (hD 12 61 (by decide) (by kernel_rfl)) s61
            have g62 := get_eq (hD 13 62 (by decide) (by kernel_rfl)) s62
            obtain ⟨b63, c63, g63, p63⟩ := get_row (hD 14 63 (by decide) (by kernel_rfl)) s63
            have g64 := get_eq (hD 15 64 (by decide) (by kernel_rfl)) s64
            have g65 := get_eq (hD 16 65 (by decide) (by kernel_rfl)) s65
            have g0 := hF 0 (freeM_of (by kernel_rfl))
            have g1 := hF 1 (freeM_of (by kernel_rfl))
            have g2 := hF 2 (freeM_of (by kernel_rfl))
            have g3 := hF 3 (freeM_of (by kernel_rfl))
            have g4 := hF 4 (freeM_of (by kernel_rfl))
            have g5 := hF 5 (freeM_of (by kernel_rfl))
            have g6 := hF 6 (freeM_of (by kernel_rfl))
            have g7 := hF 7 (freeM_of (by kernel_rfl))
            have g8 := hF 8 (freeM_of (by kernel_rfl))
            have g9 := hF 9 (freeM_of (by kernel_rfl))
            have g10 := hF 10 (freeM_of (by kernel_rfl))
            have g11 := hF 11 (freeM_of (by kernel_rfl))
            have g12 := hF 12 (freeM_of (by kernel_rfl))
            have g13 := hF 13 (freeM_of (by kernel_rfl))
            have g14 := hF 14 (freeM_of (by kernel_rfl))
            have g15 := hF 15 (freeM_of (by kernel_rfl))
            have g16 := hF 16 (freeM_of (by kernel_rfl))
            have g17 := hF 17 (freeM_of (by kernel_rfl))
            have g18 := hF 18 (freeM_of (by kernel_rfl))
            have g19 := hF 19 (freeM_of (by kernel_rfl))
            have g20 := hF 20 (freeM_of (by kernel_rfl))
            have g21 := hF 21 (freeM_of (by kernel_rfl))
            have g22 := hF 22 (freeM_of (by kernel_rfl))
            have g23 := hF 23 (freeM_of (by kernel_rfl))
            have g24 := hF 24 (freeM_of (by kernel_rfl))
            have g25 := hF 25 (freeM_of (by kernel_rfl))
            have g26 := hF 26 (freeM_of (by kernel_rfl))
            have g27 := hF 27 (freeM_of (by kernel_rfl))
            have g28 := hF 28 (freeM_of (by kernel_rfl))
            have g29 := hF 29 (freeM_of (by kernel_rfl))
            have g30 := hF 30 (freeM_of (by kernel_rfl))
            have g31 := hF 31 (freeM_of (by kernel_rfl))
            have g32 := hF 32 (freeM_of (by kernel_rfl))
            have g33 := hF 33 (freeM_of (by kernel_rfl))
            have g34 := hF 34 (freeM_of (by kernel_rfl))
            have g35 := hF 35 (freeM_of (by kernel_rfl))
            have g36 := hF 36 (freeM_of (by kernel_rfl))
            have g37 := hF 37 (freeM_of (by kernel_rfl))
            have g38 := hF 38 (freeM_of (by kernel_rfl))
            have g39 := hF 39 (freeM_of (by kernel_rfl))
            have g40 := hF 40 (freeM_of (by kernel_rfl))
            have g41 := hF 41 (freeM_of (by kernel_rfl))
            have g42 := hF 42 (freeM_of (by kernel_rfl))
            have g66 := hF 66 (freeM_of (by kernel_rfl))
            have g67 := hF 67 (freeM_of (by kernel_rfl))
            have g68 := hF 68 (freeM_of (by kernel_rfl))
            have g69 := hF 69 (freeM_of (by kernel_rfl))
            have g70 := hF 70 (freeM_of (by kernel_rfl))
            have g71 := hF 71 (freeM_of (by kernel_rfl))
            have g72 := hF 72 (freeM_of (by kernel_rfl))
            clear hF hD
            obtain ⟨x0, x1, x2, x3, x4, x5, x6, x7, x8, x9, x10, x11, x12, x13, x14, x15, x16, x17, x18, x19, x20, x21, x22, x23, x24, x25, x26, x27, x28, x29, x30, x31, x32, x33, x34, x35, x36, x37, x38, x39, x40, x41, x42, x43, x44, x45, x46, x47, x48, x49, x50, x51, x52, x53, x54, x55, x56, x57, x58, x59, x60, x61, x62, x63, x64, x65, x66, x67, x68, x69, x70, x71, x72, rfl⟩ : ∃ x0 x1 x2 x3 x4 x5 x6 x7 x8 x9 x10 x11 x12 x13 x14 x15 x16 x17 x18 x19 x20 x21 x22 x23 x24 x25 x26 x27 x28 x29 x30 x31 x32 x33 x34 x35 x36 x37 x38 x39 x40 x41 x42 x43 x44 x45 x46 x47 x48 x49 x50 x51 x52 x53 x54 x55 x56 x57 x58 x59 x60 x61 x62 x63 x64 x65 x66 x67 x68 x69 x70 x71 x72, T = #[x0, x1, x2, x3, x4, x5, x6, x7, x8, x9, x10, x11, x12, x13, x14, x15, x16, x17, x18, x19, x20, x21, x22, x23, x24, x25, x26, x27, x28, x29, x30, x31, x32, x33, x34, x35, x36, x37, x38, x39, x40, x41, x42, x43, x44, x45, x46, x47, x48, x49, x50, x51, x52, x53, x54, x55, x56, x57, x58, x59, x60, x61, x62, x63, x64, x65, x66, x67, x68, x69, x70, x71, x72] := by
              obtain ⟨Tl⟩ := T
              match Tl, hs with
              | x0 :: x1 :: x2 :: x3 :: x4 :: x5 :: x6 :: x7 :: x8 :: x9 :: x10 :: x11 :: x12 :: x13 :: x14 :: x15 :: x16 :: x17 :: x18 :: x19 :: x20 :: x21 :: x22 :: x23 :: x24 :: x25 :: x26 :: x27 :: x28 :: x29 :: x30 :: x31 :: x32 :: x33 :: x34 :: x35 :: x36 :: x37 :: x38 :: x39 :: x40 :: x41 :: x42 :: x43 :: x44 :: x45 :: x46 :: x47 :: x48 :: x49 :: x50 :: x51 :: x52 :: x53 :: x54 :: x55 :: x56 :: x57 :: x58 :: x59 :: x60 :: x61 :: x62 :: x63 :: x64 :: x65 :: x66 :: x67 :: x68 :: x69 :: x70 :: x71 :: x72 :: [], _ => exact ⟨x0, x1, x2, x3, x4, x5, x6, x7, x8, x9, x10, x11, x12, x13, x14, x15, x16, x17, x18, x19, x20, x21, x22, x23, x24, x25, x26, x27, x28, x29, x30, x31, x32, x33, x34, x35, x36, x37, x38, x39, x40, x41, x42, x43, x44, x45, x46, x47, x48, x49, x50, x51, x52, x53, x54, x55, x56, x57, x58, x59, x60, x61, x62, x63, x64, x65, x66, x67, x68, x69, x70, x71, x72, rfl⟩
            have q0 : x0 = .slice ao ps.length cap := Option.some.inj g0
            have q1 : x1 = .agg #[.int .i64 x, .int .i64 y] := Option.some.inj g1
            have q2 : x2 = undef := Option.some.inj g2
            have q3 : x3 = .pointer (some ⟨w.heap.size, 0, none⟩) := Option.some.inj g3
            have q4 : x4 = .bool false := Option.some.inj g4
            have q5 : x5 = .bool true := Option.some.inj g5
            have q6 : x6 = .pointer (some ⟨O, 0, none⟩) := Option.some.inj g6
            have q7 : x7 = .slice (some ⟨g, 0, none⟩) us.length cs := Option.some.inj g7
            have q8 : x8 = .int .i64 (us.length : Int) := Option.some.inj g8
            have q9 : x9 = .int .i64 S := Option.some.inj g9
            have q10 : x10 = .int .i64 (k : Int) := Option.some.inj g10
            have q11 : x11 = .bool true := Option.some.inj g11
            have q12 : x12 = .slice ao ps.length cap := Option.some.inj g12
            have q13 : x13 = .bool true := Option.some.inj g13
            have q14 : x14 = .bool false := Option.some.inj g14
            have q15 : x15 = .bool false := Option.some.inj g15
            have q16 : x16 = .slice ao ps.length cap := Option.some.inj g16
            have q17 : x17 = .int .i64 (ps.length : Int) := Option.some.inj g17
            have q18 : x18 = .bool (decide ((ps.length : Int) < 3)) := Option.some.inj g18
            have q19 : x19 = .bool (decide ((ps.length : Int) < 3)) := Option.some.inj g19
            have q20 : x20 = .bool (decide ((ps.length : Int) < 3)) := Option.some.inj g20
            have q21 : x21 = .agg #[.int .i64 x, .int .i64 y] := Option.some.inj g21
            have q22 : x22 = .bool true := Option.some.inj g22
            have q23 : x23 = .bool false := Option.some.inj g23
            have q24 : x24 = .bool (decide ((ps.length : Int) < 3)) := Option.some.inj g24
            have q25 : x25 = undef := Option.some.inj g25
            have q26 : x26 = .agg #[.int .i64 x, .int .i64 y] := Option.some.inj g26
            have q27 : x27 = .agg #[.int .i64 hx, .int .i64 hy] := Option.some.inj g27
            have q28 : x28 = .slice (some ⟨O + 1, 0, none⟩) 0 0 := Option.some.inj g28
            have q29 : x29 = .int .i64 (us.length : Int) := Option.some.inj g29
            have q30 : x30 = .slice ao ps.length cap := Option.some.inj g30
            have q31 : x31 = .int .i64 (ps.length : Int) := Option.some.inj g31
            have q32 : x32 = .bool false := Option.some.inj g32
            have q33 : x33 = u33 := Option.some.inj g33
            have q34 : x34 = u34 := Option.some.inj g34
            have q35 : x35 = u35 := Option.some.inj g35
            have q36 : x36 = u36 := Option.some.inj g36
            have q37 : x37 = u37 := Option.some.inj g37
            have q38 : x38 = u38 := Option.some.inj g38
            have q39 : x39 = u39 := Option.some.inj g39
            have q40 : x40 = u40 := Option.some.inj g40
            have q41 : x41 = u41 := Option.some.inj g41
            have q42 : x42 = u42 := Option.some.inj g42
            have q49 : x49 = .int .i64 S := Option.some.inj g49
            have q50 : x50 = .agg #[.int .i64 hx, .int .i64 hy] := Option.some.inj g50
            have q51 : x51 = .slice (some ⟨g, 0, none⟩) us.length cs := Option.some.inj g51
            have q52 : x52 = .int .i64 (k : Int) := Option.some.inj g52
            have q53 : x53 = .pointer (some ⟨g, k * 2, none⟩) := Option.some.inj g53
            have q54 : x54 = .agg #[.int .i64 a1, .int .i64 a2] := Option.some.inj g54
            have q55 : x55 = .slice (some ⟨g, 0, none⟩) us.length cs := Option.some.inj g55
            have q56 : x56 = .int .i64 (k : Int) := Option.some.inj g56
            have q57 : x57 = .int .i64 ((k : Int) + 1) := Option.some.inj g57
            have q58 : x58 = .slice (some ⟨g, 0, none⟩) us.length cs := Option.some.inj g58
            have q59 : x59 = .int .i64 (us.length : Int) := Option.some.inj g59
            have q60 : x60 = .int .i64 (j : Int) := Option.some.inj g60
            have q61 : x61 = .pointer (some ⟨g, j * 2, none⟩) := Option.some.inj g61
            have q62 : x62 = .agg #[.int .i64 e1, .int .i64 e2] := Option.some.inj g62
            have q63 : x63 = .slice (some ⟨b63, 0, none⟩) 3 c63 := Option.some.inj g63
            have q64 : x64 = .int .i64 t := Option.some.inj g64
            have q65 : x65 = .int .i64 (S + t) := Option.some.inj g65
            have q66 : x66 = undef := Option.some.inj g66
            have q67 : x67 = undef := Option.some.inj g67
            have q68 : x68 = undef := Option.some.inj g68
            have q69 : x69 = undef := Option.some.inj g69
            have q70 : x70 = undef := Option.some.inj g70
            have q71 : x71 = undef := Option.some.inj g71
            have q72 : x72 = undef := Option.some.inj g72
            clear g0 g1 g2 g3 g4 g5 g6 g7 g8 g9 g10 g11 g12 g13 g14 g15 g16 g17 g18 g19 g20 g21 g22 g23 g24 g25 g26 g27 g28 g29 g30 g31 g32 g33 g34 g35 g36 g37 g38 g39 g40 g41 g42 g49 g50 g51 g52 g53 g54 g55 g56 g57 g58 g59 g60 g61 g62 g63 g64 g65 g66 g67 g68 g69 g70 g71 g72
            subst q0 q1 q2 q3 q4 q5 q6 q7 q8 q9 q10 q11 q12 q13 q14 q15 q16 q17 q18 q19 q20 q21 q22 q23 q24 q25 q26 q27 q28 q29 q30 q31 q32 q33 q34 q35 q36 q37 q38 q39 q40 q41 q42 q49 q50 q51 q52 q53 q54 q55 q56 q57 q58 q59 q60 q61 q62 q63 q64 q65 q66 q67 q68 q69 q70 q71 q72
            clear s49 s50 s51 s52 s53 s54 s55 s56 s57 s58 s59 s60 s61 s62 s63 s64 s65
            have hB8 := HBB.out.trans (hb.mono HBB.out.size)
            have hS8 := prow_below HSS.out hb
            have hO8 := blk_call HOO.out hb
            clear hb p63 fk0 fk1 fj0 fj1 fo0 fo1
            show wpOpsIn _ _ _ _ _ [17] _ _
            simp only [wpOpsIn]
            go_simp
            go_wp2
            go_roundw
            case rel => exact ⟨k + 1, by omega, by go_num, by rw [HSN.out], hB8, hS8, hO8⟩
            case measure => simp [intOf]; omega
        · have e : k = us.length := by omega
          have hfin := sum_all us hx hy (by rw [HUL.out]; omega)
          rw [e, hfin]
          have hva : AllV us := fun i hi => ⟨(huh i hi).1.inv, (huh i hi).2.inv⟩
          have hul12 : us.length ≤ 12 := by rw [HUL.out]; exact h12
          have hu0 : 0 < us.length := by rw [HUL.out]; omega
          generalize hA : area2 us = A at *
          have HA := Lib.hid hA
          clear hfin hA e
          go_wp2_with fail
          refine (area_is g us.length cs us A _ rfl HA hu0 hul12 hS hva).mono ?_; rintro e w8 ⟨rfl, hb⟩
          go_wp2_with fail
          go_ret
          exact ⟨rfl, belT hB hb⟩

set_option maxRecDepth 100000 in
set_option maxHeartbeats 4000000 in
theorem walk {w : World} (ao : Option Addr) (cap : Nat) (ps : List (Int × Int)) (hle : ps.length ≤ 9223372036854775807) (hP : PRow w ao ps) (x y : Int) (hT : Rot.Tab w) :
    Calls Tryd.prog 4 #[.slice ao ps.length cap, .agg #[.int .i64 x, .int .i64 y]] w fun e w' => e = .returned (.bool true) ∧ Below w.heap.size w w' := by
  have hB : Below w.heap.size w w := Below.refl _ _
  by_cases hf : fitsB ps = true
  · obtain ⟨h12, hv⟩ := (fitsB_iff ps).1 hf
    have HF := Lib.hid hf
    by_cases h3 : 3 ≤ ps.length
    · by_cases hm : mayB x y = true
      · obtain ⟨ix, iy⟩ := (mayB_iff x y).1 hm
        exact walk_main ao cap ps hle hP x y hT h3 h12 hv ix iy
      · have HM : Hid (mayB x y = false) := Lib.hid (by simpa using hm)
        have h3i : 3 ≤ (ps.length : Int) := by omega
        clear hm hf
        go_enter Tryd.func4, Tryd.ntmps4
        go_wp2_with fail
        refine (head_any _ (hT.alloc _)).mono ?_; rintro e w1 ⟨rfl, hb⟩
        have hX := blk_call (blk_new w (.cells #[.int .i64 x, .int .i64 y] 25) _ rfl) hb
        replace hB := belT (belA hB _) hb
        replace hP := prow_below (prow_alloc hP _) hb
        clear hb hT
        go_wp2_with fail
        refine (fits_is ao _ cap ps true _ rfl HF hle hP).mono ?_; rintro e w2 ⟨rfl, hb⟩
        replace hX := blk_call hX hb
        replace hB := belT hB hb
        clear hb hP
        have x0 := blk_cell hX 0 _ rfl
        have x1 := blk_cell hX 1 _ rfl
        go_wp2_with fail
        refine (may_any x y false _ HM).mono ?_; rintro e w3 ⟨rfl, hb⟩
        replace hB := belT hB hb
        clear hb x0 x1 hX
        go_wp2_with fail
        go_ret
        exact ⟨rfl, hB⟩
    · have h3i : (ps.length : Int) < 3 := by omega
      clear hf
      go_enter Tryd.func4, Tryd.ntmps4
      go_wp2_with fail
      refine (head_any _ (hT.alloc _)).mono ?_; rintro e w1 ⟨rfl, hb⟩
      replace hB := belT (belA hB _) hb
      replace hP := prow_below (prow_alloc hP _) hb
      clear hb hT
      go_wp2_with fail
      refine (fits_is ao _ cap ps true _ rfl HF hle hP).mono ?_; rintro e w2 ⟨rfl, hb⟩
      replace hB := belT hB hb
      clear hb hP
      go_wp2_with fail
      go_ret
      exact ⟨rfl, hB⟩
  · have HF : Hid (fitsB ps = false) := Lib.hid (by simpa using hf)
    clear hf
    go_enter Tryd.func4, Tryd.ntmps4
    go_wp2_with fail
    refine (head_any _ (hT.alloc _)).mono ?_; rintro e w1 ⟨rfl, hb⟩
    replace hB := belT (belA hB _) hb
    replace hP := prow_below (prow_alloc hP _) hb
    clear hb hT
    go_wp2_with fail
    refine (fits_is ao _ cap ps false _ rfl HF hle hP).mono ?_; rintro e w2 ⟨rfl, hb⟩
    replace hB := belT hB hb
    clear hb hP
    go_wp2_with fail
    go_ret
    exact ⟨rfl, hB⟩

set_option maxRecDepth 100000 in
theorem lifted (os : Os) (started : os.Started) (H : Type) (enc : TypeId × Value → H) :
    ReturnsInHanded {} Tryd.checked os 4 .any (fun w args => (Rows.polygonAreaFromTrianglesSpec.pre enc Tryd.prog Tryd.f4 [] false w args ∧ laidMetH Tryd.prog Rows.polygonAreaFromTrianglesRow.laid w) ∧ sizedMet enc Tryd.prog Tryd.f4 (OpenSpec.ofChange Rows.polygonAreaFromTrianglesSpec) false w args)
      (Rows.polygonAreaFromTrianglesSpec.post enc Tryd.prog Tryd.f4 false true false false) := by
  refine returnsInHanded_of_change_and (C := Tryd.checked) (X := fun w _ => laidMetH Tryd.prog Rows.polygonAreaFromTrianglesRow.laid w) (fun _ _ _ hh h => h.of_heap hh) Rot.own started (by kernel_rfl) Tryd.func4
    (ChangeSpec.witness_shaped (enc := enc) (C := Tryd.checked) (os := os) (X := fun w _ => laidMetH Tryd.prog Rows.polygonAreaFromTrianglesRow.laid w) false (World.doorLaid Tryd.prog 600 os) #[.slice none 0 0, .agg #[.int .i64 0, .int .i64 0]] 8 rfl (World.shaped_of_RefB (by kernel_rfl) (by kernel_rfl)) (by kernel_rfl) (by kernel_rfl) (by kernel_rfl) (show laidMetH Tryd.prog [(Rot.qn, Rows.laid_ambidexter_rotation_quadrant)] _ from Rot.door_met os _)) ?_
  intro W base args ds gs before hval0 hW _ _ hL _
  have hval : ∀ (j : Nat) t v, Tryd.f4.params[j]? = some t → args[j]? = some v → Value.okWide Tryd.prog W .any base t v := hval0
  have hW' := hW
  obtain ⟨p, q, hA0, hV, rfl, hfz, hnd⟩ := hW
  have hA : DataW.TrodAll enc Tryd.prog W 0 (fun _ => true) true Tryd.f4.params.toList args.toList ds p := hA0
  rw [Tryd.params4] at hA hval
  obtain ⟨v0, vs0, d0, ds0, p0, q0, hargs, rfl, rfl, h0, r0⟩ := trodAll_cons hA
  obtain ⟨v1, vs1, d1, ds1, p1, q1, rfl, rfl, rfl, h1, r1⟩ := trodAll_cons r0
  obtain ⟨rfl, rfl, rfl⟩ := trodAll_nil r1
  obtain rfl : args = #[v0, v1] := by cases args; simp_all
  obtain ⟨rfl, rfl⟩ := trodVars_none hV
  have k0 := h0
  have lt0 : ∀ x ∈ p0, x.block < W.heap.size := by obtain ⟨m, hm⟩ := k0; exact DataW.trod_lt m _ _ _ hm
  obtain ⟨a0, cap0, l0, rfl, n0, w0⟩ := Fr.open_pts (hval 0 23 v0 rfl rfl) h0
  have k1 := h1
  have lt1 : ∀ x ∈ p1, x.block < W.heap.size := by obtain ⟨m, hm⟩ := k1; exact DataW.trod_lt m _ _ _ hm
  obtain ⟨x1, y1, rfl⟩ := Fr.open_pt (hval 1 25 v1 rfl rfl) h1
  clear hA0 hval0
  simp only [List.append_nil] at hW'
  refine (walk a0 cap0 l0 n0 w0 x1 y1 (Rot.tab_of_laid hL)).mono fun e W' ⟨he, bel⟩ => ?_
  subst he
  exact ⟨_, rfl, _, _, _, [], _, [], hW', trodAll_mk1 (shut_bool Tryd.underlying4 _), (trodAll_cons_mk (Below.trod Fr.laidOut (by kernel_rfl) (of_decide_eq_true (by kernel_rfl)) k0 bel lt0) (trodAll_cons_mk (Below.trod Fr.laidOut (by kernel_rfl) (of_decide_eq_true (by kernel_rfl)) k1 bel lt1) trodAll_mk0)), rfl, bel.frame _, fun h => by cases h⟩

theorem holds : Rows.PolygonAreaFromTrianglesSaid :=
  OpenClaim.holds_of_wide 4 Tryd.f4 rfl rfl rfl rfl rfl rfl rfl ⟨rfl, rfl, rfl, rfl, rfl⟩ rfl rfl rfl rfl rfl (by kernel_rfl) Tryd.func4 (by kernel_rfl)
    (of_decide_eq_true (by kernel_rfl)) (by unfold Func.isWrapper; first | (rw [if_pos (by decide +kernel)]; kernel_rfl) | (rw [if_neg (by decide +kernel)]; exact ⟨rfl, rfl⟩))
    (fun os started H enc _ => lifted os started H enc)

/-- THE STATEMENT: the tied card. -/
theorem card_holds : Rows.PolygonAreaFromTrianglesCardSaid :=
  Claim7.holds_tied_plain_at .later [] [.data] true Rows.polygonAreaFromTrianglesCard.stood.harness false
    holds (fun _ h => by cases h) (by kernel_rfl) (fun _ h => by cases h) polygonAreaFromTriangles_row_tie rfl ⟨rfl, rfl⟩ (by kernel_rfl) rfl
    (fun f fn hf hfn => by
      obtain rfl : f = 4 := Option.some.inj ((show Tryd.prog.funcNamed Rows.polygonAreaFromTrianglesRow.func = some 4 by kernel_rfl).symm.trans hf) |>.symm
      obtain rfl : fn = Tryd.f4 := (Option.some.inj (Tryd.func4.symm.trans hfn)).symm
      exact ⟨by kernel_rfl, fun j t ht => by
        rw [Tryd.params4] at ht
        have hm : t ∈ [23, 25] := by have := Array.mem_of_getElem? ht; simp only [List.mem_toArray, List.mem_cons, List.not_mem_nil, or_false] at this ⊢; grind
        have hall : ([23, 25].all fun u => !Tryd.prog.wantsStandIn u) = true := by kernel_rfl
        exact (show Tryd.prog.wantsStandIn t = false by simpa using List.all_eq_true.1 hall t hm)⟩)
    (by kernel_rfl)
#print axioms card_holds
end Go.Proofs.YthmcejeeohlafaaDoor.polygonAreaFromTriangles
